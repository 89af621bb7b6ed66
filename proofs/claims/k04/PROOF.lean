import PyProof.Rows.All
import Wide.All
import OpenK.AllK
import Wide.FinOn
import HandS.Base
import HandS.AnyAll
import PyProof.GenQ
import PyProof.GenRules
import HandS.GenOver
import HandS.SetKeys
import HandS.Strs
import PyProof.WalksMore
import HandS.ForMost
import HandS.IsInst
import HandS.Wide
import HandS.Defaults
import HandS.Style
import HandS.Zip
import HandS.Flow
import HandS.DeepEq
import HandS.More
import HandS.TupAny
import HandS.SortInts
import HandS.ListItems
import KE.KDictZip
import KE.KTurns
import PyProof.CollectWalk
import PyProof.ListNew
import HandS.EndTab
import KE.KNest
import PySem.Challenge.RW_openlane_k04_whole_replay_in_pieces
set_option maxRecDepth 100000
namespace Ln
open PySem
/-! ### the text -/
def topS (i : Nat) : Stmt := PySem.Challenge.pw_openlane_k04_whole_replay_in_pieces.main.body.getD i (.Pass ⟨0, 0, 0, 0⟩)
abbrev sIsCar : Stmt := topS 6
abbrev sIsSide : Stmt := topS 7
abbrev sIsLane : Stmt := topS 8
abbrev sIsArr : Stmt := topS 9
abbrev sIsDep : Stmt := topS 10
abbrev sHasW : Stmt := topS 11
abbrev sIsLog : Stmt := topS 12
abbrev sReqLane : Stmt := topS 13
abbrev sReqLog : Stmt := topS 14
abbrev sReqSides : Stmt := topS 15
abbrev sSizes : Stmt := topS 16
abbrev sNumbers : Stmt := topS 17
abbrev sReplay : Stmt := topS 18
abbrev sSource : Stmt := topS 21
abbrev sDraw : Stmt := topS 22
abbrev sMixed : Stmt := topS 23
abbrev sVeh : Stmt := topS 24
abbrev sHap : Stmt := topS 25
abbrev sRen : Stmt := topS 26
abbrev sPcs : Stmt := topS 27
abbrev sMove : Stmt := topS 19
abbrev sLaw : Stmt := topS 28
end Ln


set_option Elab.async false
set_option linter.all false
set_option maxRecDepth 100000
set_option maxHeartbeats 2000000
namespace Ln
open PySem PySem.Spec PyProof.Rows L2 GxR

theorem bare_set {s : Shared} {g : Nat} {x : GenState} (h : AllBare s.gens) (hx : x.bare = true) : AllBare (s.setGen g x).gens := by
  intro y hy
  obtain ⟨i, hi, e⟩ := Array.mem_iff_getElem.mp hy
  have sz : (s.setGen g x).gens.size = s.gens.size := by simp [Shared.setGen]
  have hi' : i < s.gens.size := by omega
  by_cases z : i = g
  · have q : (s.setGen g x).gens[i]? = some x := by
      show (s.gens.setIfInBounds g x)[i]? = some x
      subst z
      simp [hi']
    rw [Array.getElem?_eq_getElem hi, e] at q
    cases q
    exact hx
  · have q : (s.setGen g x).gens[i]? = s.gens[i]? := by
      show (s.gens.setIfInBounds g x)[i]? = s.gens[i]?
      exact Array.getElem?_setIfInBounds_ne (Ne.symm z)
    rw [Array.getElem?_eq_getElem hi, e] at q
    exact h y (Array.mem_of_getElem? q.symm)

/-- the context of a generator expression's own frame -/
def genCx (X : Cx) (cenv : Env) (A' : Around) (x : Str) (fp : List Addr) (s4 : Shared) (H4 : Hp) (pn : List (Addr × Obj)) : Cx where
  prog := X.prog
  w := X.w
  K := X.K
  mg := X.mg
  base := X.base
  A := A'
  N := [x]
  s_0 := s4
  H_0 := H4
  env := cenv
  outer := X.stack
  stack := cenv :: X.stack
  ex := fp
  fn := fun _ => true
  calm := true
  pn := pn
  xe := fun _ _ => False

structure GSc (scope : Scope) (x : Str) : Prop where
  kind : scope.kind = .function
  co : scope.isCoroutine = false
  cell : ∀ y ∈ scope.names, y.2 ≠ .cell
  free : ∀ y ∈ scope.names, y.2 ≠ .free
  dot : scope.names.lookup (".0" : Str) = some NameKind.local
  loc : scope.names.lookup x = some .local

theorem clo_nil {cells : List (Str × Addr)} : ∀ {names : List (Str × NameKind)} {acc : List (Str × Addr)}, (∀ y ∈ names, y.2 ≠ .free) → cloFrom cells names acc = acc
  | [], _, _ => rfl
  | (n, k) :: r, acc, h => by
    have hk : k ≠ .free := h (n, k) List.mem_cons_self
    unfold cloFrom
    rw [if_neg (by simpa using hk)]
    exact clo_nil fun y hy => h y (List.mem_cons_of_mem _ hy)

theorem over_comp {A : Around} {elt : Expr} {gs : List Comprehension} {scope : Scope} {pos : Pos} {it acc : Value} {env : Env} :
    A.over (.compLoop (.GeneratorExp elt gs scope pos) 0 it acc env) [] = A.deeper env := by
  first
    | rfl
    | (obtain ⟨hd, d, fr, gs, u⟩ := A; simp [Around.over, Around.deeper, marksOver, frameCount, unitsOf, envsOf, guardsOf, pushEnvs, pushGuards, Code.envs, Code.env?, Code.isFrame, Code.guards, Code.isGuard, Code.weight, Code.frames, Code.isCreation, Code.isCaller, Code.cUnits])
theorem over_start {A : Around} {elt : Expr} {gs : List Comprehension} {scope : Scope} {pos : Pos} {it acc : Value} {env : Env} :
    A.over (.compStart (.GeneratorExp elt gs scope pos) 0 it acc env) [] = A.deeper env := by
  first
    | rfl
    | (obtain ⟨hd, d, fr, gs, u⟩ := A; simp [Around.over, Around.deeper, marksOver, frameCount, unitsOf, envsOf, guardsOf, pushEnvs, pushGuards, Code.envs, Code.env?, Code.isFrame, Code.guards, Code.isGuard, Code.weight, Code.frames, Code.isCreation, Code.isCaller, Code.cUnits])


def YA (Y : Cx) (Q : VK) : Protocol := fun _ _ v s kap =>
  ∃ (b : Bool) (H : Hp), v = .bool b ∧ Inv Y [] [none] H s ∧ if b = true then ∀ s', s'.heap = s.heap → s'.os = s.os → AllBare s'.gens → kap (.send .none) s' else Q (.bl false) H
def RA (Y : Cx) (Q : VK) : Nat → Shared → Shared → Prop := fun _ _ s => ∃ H, Inv Y [] [none] H s ∧ Q (.bl true) H
def RestA (Y : Cx) (fp : List Addr) (tn : Nat → Heap → Prop) (W : Nat → Nat → Hp → Prop) (n i : Nat) (s : Shared) : Prop :=
  ∃ m H, m < n ∧ Inv Y [] [none] H s ∧ tn i s.heap ∧ (∀ b ∈ fp, H b = none) ∧ W i m H
/-- what is asked of each turn -/
def TurnA (J : It) (te : TE) (W : Nat → Nat → Hp → Prop) (Q : VK) : Prop := ∀ i m H, W i m H →
  (J.stop i H ∧ Q (.bl true) H) ∨ (J.go i H ∧ ∀ v H', J.yld i H v H' → te [some v] H' fun y H3 => ∃ b, y = .bl b ∧ if b = true then ∃ m', m' < m ∧ W (i + 1) m' H3 else Q (.bl false) H3)
theorem inv_none {Y : Cx} {v : Option V} {pins : List (Addr × Obj)} {H : Hp} {s : Shared} (I : Inv Y pins [v] H s) : Inv Y pins [none] H s :=
  I.weak rfl fun i u e => by
    match i, e with
    | 0, e => cases e
    | i + 1, e => simp at e
theorem inv_same {Y : Cx} {pins : List (Addr × Obj)} {σ : L2.St} {H : Hp} {s s' : Shared} (I : Inv Y pins σ H s) (hh : s'.heap = s.heap) (ho : s'.os = s.os) (hg : AllBare s'.gens) : Inv Y pins σ H s' :=
  I.call' (ch := []) ho (by rw [hh]; exact Un.refl) (by rw [hh]; exact I.hok) hg fun b z => by simp at z

section
variable {X : Cx} {elt iter : Expr} {x : Str} {px pos : Pos} {scope : Scope} {it : Addr} {fp : List Addr} {tn : Nat → Heap → Prop} {J : It} {te : TE} {W : Nat → Nat → Hp → Prop} {Q : VK} {cenv : Env} {s4 : Shared} {H4 : Hp} {pn : List (Addr × Obj)} {A2 : Around}
theorem seg_all (hsc : GSc scope x) (hcs : cenv.scope = scope)
    (hE : PE (genCx X cenv (A2.deeper cenv) x fp s4 H4 pn) elt te) (T : Turn X.prog X.w X.K (.Name x px) J fp it tn)
    (hst : ∀ H : Hp, (∀ b ∈ fp, H b = none) → ∀ b ∈ fp, FpOk (genCx X cenv (A2.deeper cenv) x fp s4 H4 pn) [] H b) (turn : TurnA J te W Q) :
    ∀ (n i : Nat) (s₀ s : Shared), RestA (genCx X cenv (A2.deeper cenv) x fp s4 H4 pn) fp tn W n i s →
      Seg (model X.prog X.w) A2 (fun n s₀ r s₁ => r = .ok .next ∧ RA (genCx X cenv (A2.deeper cenv) x fp s4 H4 pn) Q n s₀ s₁) (YA (genCx X cenv (A2.deeper cenv) x fp s4 H4 pn) Q) n s₀
        (.compLoop (.GeneratorExp elt [⟨.Name x px, iter, [], 0⟩] scope pos) 0 (.ref it) .none cenv)
        ((model X.prog X.w).den (.compLoop (.GeneratorExp elt [⟨.Name x px, iter, [], 0⟩] scope pos) 0 (.ref it) .none cenv)) [] s := by
  intro n
  induction n with
  | zero =>
    intro i s₀ s ⟨m, _, hm, _⟩
    exact absurd hm (Nat.not_lt_zero m)
  | succ n ih =>
    intro i s₀ s ⟨m, H, hm, I, st, fr, w⟩
    have ov : A2.over (.compLoop (.GeneratorExp elt [⟨.Name x px, iter, [], 0⟩] scope pos) 0 (.ref it) .none cenv) [] = A2.deeper cenv := over_comp
    show Seg _ A2 _ _ _ s₀ _ ((compTurn (.GeneratorExp elt [⟨.Name x px, iter, [], 0⟩] scope pos) 0 (.ref it) .none cenv).onRaise (leaving cenv)) [] s
    rw [compTurn_gen, Sem.onRaise_eq_wrap]
    refine seg_bind_wrap (wpAny_standAt (seg_bind_wrap ?_))
    rw [ov]
    rcases turn i m H w with ⟨stop, q⟩ | ⟨go, step⟩
    · refine thn (T.done (genCx X cenv (A2.deeper cenv) x fp s4 H4 pn) rfl rfl rfl rfl i [] s [none] H _ I (hst H fr) st stop) fun r s1 h1 => ?_
      obtain ⟨rfl, I1⟩ := h1
      exact seg_end (.ok .next) ⟨rfl, H, I1, q⟩
    · refine thn (T.item (genCx X cenv (A2.deeper cenv) x fp s4 H4 pn) rfl rfl rfl rfl i [] s [none] H _ I (hst H fr) st go) fun r s1 h1 => ?_
      obtain ⟨u, rfl, h1⟩ := h1
      refine seg_bind_wrap ?_
      rw [ov]
      refine thn h1 fun _ s2 h2 => ?_
      obtain ⟨v, H2, I2, r2, y2, st2, fr2⟩ := h2
      have I2' := I2.pinned (hst H2 fr2) (T.obj _ _ st2)
      refine seg_bind_wrap ?_
      rw [ov]
      have hpg : PG (genCx X cenv (A2.deeper cenv) x fp s4 H4 pn) (.Name x px) (gName 0) := pg_name (X := genCx X cenv (A2.deeper cenv) x fp s4 H4 pn) (List.nodup_cons.mpr ⟨by simp, List.nodup_nil⟩) rfl (.inl (by show cenv.scope.names.lookup x = _; rw [hcs]; exact hsc.loc)) (.inl rfl)
      refine wpAny_mono (hpg.run _ s2 [none] H2 v u (fun σ' H' => σ' = [some v] ∧ H' = H2) I2' r2 ⟨rfl, rfl⟩) (fun _ s3 h3 => ?_) fun _ _ z => False.elim z
      obtain ⟨σ3, H3, I3, e3, e4⟩ := h3
      subst e3
      have e4 := e4.symm
      subst e4
      refine seg_bind_wrap ?_
      refine wpAny_of_eq (a := true) (by simp only [List.forIn_nil]) ?_
      simp only [if_true]
      have hy : ∀ v, yieldOut cenv v = yieldValue v := fun v => by simp only [yieldOut, hcs, hsc.co, Bool.false_eq_true, if_false]
      simp only [hy]
      rw [Sem.bind_eq_wrap', Sem.bind_eq_wrap', Sem.wrap_wrap, Sem.wrap_wrap]
      refine seg_wrap ?_
      rw [ov]
      refine wpAny_mono (hE.run _ s3 [some v] H2 _ I3 (step v H2 y2)) (fun y s5 h5 => ?_) fun _ _ z => False.elim z
      obtain ⟨v5, H5, I5, r5, b, rfl, hb⟩ := h5
      obtain rfl : y = Value.bool b := r5
      have I6 := inv_none I5
      have fr5 : ∀ b ∈ fp, H5 b = none := fun c hc => by
        obtain ⟨o, e, d⟩ := T.obj _ _ st2 c hc
        exact (I5.pin (c, o) (List.mem_append_right _ (List.mem_append_right _ (mem_pinsAt hc e)))).2.1
      have st5 : tn (i + 1) s5.heap := T.keep _ _ _ st2 fun c hc o e => (I5.pin (c, o) (List.mem_append_right _ (List.mem_append_right _ (mem_pinsAt hc e)))).1
      refine seg_at (seg_yield rfl rfl rfl ⟨b, H5, rfl, I6.unpinned, ?_⟩)
      cases b with
      | false => exact hb
      | true =>
        obtain ⟨m', hm', w'⟩ := hb
        intro s6 hh ho hbare
        refine seg_again rfl (ih (i + 1) s6 s6 ⟨m', H5, by omega, inv_same I6.unpinned hh ho hbare, by rw [hh]; exact st5, fr5, w'⟩)
end

section
variable {X : Cx} {elt iter : Expr} {x : Str} {px pos : Pos} {scope : Scope} {it : Addr} {fp : List Addr} {tn : Nat → Heap → Prop} {J : It} {te : TE} {W : Nat → Nat → Hp → Prop} {Q : VK} {cenv : Env} {s4 : Shared} {H4 : Hp} {pn : List (Addr × Obj)} {A2 : Around}
theorem seg_all0 (hsc : GSc scope x) (hcs : cenv.scope = scope)
    (hE : PE (genCx X cenv (A2.deeper cenv) x fp s4 H4 pn) elt te) (T : Turn X.prog X.w X.K (.Name x px) J fp it tn)
    (hst : ∀ H : Hp, (∀ b ∈ fp, H b = none) → ∀ b ∈ fp, FpOk (genCx X cenv (A2.deeper cenv) x fp s4 H4 pn) [] H b) (turn : TurnA J te W Q)
    (n : Nat) (s₀ s : Shared) (h : RestA (genCx X cenv (A2.deeper cenv) x fp s4 H4 pn) fp tn W n 0 s) :
      Seg (model X.prog X.w) A2 (fun n s₀ r s₁ => r = .ok .next ∧ RA (genCx X cenv (A2.deeper cenv) x fp s4 H4 pn) Q n s₀ s₁) (YA (genCx X cenv (A2.deeper cenv) x fp s4 H4 pn) Q) n s₀
        (.compStart (.GeneratorExp elt [⟨.Name x px, iter, [], 0⟩] scope pos) 0 (.ref it) .none cenv)
        ((model X.prog X.w).den (.compStart (.GeneratorExp elt [⟨.Name x px, iter, [], 0⟩] scope pos) 0 (.ref it) .none cenv)) [] s := by
  have hl := seg_all (iter := iter) (pos := pos) hsc hcs hE T hst turn n 0 s₀ s h
  obtain ⟨m, H, _, I, st, _⟩ := h
  show Seg _ A2 _ _ _ s₀ _ ((compStart (.GeneratorExp elt [⟨.Name x px, iter, [], 0⟩] scope pos) 0 (.ref it) .none cenv).onRaise (leaving cenv)) [] s
  unfold compStart
  rw [Sem.onRaise_eq_wrap]
  show Seg _ A2 _ _ _ s₀ _ (Sem.wrap _ _ _ _ (ask >>= _)) [] s
  refine seg_bind_wrap (wpAny_askSetting ?_)
  split
  · exact seg_again rfl hl
  · first
      | exact seg_bind_wrap (wpAny_rule (seg_bind_wrap (wpAny_standAt (seg_bind_wrap (T.self _ 0 s _ _ st (seg_again rfl hl))))))
      | (refine seg_bind_wrap (wpAny_rule ?_)
         show Seg _ A2 _ _ _ s₀ _ (Sem.wrap _ _ _ _ (standAt iter.pos >>= _)) [] s
         exact seg_bind_wrap (wpAny_standAt (seg_bind_wrap (T.self _ 0 s _ _ st (seg_again rfl hl)))))

theorem loop_all {Y : Cx} {ag : Addr} {go : Obj} {g : Nat} {A : Around} {R : Result → Shared → Prop} (hpn : (ag, go) ∈ Y.pn) (hgo : ∀ h : Heap, h.get? ag = some go → h.IsGen ag g) (hh : A.handled = none) (hd : A.depth < recursionLimit)
    (hR : ∀ (b : Bool) (H : Hp) (s : Shared), Inv Y [] [none] H s → Q (.bl b) H → R (.ok (.ret (.bool b))) s) :
    ∀ (n : Nat) (s : Shared), s.heap.IsGen ag g → s.heap.NoLimit →
      (∃ gs, s.gens[g]? = some gs ∧ gs.Goes (model Y.prog Y.w) A.in1.in1 (fun n s₀ r s₁ => r = .ok .next ∧ RA Y Q n s₀ s₁) (YA Y Q) n (.send .none) (s.setGen g .running)) →
      codeAny (model Y.prog Y.w) A (.builtin "all.loop" ⟨[.ref ag], []⟩) R s := by
  have ends : ∀ (n : Nat) (s s₁ : Shared), RA Y Q n (s.setGen g .running) s₁ → ∀ h', (∀ b o, s₁.heap.get? b = some o → h'.get? b = some o) → R (.ok (.ret (.bool true))) { s₁.setGen g .finished with heap := h' } := by
    intro n s s₁ ⟨H, I, q⟩ h' hk
    refine hR true H _ ?_ q
    exact I.call' (ch := []) rfl (Un.kept hk) (I.hok.kept hk) (bare_set I.bare rfl) fun b z => by simp at z
  intro n
  induction n with
  | zero =>
    intro s hg hl ⟨gs, hgs, hgo'⟩
    refine codeAny_builtin F.entry_all_loop ?_
    rw [Around.under_plainId F.plain_all_loop _]
    show wpAny _ A.in1 (pyNext (.ref ag) >>= fun r => _) _ _ s
    refine wpAny_bind (wpAny_pyNext_genexpQ (A := A.in1) (P := RA Y Q) hh hl hd hg hgs hgo' (fun v s₁ gs' hbare hv => ?_) fun s₁ hp h' hk => ?_)
    · obtain ⟨b, H, rfl, I, hb⟩ := hv
      refine wpAny_bind (wpAny_holding (wpAny_truthy_bool ?_))
      refine wpAny_bind (wpAny_letGo ?_)
      cases b with
      | true => exact False.elim (hb s₁ rfl rfl I.bare)
      | false =>
        simp only [Bool.false_eq_true, if_false]
        exact wpAny_bind (wpAny_rule (wpAny_pure (hR false H _ (inv_same I rfl rfl (bare_set I.bare hbare)) hb)))
    · exact wpAny_bind (wpAny_rule (wpAny_pure (ends _ _ _ hp h' hk)))
  | succ n ih =>
    intro s hg hl ⟨gs, hgs, hgo'⟩
    have hgl : g < s.gens.size := (Array.getElem?_eq_some_iff.mp hgs).1
    refine codeAny_builtin F.entry_all_loop ?_
    rw [Around.under_plainId F.plain_all_loop _]
    show wpAny _ A.in1 (pyNext (.ref ag) >>= fun r => _) _ _ s
    refine wpAny_bind (GenW.wpAny_gsz (n := g + 1) hgl (wpAny_pyNext_genexpQ (A := A.in1) (P := RA Y Q) hh hl hd hg hgs hgo' (fun v s₁ gs' hbare hv => ?_) fun s₁ hp h' hk => ?_))
    · intro hsz
      obtain ⟨b, H, rfl, I, hb⟩ := hv
      refine wpAny_bind (wpAny_holding (wpAny_truthy_bool ?_))
      refine wpAny_bind (wpAny_letGo ?_)
      have sz : (s₁.setGen g gs').gens.size = s₁.gens.size := by simp [Shared.setGen]
      have hsz1 : g < s₁.gens.size := by
        have : g + 1 ≤ (s₁.setGen g gs').gens.size := hsz
        omega
      cases b with
      | true =>
        simp only [if_true]
        refine wpAny_pure ⟨plainId_quiet F.plain_all_loop _, ih _ (hgo _ ?_) I.nolimit ⟨gs', ?_, ?_⟩⟩
        · exact (I.pin (ag, go) (List.mem_append_left _ hpn)).1
        · show (s₁.gens.setIfInBounds g gs')[g]? = some gs'
          simp [hsz1]
        · exact hb _ rfl rfl (bare_set (s := s₁.setGen g gs') (bare_set I.bare hbare) rfl)
      | false =>
        simp only [Bool.false_eq_true, if_false]
        exact wpAny_bind (wpAny_rule (wpAny_pure (hR false H _ (inv_same I rfl rfl (bare_set I.bare hbare)) hb)))
    · intro _
      exact wpAny_bind (wpAny_rule (wpAny_pure (ends _ _ _ hp h' hk)))
end

def tAllG (P : Addr) (wi : TI) (te : TE) : TE := fun σ H Q => wi σ H fun J H1 => TabG H1 P ∧ ∃ W : Nat → Nat → Hp → Prop, (∀ H2, Tabbed P H1 H2 → ∃ m, W 0 m H2) ∧ TurnA J te W Q
section
variable {X : Cx}
theorem boot_all : bootBuiltins "all" = some (.builtin "all") := by decide +kernel
/-- all(elt for x in iter): elt anything that raises nothing -/
theorem pe_allG {c P : Addr} {elt iter : Expr} {x : Str} {px p pos gpos : Pos} {scope : Scope} {wi : TI} {te : TE} {k : Nat}
    (hr : Room (k + 1) X.A) (hc : X.calm = true) (hg : Gl X "all") (hm : X.mg "all" = none) (TB : TabB X.base X.mg c P) (hcode : X.env.code = .ref c) (S : GSc scope x) (hi : PI X (.Name x px) iter wi)
    (hE : ∀ (C : Addr) (code : Value) (bi : Addr) (A' : Around) (fp : List Addr) (s4 : Shared) (H4 : Hp) (pn : List (Addr × Obj)), Room k A' → PE (genCx X (genEnv scope [] C code bi X.env) A' x fp s4 H4 pn) elt te)
    (hs : ∀ v, genFold iter X.env v = pure v := by intro _; rfl)
    (he : starEach [.GeneratorExp elt [⟨.Name x px, iter, [], 0⟩] scope gpos] X.env = (false, eval (.GeneratorExp elt [⟨.Name x px, iter, [], 0⟩] scope gpos) X.env) :: starEach [] X.env := by rfl) :
    PE X (.Call (.Name "all" p) [.GeneratorExp elt [⟨.Name x px, iter, [], 0⟩] scope gpos] [] pos) (tAllG P wi te) := by
  refine ⟨fun pins s σ H Q I h => ?_⟩
  refine wpAny_Call_Name_kw (ld_blt I hg hm boot_all ?_)
  refine PyProof.Rows.callWith_builtin1 ?_ he (by rfl)
  rw [he]
  show wpAny (model X.prog X.w) X.A (spliced ((false, eval (.GeneratorExp elt [⟨.Name x px, iter, [], 0⟩] scope gpos) X.env) :: backTo pos (starEach [] X.env))) _ _ s
  have hclo : closureFor scope X.env = pure [] := by
    rw [closure_ok fun y hy e => absurd e (S.free y hy), clo_nil S.free]
  refine Calls.spliced_cons (wpAny_GeneratorExp_make S.co hclo S.cell S.dot S.kind hr.depth ?_ hs)
  refine thn (hi.run pins s σ H _ I h) fun xv s1 h1 => thn h1 fun itv s2 h2 => ?_
  obtain ⟨it, fp, tn, J, H2, rfl, I2, T, st2, f2, ⟨ps, hP, htr⟩, W, hW, turn⟩ := h2
  refine ⟨I2.nolimit, ?_⟩
  have hPs : s2.heap.get? P = some { cls := .none, data := .fields ps } := I2.hok P _ hP
  have cd : PySem.W.CodeHd s2.heap c P := TB.code.keeps I2.bk
  have fpP : ∀ b ∈ fp, b ≠ P := fun b hb e => by
    have := (f2 b hb).1
    rw [e, hP] at this
    cases this
  have cont : ∀ (code : Value) (h3 : Heap) (tk : Nat) (H3 : Hp), Inv X pins σ H3 { s2 with heap := h3, toks := tk } → Tabbed P H2 H3 → tn 0 h3 →
      wpAny (model X.prog X.w) X.A (builtinsFor X.env.globals X.env.builtins) (fun bi s4 =>
        ∀ h', h'.Ns s4.heap.objs.size (fun y => if y = ".0" then some (.ref it) else none) → Heap.SameBut s4.heap.objs.size (s4.heap.push { cls := .type "frame", data := .dict #[] }) h' →
          wpAny (model X.prog X.w) X.A (call (.builtin "all") [.ref h'.objs.size]) (EP X pins σ Q) X.xe { s4 with
            gens := s4.gens.push (.fresh (.compStart (.GeneratorExp elt [⟨.Name x px, iter, [], 0⟩] scope gpos) 0 (.ref it) .none (genEnv scope [] s4.heap.objs.size code bi X.env))),
            toks := s4.toks + 1 + 1 + 1,
            heap := h'.push { cls := .type "generator", data := .fields #[.int s4.gens.size 0, .str "<genexpr>" (s4.toks + 1), .str (X.env.qual ++ "<genexpr>") (s4.toks + 1 + 1)] } }) X.xe { s2 with heap := h3, toks := tk } := by
    intro code h3 tk H3 I3 hT st3
    have fr3 : ∀ b ∈ fp, H3 b = none := fun b hb => (hT.2 b (fpP b hb)).trans (f2 b hb).1
    obtain ⟨bm, ob, e1, e2, e3, e4, e5, e6, e7, e8⟩ := TB.bm
    refine wpAny_builtinsFor (m := X.mg) (by rw [I3.ok.glob]; exact I3.mod.glob.keeps I3.bk) e1 e2 (I3.bk _ _ e5) e6 e7 e8 ?_
    intro h' hn' hs'
    generalize hs3 : ({ s2 with heap := h3, toks := tk } : Shared) = s3 at *
    generalize hgo : ({ cls := .type "generator", data := .fields #[.int s3.gens.size 0, .str "<genexpr>" (s3.toks + 1), .str (X.env.qual ++ "<genexpr>") (s3.toks + 1 + 1)] } : Obj) = go
    have hgd : ∀ h : Heap, ∀ a, h.get? a = some go → h.IsGen a s3.gens.size := fun h a e => ⟨go, _, _, e, by rw [← hgo], by rw [← hgo], by rw [← hgo]⟩
    have hgp : ∀ h : Heap, (h.push go).get? h.objs.size = some go := fun h => Heap.get?_push_size _ (by rw [← hgo]; rfl)
    have hgc : ∀ v, go.data ≠ .cell v := fun v e => by rw [← hgo] at e; cases e
    have hsz : h'.objs.size = s3.heap.objs.size + 1 := by rw [hs'.1, Heap.size_push]
    have keep' : ∀ b o, s3.heap.get? b = some o → h'.get? b = some o := fun b o e => hs'.extBut b o (Nat.ne_of_lt (Heap.lt_size e)) (Heap.get?_push_of_some _ e)
    have keepG : ∀ b o, s3.heap.get? b = some o → (h'.push go).get? b = some o := fun b o e => Heap.get?_push_of_some _ (keep' b o e)
    have st3' : tn 0 s3.heap := by rw [← hs3]; exact st3
    have nstk : ∀ b, s3.heap.objs.size ≤ b → b ∉ frs X.stack := fun b hb z => by
      rcases List.mem_cons.mp (I3.stkSub b z) with e | e
      · have := I3.lt
        rw [e] at hb
        exact Nat.lt_irrefl _ (Nat.lt_of_lt_of_le this hb)
      · exact I3.nofs hb e
    have fpl : ∀ b ∈ fp, b < s3.heap.objs.size := fun b hb => by
      obtain ⟨o, e, _⟩ := T.obj _ _ st3' b hb
      exact Heap.lt_size e
    have fpS : ∀ b ∈ fp, b ∉ frs X.stack := fun b hb z => by
      obtain ⟨_, g1, g2, _⟩ := f2 b hb
      rcases List.mem_cons.mp (I3.stkSub b z) with e | e
      · exact g1 e
      · exact g2 e
    have hH3 : ∀ b, s3.heap.objs.size ≤ b → H3 b = none := fun b hb => I3.hok.fresh hb
    refine call_function_tree F.kind_all F.plain_all F.entry_all (F.args_all1 _) ?_
    unfold Builtin.«all»
    refine wpAny_bind (m := oneArg "all" _) (wpAny_pure ?_)
    refine wpAny_bind (wpAny_pyIter_gen (g := s3.gens.size) (hgd _ _ (hgp h')) ?_)
    refine wpAny_pure ⟨plainId_quiet F.plain_all_loop _, ?_⟩
    have hroomk : Room k (X.A.in1.in1.deeper (genEnv scope [] s3.heap.objs.size code builtinsNs X.env)) :=
      ⟨hr.hd, by have := hr.dp; show X.A.depth + 1 + 3 * k + 5 < _; omega, by have := hr.un; show X.A.units + 1 + 1 + 3 + 16 * k + 200 < _; omega⟩
    have cnil : ∀ {y : Str} {c' : Addr}, (([] : List (Str × Addr)).lookup y) = some c' → False := fun e => by cases e
    have kin : ∀ {y : Str}, ¬ (scope.names.lookup y = some .cell ∨ scope.names.lookup y = some .free) := fun {y} e => by
      rcases e with e | e
      · exact S.cell _ (PySem.mem_of_lookup e) rfl
      · exact S.free _ (PySem.mem_of_lookup e) rfl
    have IY : Inv (genCx X (genEnv scope [] s3.heap.objs.size code builtinsNs X.env) (X.A.in1.in1.deeper (genEnv scope [] s3.heap.objs.size code builtinsNs X.env)) x fp s3 H3 [(h'.objs.size, go)]) [] [none] H3
        { s3 with gens := (s3.gens.push (.fresh (.compStart (.GeneratorExp elt [⟨.Name x px, iter, [], 0⟩] scope gpos) 0 (.ref it) .none (genEnv scope [] s3.heap.objs.size code builtinsNs X.env)))), toks := s3.toks + 1 + 1 + 1, heap := h'.push go } := by
      refine ⟨⟨I3.ok.mod, S.kind, I3.ok.glob, rfl, Nat.le_refl _, fun y z c' e _ => (cnil e).elim, fun y e => (kin e).elim, fun y c' _ e => (cnil e).elim, fun _ => hr.hd, Around.frames_deeper I3.ok.frames, .inr ⟨rfl, rfl⟩,
        fun b hb => ⟨Nat.ne_of_lt (fpl b hb), fun y c' e => (cnil e).elim⟩, I3.bs, Nat.le_trans I3.ok.bsz I3.sz, fun b o e hb => ?_, fpS, I3.stack, I3.stkFree⟩,
        rfl, I3.bare.push rfl, Un.kept keepG, ⟨_, hn'.keeps fun b o e => Heap.get?_push_of_some _ e, fun i y v e1 e2 _ => ?_⟩, fun y c' e => (cnil e).elim, hH3 _ (Nat.le_refl _), fun y c' e => (cnil e).elim, fun p hp => ?_, I3.hok.kept keepG, rfl⟩
      · obtain ⟨_, _, _, g3, _⟩ := f2 b hb
        rcases g3 with g3 | g3
        · exact I2.ok.noex b o e g3
        · have h1 := Heap.lt_size e
          have h2 := I2.ok.bsz
          exact Nat.lt_irrefl _ (Nat.lt_of_lt_of_le h1 (Nat.le_trans h2 g3))
      · match i, e2 with
        | 0, e2 => cases e2
        | i + 1, e2 => simp at e2
      · have hp2 : p ∈ ([(h'.objs.size, go)] ++ [] : List (Addr × Obj)) := hp
        have hp' : p = (h'.objs.size, go) := by simpa using hp2
        subst hp'
        exact ⟨hgp h', hH3 _ (by rw [hsz]; exact Nat.le_succ _), by show h'.objs.size ≠ s3.heap.objs.size; rw [hsz]; exact Nat.succ_ne_self _, nstk _ (by rw [hsz]; exact Nat.le_succ _), hgc⟩
    have hst : ∀ H' : Hp, (∀ b ∈ fp, H' b = none) → ∀ b ∈ fp, FpOk (genCx X (genEnv scope [] s3.heap.objs.size code builtinsNs X.env) (X.A.in1.in1.deeper (genEnv scope [] s3.heap.objs.size code builtinsNs X.env)) x fp s3 H3 [(h'.objs.size, go)]) [] H' b :=
      fun H' hf b hb => ⟨hf b hb, Nat.ne_of_lt (fpl b hb), fpS b hb, .inl hb, fun y c' e => (cnil e).elim, fun p hp => by
        have hp2 : p ∈ ([(h'.objs.size, go)] ++ [] : List (Addr × Obj)) := hp
        have hp' : p = (h'.objs.size, go) := by simpa using hp2
        subst hp'
        show h'.objs.size ≠ b
        rw [hsz]
        exact Nat.ne_of_gt (Nat.lt_succ_of_lt (fpl b hb))⟩
    obtain ⟨m, w0⟩ := hW H3 hT
    refine loop_all (Q := Q) (go := go) (g := s3.gens.size) (A := X.A) (Y := genCx X (genEnv scope [] s3.heap.objs.size code builtinsNs X.env) (X.A.in1.in1.deeper (genEnv scope [] s3.heap.objs.size code builtinsNs X.env)) x fp s3 H3 [(h'.objs.size, go)])
      (by exact List.mem_singleton.mpr rfl) (fun h e => hgd h _ e) hr.hd hr.depth (fun b H' s' I' q' => ?_) (m + 1) _ (hgd _ _ (hgp h')) IY.nolimit ⟨_, Array.getElem?_push_size .., rfl, ?_⟩
    · refine ⟨.bl b, H', ?_, rfl, q'⟩
      refine I3.call' (ch := fp) I'.os I'.base I'.hok I'.bare fun b hb => ?_
      obtain ⟨_, g1, _, g3, g4, g5⟩ := f2 b hb
      exact ⟨g3, g1, g4, g5⟩
    · exact seg_all0 S rfl (hE _ _ _ _ _ _ _ _ hroomk) T hst turn (m + 1) _ _ ⟨m, H3, Nat.lt_succ_self m, inv_same IY rfl rfl (bare_set IY.bare rfl), T.keep _ _ _ st3' fun b _ o e => keepG b o e, fr3, w0⟩
  cases hf : codeAmong gpos ps.toList with
  | none =>
    refine wpAny_genexprCodeX hcode (cd.code hPs htr) (cd.tab hPs) hf fun c' h' tk hx hge hlt hco' _ htab' _ => ?_
    obtain ⟨o1, vs, f1, tf, fl, tg, inF, tx, tt, op, _, _, _, _, _, _, _, _, _, htr', _⟩ := hco'
    have J3 := inv_tab (h' := h') (g' := s2.gens) (d' := s2.drawn) (t' := tk) I2 hP (fun b u hb e => hx b u hb e) htab'.2 I2.bare
    exact thn (cont _ h' tk _ J3 ⟨⟨_, upd_same, htr'⟩, fun b hb => upd_ne hb⟩ (T.keep _ _ _ st2 fun b hb o e => hx b o (fpP b hb) e)) fun bi s4 h4 h'' a1 a2 => Calls.spliced_nil (h4 h'' a1 a2)
  | some cv =>
    refine wpAny_genexprCode_hit hcode (cd.code hPs htr) hf ?_
    exact thn (cont cv s2.heap s2.toks H2 I2 ⟨⟨ps, hP, htr⟩, fun _ _ => rfl⟩ st2) fun bi s4 h4 h'' a1 a2 => Calls.spliced_nil (h4 h'' a1 a2)
end
end Ln


set_option Elab.async false
set_option linter.all false
set_option maxRecDepth 100000
set_option maxHeartbeats 4000000
namespace Ln
open PySem PySem.Spec PyProof.Rows L2

theorem keyIs_scan {k : Key} {v : Value} (h : keyIs k v = true) : v.scannable = true := by
  rcases keyIs_shape h with ⟨i, t, _, rfl⟩ | ⟨x, t, _, rfl⟩ <;> rfl

/-- whether k is among the keys l -/
def memK (l : List Key) (k : Key) : Bool := l.any fun j => decide (j = k)
theorem memK_iff {l : List Key} {k : Key} : memK l k = true ↔ k ∈ l := by
  unfold memK
  rw [List.any_eq_true]
  constructor
  · intro ⟨j, hj, e⟩
    rw [← of_decide_eq_true e]
    exact hj
  · intro h
    exact ⟨k, h, decide_eq_true rfl⟩
theorem memK_app {l : List Key} {k k' : Key} : memK (l ++ [k]) k' = (memK l k' || decide (k' = k)) := by
  unfold memK
  rw [List.any_append]
  congr 1
  show (decide (k = k') || false) = _
  rw [Bool.or_false]
  by_cases e : k = k'
  · rw [e]
  · rw [decide_eq_false e, decide_eq_false fun q => e q.symm]
theorem setOf_eq {P : Program} {w : World} {h : Heap} {a : Addr} {S S' : Key → Bool} {n : Nat} (hS : h.SetOf (mixKind P w) a S n) (e : ∀ k, S k = S' k) : h.SetOf (mixKind P w) a S' n := by
  have : S = S' := funext e
  subst this
  exact hS
/-- the set of the first i keys stands at a: m members -/
def SetUp (P : Program) (w : World) (h : Heap) (a : Addr) (ks : List Key) (i : Nat) : Prop :=
  ∃ m, h.SetOf (mixKind P w) a (memK (ks.take i)) m ∧ m ≤ i ∧ (m = i ↔ (ks.take i).Nodup)
theorem nodup_snoc {α : Type} {l : List α} {x : α} : (l ++ [x]).Nodup ↔ l.Nodup ∧ x ∉ l := by
  rw [List.nodup_append]
  constructor
  · intro ⟨a, _, c⟩
    exact ⟨a, fun hx => c x hx x List.mem_cons_self rfl⟩
  · intro ⟨a, b⟩
    refine ⟨a, List.nodup_cons.mpr ⟨by simp, List.nodup_nil⟩, fun y hy z hz e => ?_⟩
    rw [List.mem_singleton] at hz
    exact b (by rw [← hz, ← e]; exact hy)
theorem setUp_step {P : Program} {w : World} {h' : Heap} {a : Addr} {ks : List Key} {i m : Nat} {k : Key} (hk : ks[i]? = some k) (hm : m ≤ i) (hn : m = i ↔ (ks.take i).Nodup)
    (hs : h'.SetOf (mixKind P w) a (fun k' => memK (ks.take i) k' || decide (k' = k)) (if memK (ks.take i) k then m else m + 1)) : SetUp P w h' a ks (i + 1) := by
  have ht : ks.take (i + 1) = ks.take i ++ [k] := by rw [List.take_add_one, hk]; rfl
  refine ⟨if memK (ks.take i) k then m else m + 1, setOf_eq hs (fun k' => by rw [ht, memK_app]), ?_, ?_⟩
  · split <;> omega
  · rw [ht, nodup_snoc]
    by_cases e : k ∈ ks.take i
    · rw [if_pos (memK_iff.mpr e)]
      exact ⟨fun q => by omega, fun q => absurd e q.2⟩
    · rw [if_neg fun q => e (memK_iff.mp q)]
      exact ⟨fun q => ⟨hn.mp (by omega), e⟩, fun q => by have := hn.mpr q.1; omega⟩

section
variable {P : Program} {w : World} {A : Around} {R : Result → Shared → Prop} {it : Addr} {fp wr : List Addr} {G : Array GenState → Array GenState → Prop} {n : Nat} {Pv : Nat → Value → Prop} {St : Nat → Shared → Prop}
theorem loop_keys (W : WalksS P w A.in1 it fp wr G n Pv St) (S : Addr) (hSf : S ∉ fp) (ks : List Key) (hval : ∀ (i : Nat) (v : Value), Pv i v → ∃ k : Key, ks[i]? = some k ∧ keyIs k v = true) (hb : n + 1 < scanBound) :
    ∀ (d i : Nat) (s : Shared), n - i = d → i ≤ n → St i s → SetUp P w s.heap S ks i →
      (∀ s', Moved (S :: wr) G s s' → SetUp P w s'.heap S ks n → R (.ok (.ret .none)) s') →
      codeAny (model P w) A (.builtin "set.update.loop" ⟨[.ref S, .ref it], []⟩) R s := by
  have nwr : S ∉ wr := fun z => hSf (W.sub _ z)
  have more : ∀ b ∈ wr, b ∈ S :: wr := fun b z => List.mem_cons_of_mem S z
  intro d
  induction d with
  | zero =>
    intro i s hd hi st ⟨m, hS, hm, hn⟩ hR
    obtain rfl : i = n := by omega
    refine codeAny_builtin PyProof.Rows.F.entry_set_update_loop ?_
    rw [Around.under_plainId (PyProof.Rows.F.plain_set_update_loop) _]
    show wpAny (model P w) A.in1 (pyNext (.ref it) >>= _) _ _ s
    refine wpAny_bind (W.done s _ _ st fun s1 hmv => ?_)
    exact wpAny_pure (hR s1 (hmv.mono more) ⟨m, setOf_at hS fun o e => hmv.heap S o nwr e, hm, hn⟩)
  | succ d ih =>
    intro i s hd hi st ⟨m, hS, hm, hn⟩ hR
    have hlt : i < n := by omega
    refine codeAny_builtin PyProof.Rows.F.entry_set_update_loop ?_
    rw [Around.under_plainId (PyProof.Rows.F.plain_set_update_loop) _]
    show wpAny (model P w) A.in1 (pyNext (.ref it) >>= _) _ _ s
    refine wpAny_bind (W.item i s _ _ hlt st fun v s1 hv st1 hmv => ?_)
    obtain ⟨k, hk, kv⟩ := hval i v hv
    have hS1 := setOf_at hS fun o e => hmv.heap S o nwr e
    show wpAny (model P w) A.in1 (holding [v] (setAdd S v) >>= _) _ _ s1
    refine wpAny_bind (wpAny_holding ?_)
    unfold setAdd
    refine wpAny_holding (wpAny_bind ((mixKind P w).pyHash (k := k) kv ?_))
    refine wpAny_setAddHashed_of (knd := mixKind P w) (s := { s1 with toks := s1.toks + 1 }) kv (keyIs_scan kv) hS1 (by omega) fun h2 sb hS2 => ?_
    refine wpAny_pure ⟨plainId_quiet (PyProof.Rows.F.plain_set_update_loop) _, ih (i + 1) _ (by omega) hlt (W.frame _ s1 _ _ st1 (Nat.le_succ _) fun b hbf o e => ?_) (setUp_step hk hm hn hS2) fun s3 hm3 hS3 => ?_⟩
    · exact (sb.2 b fun z => hSf (z ▸ hbf)).trans e
    · refine hR s3 (Moved.trans W.gtrans ((hmv.mono more).then_heap (Nat.le_succ _) fun b o hbw e => ?_) hm3) hS3
      exact (sb.2 b fun z => hbw (by rw [z]; exact List.mem_cons_self)).trans e
end

abbrev sObj (led : Bool) : Obj := { cls := .type "set", dict := none, data := .set #[] 0 (.fresh 0 0 led) }
section
variable {P : Program} {w : World} {A : Around} {E : Value → Shared → Prop} {s : Shared}
theorem call_set_keys {l : Addr} {items : Array Value} {ks : List Key} {Q : Value → Shared → Prop}
    (hh : A.handled = none) (hl : s.heap.IsTuple l items) (hk : ks.length = items.size) (hi : ∀ (i : Nat) (v : Value), items[i]? = some v → ∃ k : Key, ks[i]? = some k ∧ keyIs k v = true) (hb : items.size + 1 < scanBound)
    (h : ∀ (h' : Heap) (tk : Nat), SetUp P w h' s.heap.objs.size ks items.size → (∀ b o, b < s.heap.objs.size → s.heap.get? b = some o → h'.get? b = some o) → Q (.ref s.heap.objs.size) { s with heap := h', toks := tk }) :
    wpAny (model P w) A (call (.type "set") [.ref l]) Q E s := by
  obtain ⟨mro1, mro2, hmro⟩ := PySem.F.called_set.mro
  have made := PySem.F.called_set.made
  have subs := PySem.F.called_set.sub
  refine wpAny_call (codeAny_of_tree ?_)
  show wpAny (model P w) _ (callAny (.type "set") _) _ _ _
  refine wpAny_pure ⟨Code.quiet_builtin _ (by decide +kernel), codeAny_builtin (PySem.F.entry_type_call) ?_⟩
  rw [Around.under_plain (weight_type_call_type "set" [Value.ref l] []) rfl]
  have notT := PySem.F.called_set.notType
  have canC := PySem.F.called_set.canCreate
  have chk := PySem.F.typeCall_set_1 (Value.ref l)
  repeat (any_goals (first | assumption | wp_step))
  refine codeAny_mono (code_set_new_1 (.ref l) (E := E) (Q₁ := fun ob s1 => ∃ led, ob = .ref s.heap.objs.size ∧ s1 = { s with heap := s.heap.push (sObj led) }) fun led => ⟨led, rfl, rfl⟩) fun r s1 hr => ?_
  match r, hr with
  | .error e, hr => exact hr
  | .ok .next, hr => exact hr.elim
  | .ok .brk, hr => exact hr.elim
  | .ok .cont, hr => exact hr.elim
  | .ok (.ret ob), hr =>
    obtain ⟨led, rfl, rfl⟩ := hr
    have hS : (s.heap.push (sObj led)).get? s.heap.objs.size = some (sObj led) := Heap.get?_push_size _ rfl
    have tyS : Shared.TypeIs { s with heap := s.heap.push (sObj led) } (.ref s.heap.objs.size) "set" := ⟨_, hS, rfl⟩
    have lkI := PySem.F.called_set.init.lookup
    have bdI := PySem.F.called_set.init.bind (.ref s.heap.objs.size)
    repeat (any_goals (first | assumption | wp_step))
    refine codeAny_mono (codeAny_call_builtin (R := wants (fun r s2 => r = .none ∧ ∃ h' tk, s2 = { s with heap := h', toks := tk } ∧ SetUp P w h' s.heap.objs.size ks items.size ∧ (∀ b o, b < s.heap.objs.size → s.heap.get? b = some o → h'.get? b = some o)) E)
      (PySem.F.called_set.init.plain) (PySem.F.entry_set_init) (check_set_init_1 tyS ?_)) fun r2 s2 hr2 => ?_
    · obtain ⟨ob, hob, hcl, nl, hdl⟩ := hl
      obtain ⟨oc, od, oda, osl⟩ := ob
      simp only at hcl hdl
      subst hcl
      subst hdl
      have hob1 : (s.heap.push (sObj led)).get? l = some { cls := .type "tuple", dict := od, data := .seq items nl, slots := osl } := Heap.get?_push_of_some _ hob
      have n1 := PySem.F.sub_tuple_set
      have n2 := PySem.F.sub_tuple_frozenset
      have n3 : (Value.type "tuple" == Value.type "dict") = false := by decide
      have tup1 : (s.heap.push (sObj led)).IsTuple l items := ⟨_, hob1, rfl, nl, rfl⟩
      unfold Builtin.«set.__init__» noKeywords Builtin.Frozenset.updateFrom
      generalize hPI : pyIter = PI
      wp_walk
      subst hPI
      refine wpAny_pyIter_tuple tup1 (wpAny_bind (wpAny_runValue ?_))
      have lS : l < s.heap.objs.size := Heap.lt_size hob
      have hne : l ≠ (s.heap.push (sObj led)).objs.size := by
        rw [Heap.size_push]
        exact Nat.ne_of_lt (Nat.lt_succ_of_lt lS)
      have nS : s.heap.objs.size ∉ [(s.heap.push (sObj led)).objs.size, l] := by
        rw [Heap.size_push]
        intro z
        rcases List.mem_cons.mp z with z | z
        · exact absurd z (Nat.ne_of_lt (Nat.lt_succ_self _))
        · exact absurd (List.mem_singleton.mp z) (Nat.ne_of_gt lS)
      refine loop_keys ((Walks.tuple (show A.in1.in1.in1.handled = none by simp [hh]) _ l hne items).toS) s.heap.objs.size nS ks hi hb (items.size - 0) 0 _ (by omega) (Nat.zero_le _) ⟨⟨_, Heap.get?_push_size _ rfl, rfl, rfl⟩, tup1.push _⟩ ?hS0 ?hR
      case hS0 =>
        have got : ((s.heap.push (sObj led)).push { cls := .type "tuple_iterator", data := .fields #[.ref l, .int 0 0] }).get? s.heap.objs.size = some (sObj led) := Heap.get?_push_of_some _ hS
        have e0 : ((s.heap.push (sObj led)).push { cls := .type "tuple_iterator", data := .fields #[.ref l, .int 0 0] }).SetOf (mixKind P w) s.heap.objs.size (memK (ks.take 0)) 0 :=
          ⟨_, #[], 0, _, got, ⟨rfl, rfl, rfl⟩, rfl, (fun e he => by simp at he), (fun k => by simp [memK]), (by decide), (by rfl), rfl⟩
        exact ⟨0, e0, Nat.le_refl _, by simp⟩
      case hR =>
        intro s3 hmv hS3
        obtain ⟨h3, g3, d3, t3, o3⟩ := s3
        have eg : g3 = s.gens := hmv.gens
        have ed : d3 = s.drawn := hmv.drawn
        have eo : o3 = s.os := hmv.os
        subst eg ed eo
        show wpAny (model P w) _ _ _ _ _
        refine wpAny_pure ?_
        show wpAny (model P w) _ (ret Value.none) _ _ _
        refine wpAny_pure ⟨rfl, h3, t3, rfl, hS3, fun b o hb2 e => ?_⟩
        refine hmv.heap b o (fun z => ?_) (Heap.get?_push_of_some _ (Heap.get?_push_of_some _ e))
        rcases List.mem_cons.mp z with z | z
        · exact Nat.ne_of_lt hb2 z
        · have z := List.mem_singleton.mp z
          rw [Heap.size_push] at z
          exact Nat.ne_of_lt (Nat.lt_succ_of_lt hb2) z
    · match r2, hr2 with
      | .error e, hr2 => exact hr2
      | .ok .next, hr2 => exact hr2.elim
      | .ok .brk, hr2 => exact hr2.elim
      | .ok .cont, hr2 => exact hr2.elim
      | .ok (.ret r), hr2 =>
        obtain ⟨rfl, h3, t3, rfl, hS3, hk3⟩ := hr2
        repeat (any_goals (first | assumption | wp_step))
        exact h _ _ hS3 hk3
end
end Ln


set_option Elab.async false
set_option linter.all false
set_option maxRecDepth 100000
set_option maxHeartbeats 2000000
namespace Ln
open PySem PySem.Spec PyProof.Rows L2 GxR
/-! ### the text -/
/-- a def of the text, its code object known -/
structure FunC (K : PySem.W.Frag) (x qual : Str) (st : Stmt) (f : Addr) (fd : FuncData) (c : Addr) : Prop where
  ex : ∃ (oc : Value) (od : Option Addr) (kV doc pm : Value) (an : Option Addr) (ct : Value) (osl : Array (Option Value)),
    fd = PySem.W.fnOf x qual (defArgs st) (defBody st) (defScope st) .none kV doc pm an (.ref c) ct ∧ K.lookup f = some ⟨oc, od, .func fd, osl⟩ ∧ PySem.W.codeIn K (.ref c) qual = true
  kp : PySem.W.keepIn K (.ref f) = true
theorem FunC.fn {K : PySem.W.Frag} {x qual : Str} {st : Stmt} {f : Addr} {fd : FuncData} {c : Addr} (F : FunC K x qual st f fd c) : Fun K x qual st f fd := by
  obtain ⟨oc, od, kV, doc, pm, an, ct, osl, e, lk, hc⟩ := F.ex
  exact ⟨⟨oc, od, kV, doc, pm, an, .ref c, ct, osl, e, lk, hc⟩, F.kp⟩
theorem FunC.ok {P : Program} {w : World} {K : PySem.W.Frag} {mg : Str → Option Value} {base : Heap} {x qual : Str} {st : Stmt} {f : Addr} {fd : FuncData} {c : Addr} {N ps : List Str} {k : Nat} {sp : Sp} (F : FunC K x qual st f fd c) (S : FnScope N ps (defScope st))
    (len : ∀ vs H Q E, sp vs H Q E → vs.length = ps.length)
    (hbody : ∀ (A : Around) (outer : List Env) (s : Shared) (H : Hp) (vs : List V) (Q : VK) (E : XK), Room k (A.deeper (envOfC qual (defScope st) s.heap.objs.size f (.ref c))) → sp vs H Q E →
      ∃ t, PSs (cxOf CX0 P w K mg base N qual (defScope st) f (.ref c) A outer s H E).nox (defBody st) t ∧ t { nx := fun _ H' => Q .non H', rt := Q } (start N vs) H) : FnOk P w K mg base CX0 (k + 1) f fd ps sp := by
  obtain ⟨oc, od, kV, doc, pm, an, ct, osl, rfl, lk, hcd⟩ := F.ex
  refine fn_of lk hcd S len fun A outer s H vs Q E hr hsp => ?_
  obtain ⟨t, h, q⟩ := hbody A outer s H vs Q E hr hsp
  exact ⟨t, h.nox, q⟩

/-! ### heaps -/
/-- what stood stands, but for the tables Ps, which may have grown -/
structure Kp (Ps : List Addr) (H H' : Hp) : Prop where
  at_ : ∀ b o, H b = some o → b ∉ Ps → H' b = some o
  tab : ∀ p ∈ Ps, TabG H' p
def Tabs (Ps : List Addr) (H : Hp) : Prop := ∀ p ∈ Ps, TabG H p
section
variable {Ps : List Addr} {H H1 H2 : Hp} {a p : Addr} {o : HO} {K : PySem.W.Frag} {xs : List V}
theorem Kp.refl (h : Tabs Ps H) : Kp Ps H H := ⟨fun _ _ e _ => e, h⟩
theorem Kp.tabs (h : Kp Ps H H1) : Tabs Ps H1 := h.tab
theorem Kp.trans (h : Kp Ps H H1) (k : Kp Ps H1 H2) : Kp Ps H H2 := ⟨fun b o e n => k.at_ b o (h.at_ b o e n) n, k.tab⟩
theorem tab_ne (h : Tabs Ps H) (e : H a = some o) (hn : ∀ q, o ≠ .tbl q) : a ∉ Ps := fun z => by
  obtain ⟨ps, e2, _⟩ := h a z
  rw [e2] at e
  exact hn ps (Option.some.inj e).symm
theorem tab_free (h : Tabs Ps H) (e : H a = none) : a ∉ Ps := fun z => by
  obtain ⟨ps, e2, _⟩ := h a z
  rw [e2] at e
  cases e
theorem Kp.new (h : Tabs Ps H) (e : H p = none) : Kp Ps H (upd H p o) :=
  ⟨fun b u q _ => by rw [upd_ne (ne_of_none q e)]; exact q, fun q hq => by
    obtain ⟨ps, e2, t⟩ := h q hq
    exact ⟨ps, by rw [upd_ne (ne_of_none e2 e)]; exact e2, t⟩⟩
theorem Kp.tabbed (h : Tabs Ps H) (hp : p ∈ Ps) (t : Tabbed p H H1) : Kp Ps H H1 :=
  ⟨fun b u q n => (t.2 b fun z => n (z ▸ hp)).trans q, fun q hq => by
    by_cases e : q = p
    · rw [e]
      exact t.1
    · obtain ⟨ps, e2, r⟩ := h q hq
      exact ⟨ps, (t.2 q e).trans e2, r⟩⟩
theorem Kp.lst (k : Kp Ps H H1) (h : Tabs Ps H) (e : H a = some (.lst xs)) : H1 a = some (.lst xs) := k.at_ a _ e (tab_ne h e fun q z => by cases z)
theorem Kp.tup (k : Kp Ps H H1) (h : Tabs Ps H) (e : H a = some (.tup xs)) : H1 a = some (.tup xs) := k.at_ a _ e (tab_ne h e fun q z => by cases z)
theorem Kp.ext {φ : Heap → Prop} (k : Kp Ps H H1) (h : Tabs Ps H) (e : H a = some (.ext φ)) : H1 a = some (.ext φ) := k.at_ a _ e (tab_ne h e fun q z => by cases z)
theorem Kp.seqL (k : Kp Ps H H1) (h : Tabs Ps H) (e : SqL K H a xs) : SqL K H1 a xs := by
  rcases e with (e | ⟨ob, e⟩) | e
  · exact .inl (.inl (k.lst h e))
  · exact .inl (.inr ⟨ob, k.at_ a _ e (tab_ne h e fun q z => by cases z)⟩)
  · exact .inr e
theorem Kp.seqT (k : Kp Ps H H1) (h : Tabs Ps H) (e : SqT K H a xs) : SqT K H1 a xs := by
  rcases e with (e | ⟨ob, e⟩) | e
  · exact .inl (.inl (k.tup h e))
  · exact .inl (.inr ⟨ob, k.at_ a _ e (tab_ne h e fun q z => by cases z)⟩)
  · exact .inr e
/-- what is free behind was free before, tables apart -/
theorem Kp.free (k : Kp Ps H H1) (h : Tabs Ps H) (e : H1 p = none) : H p = none := by
  cases q : H p with
  | none => rfl
  | some u =>
    by_cases z : p ∈ Ps
    · exact absurd e (by
        obtain ⟨ps, e2, _⟩ := k.tab p z
        rw [e2]
        exact fun y => by cases y)
    · rw [k.at_ p u q z] at e
      cases e
end
end Ln


set_option Elab.async false
set_option linter.all false
set_option maxRecDepth 100000
set_option maxHeartbeats 2000000
namespace Ln
open PySem PySem.Spec PyProof.Rows L2 GxR
/-- the program's text as it stands: what its defs lean on -/
structure Bi (mg : Str → Option Value) : Prop where
  isi : mg "isinstance" = none
  len : mg "len" = none
  all : mg "all" = none
  str : mg "str" = none
  tup : mg "tuple" = none
  lst : mg "list" = none
  set : mg "set" = none
  zip : mg "zip" = none
def lowB (c : Nat) : Bool := decide (97 ≤ c) && decide (c ≤ 122)
def carB (x : Str) : Bool := decide (1 ≤ x.length) && decide (x.length ≤ 4) && x.cps.toList.all lowB
theorem scIsCar : FnScope ["value"] ["value"] (defScope sIsCar) := ⟨rfl, rfl, rfl, by decide +kernel, rfl, by decide +kernel, by decide +kernel⟩
section
variable {P : Program} {w : World} {K : PySem.W.Frag} {mg : Str → Option Value} {base : Heap} {Ps : List Addr}
def spCar (Ps : List Addr) : Sp := fun vs H Q _ => ∃ c : Str, vs = [.str c] ∧ c.length ≤ sizeLine ∧ Tabs Ps H ∧ ∀ H', Kp Ps H H' → Q (.bl (carB c)) H'
theorem ok_car {f c P1 : Addr} {fd : FuncData} (F : FunC K "is_car" "is_car" sIsCar f fd c) (B : Bi mg) (TB : TabB base mg c P1) (hP : P1 ∈ Ps) : FnOk P w K mg base CX0 2 f fd ["value"] (spCar Ps) := by
  refine F.ok scIsCar (fun vs H Q E h => ?_) (fun A outer s H vs Q E hr h => ?_)
  · obtain ⟨z, rfl, _⟩ := h
    rfl
  · obtain ⟨z, rfl, hz, hT, q⟩ := h
    refine ⟨_, pss_cons (ps_if (PW.pt (pw_or (pt_not (pt_val (pe_callB call_isi (by rfl) B.isi (by decide +kernel) (pa_cons (pv 0) (pa_cons (pe_bltn (by rfl) B.str (by decide +kernel) (v := .ty "str") rfl) pa_nil)))))
        (pw_or1 (pt_not (pt_chain op_le op_le pe_int (pe_callB call_len_str (by rfl) B.len PySem.boot_len (pa_cons (pv 0) pa_nil)) pe_int)))))
        (pss_one (ps_ret pe_bl)) pss_nil)
      (pss_one (ps_ret (pe_allG (k := 0) hr rfl (by rfl) B.all TB rfl ⟨rfl, rfl, by decide +kernel, by decide +kernel, rfl, rfl⟩ (pi_str (pv 0))
        (fun _ _ _ _ _ _ _ _ _ => pe_chain op_le_str op_le_str pe_str (pv 0) pe_str)))), ?_⟩
    refine ⟨_, rfl, .str z, .ty "str", .type "str", .type "str", true, rfl, .ty _, .base (.str z), kit_ty (by decide +kernel), true, rfl, ?_⟩
    refine iteF ?_
    refine ⟨.str z, rfl, z, rfl, hz, 1, (z.length : Int), rfl, rfl, _, rfl, ?_⟩
    have out : ¬ (1 ≤ z.length ∧ z.length ≤ 4) → Q (.bl false) H := fun hn => by
      have e : carB z = false := by
        unfold carB
        by_cases a : 1 ≤ z.length
        · by_cases b : z.length ≤ 4
          · exact absurd ⟨a, b⟩ hn
          · simp [b]
        · simp [a]
      have := q H (Kp.refl hT)
      rw [e] at this
      exact this
    refine ite2 (fun h1 => ?_) (fun h1 => ?_)
    · have h1 : (1 : Int) ≤ z.length := of_decide_eq_true h1
      refine ⟨_, _, rfl, rfl, _, rfl, ?_⟩
      by_cases h4 : z.length ≤ 4
      · rw [decide_eq_true (show (z.length : Int) ≤ 4 by omega)]
        refine iteF ?_
        -- all('a' <= letter <= 'z' ..)
        refine ⟨.str z, rfl, z, rfl, hT P1 hP, fun i m H' => m = z.length - i ∧ Kp Ps H H' ∧ i ≤ z.length ∧ (z.cps.toList.take i).all lowB = true, fun H2 hH => ⟨z.length, by omega, Kp.tabbed hT hP hH, Nat.zero_le _, rfl⟩, fun i m H' hW => ?_⟩
        obtain ⟨rfl, kp, hi, hall⟩ := hW
        by_cases hlt : i < z.length
        · refine .inr ⟨hlt, fun v H3 hy => ?_⟩
          obtain ⟨rfl, c, hc, rfl⟩ := hy
          have cl : ∀ y : Nat, (⟨#[y]⟩ : Str).cps.toList = [y] := fun y => rfl
          have ca : ("a" : Str).cps.toList = [97] := by decide +kernel
          have cz : ("z" : Str).cps.toList = [122] := by decide +kernel
          have lt1 : ∀ x y : Nat, ([x] < [y]) ↔ x < y := fun x y => by rw [List.cons_lt_cons_iff]; simp
          refine ⟨.str ⟨#[c]⟩, rfl, _, _, rfl, rfl, _, rfl, ?_⟩
          have hcl : z.cps.toList[i]? = some c := by rw [Array.getElem?_toList]; exact hc
          have fin : lowB c = false → Q (.bl false) H3 := fun e => by
            have e2 : carB z = false := by
              unfold carB
              have : z.cps.toList.all lowB = false := by
                rw [List.all_eq_false]
                exact ⟨c, List.mem_of_getElem? hcl, by rw [e]; simp⟩
              rw [this, Bool.and_false]
            have := q H3 kp
            rw [e2] at this
            exact this
          by_cases h97 : 97 ≤ c
          · have e1 : (!decide ((⟨#[c]⟩ : Str).cps.toList < ("a" : Str).cps.toList)) = true := by rw [ca, cl, decide_eq_false (by rw [lt1]; omega)]; rfl
            rw [e1]
            refine iteT ⟨_, _, rfl, rfl, _, rfl, ?_⟩
            by_cases h122 : c ≤ 122
            · have e2 : (!decide (("z" : Str).cps.toList < (⟨#[c]⟩ : Str).cps.toList)) = true := by rw [cz, cl, decide_eq_false (by rw [lt1]; omega)]; rfl
              rw [e2]
              refine iteT ⟨z.length - (i + 1), by omega, rfl, kp, hlt, ?_⟩
              rw [List.take_add_one, hcl, List.all_append, hall]
              simp [lowB, h97, h122]
            · have e2 : (!decide (("z" : Str).cps.toList < (⟨#[c]⟩ : Str).cps.toList)) = false := by rw [cz, cl, decide_eq_true (by rw [lt1]; omega)]; rfl
              rw [e2]
              exact iteF (fin (by simp [lowB, h122]))
          · have e1 : (!decide ((⟨#[c]⟩ : Str).cps.toList < ("a" : Str).cps.toList)) = false := by rw [ca, cl, decide_eq_true (by rw [lt1]; omega)]; rfl
            rw [e1]
            exact iteF ⟨_, rfl, iteF (fin (by simp [lowB, h97]))⟩
        · refine .inl ⟨by show z.cps.size ≤ i; exact Nat.le_of_not_lt hlt, ?_⟩
          have e : carB z = true := by
            have : i = z.length := by omega
            rw [this, List.take_of_length_le (Nat.le_of_eq (by show z.cps.toList.length = z.cps.size; simp))] at hall
            have a : 1 ≤ z.length := by omega
            simp [carB, a, h4, hall]
          have := q H' kp
          rw [e] at this
          exact this
      · rw [decide_eq_false (show ¬ (z.length : Int) ≤ 4 by omega)]
        exact iteT (out (by omega))
    · have h1 : ¬ (1 : Int) ≤ z.length := fun z => h1 (decide_eq_true z)
      exact ⟨_, rfl, iteT (out (by omega))⟩
end
end Ln


set_option Elab.async false
set_option linter.all false
set_option maxRecDepth 100000
set_option maxHeartbeats 2000000
namespace Ln
open PySem PySem.Spec PyProof.Rows L2 GxR
section
variable {X : Cx}
/-- set(t), t a tuple of texts -/
def rSetT (K : PySem.W.Frag) (P : Program) (w : World) : List V → Hp → VK → Prop := fun vs H Q => ∃ (a : Addr) (xs : List Str), vs = [.ref a] ∧ SqT K H a (xs.map V.str) ∧ xs.length ≤ 1000 ∧
  ∀ p n, H p = none → n ≤ xs.length → (n = xs.length ↔ xs.Nodup) → Q (.ref p) (upd H p (SetK P w p (memK (xs.map Sum.inr)) n))
theorem nodup_inr {xs : List Str} : (xs.map (Sum.inr : Str → Key)).Nodup ↔ xs.Nodup := by
  constructor
  · intro h
    exact (List.pairwise_map.mp h).imp fun hne e => hne (by rw [e])
  · intro h
    exact List.pairwise_map.mpr (h.imp fun hne e => hne (Sum.inr.inj e))
theorem cr_setT (hc : X.calm = true) : CallR X (.type "set") (rSetT X.K X.prog X.w) := by
  intro pins s σ H vs us Q I r h
  obtain ⟨a, xs, rfl, hS, hlen, q⟩ := h
  obtain ⟨u, rfl, r1⟩ := vals1 r
  obtain rfl : u = Value.ref a := r1
  obtain ⟨its, rv, p, _⟩ := I.tuple hS
  have hl : its.toArray.size = xs.length := by rw [List.size_toArray, ← rv.length, List.length_map]
  refine call_set_keys (ks := xs.map Sum.inr) (I.ok.hd hc) (show s.heap.IsTuple a its.toArray from p) (by rw [hl, List.length_map]) (fun i v hv => ?_) (by rw [hl]; unfold scanBound; omega) fun h' tk hS' hk => ?_
  · have hv' : its[i]? = some v := by simpa using hv
    have hi : i < xs.length := by
      rw [← hl]
      exact (Array.getElem?_eq_some_iff.mp hv).1
    have hx : (xs.map V.str)[i]? = some (V.str xs[i]) := by rw [List.getElem?_map, List.getElem?_eq_getElem hi]; rfl
    obtain ⟨u, hu, ru⟩ := rv.get hx
    rw [hv'] at hu
    obtain rfl : v = u := Option.some.inj hu
    obtain ⟨t, rfl⟩ := ru
    exact ⟨Sum.inr xs[i], by rw [List.getElem?_map, List.getElem?_eq_getElem hi]; rfl, keyIs_str _ _⟩
  · rw [hl] at hS'
    obtain ⟨m, hm, hle, hn⟩ := hS'
    rw [List.take_of_length_le (by rw [List.length_map]; exact Nat.le_refl _)] at hm hn
    have hf : H s.heap.objs.size = none := I.hok.fresh (Nat.le_refl _)
    exact ⟨.ref s.heap.objs.size, _, I.laid (t' := tk) (fun b u e => hk b u (Heap.lt_size e) e) (Nat.le_refl _) (setK_new hm), rfl, q _ m hf hle (hn.trans nodup_inr)⟩
theorem call_len_setK : CallR X (.builtin "len") (fun vs H Q => ∃ a S n, vs = [.ref a] ∧ H a = some (SetK X.prog X.w a S n) ∧ n ≤ 1000 ∧ Q (.int (n : Nat)) H) := by
  intro pins s σ H vs us Q I r h
  obtain ⟨a, S, n, rfl, ha, hn, q⟩ := h
  obtain ⟨u, rfl, r1⟩ := vals1 r
  obtain rfl : u = Value.ref a := r1
  obtain ⟨o, es, ep, t, ho, hex, hd, _, _, _, hf, hsz⟩ := setK_get I ha
  subst hsz
  exact call_len_set ho hex hd hf (by omega) ⟨.int es.size, H, I.tok _, ⟨_, rfl⟩, q⟩
end
theorem tyx_tup {K : PySem.W.Frag} {H : Hp} {a : Addr} {xs : List V} (h : SqT K H a xs) : TyX K H (.ref a) (.type "tuple") := by
  rcases h with (h | ⟨o, h⟩) | ⟨o, its, n, hk, hc, _⟩
  · exact .base (.tup h)
  · exact .fTuple h
  · exact .kTuple hk hc
theorem tyx_lst {K : PySem.W.Frag} {H : Hp} {a : Addr} {xs : List V} (h : SqL K H a xs) : TyX K H (.ref a) (.type "list") := by
  rcases h with (h | ⟨o, h⟩) | ⟨o, its, n, hk, hc, _⟩
  · exact .base (.lst h)
  · exact .base (.frz h)
  · exact .kList hk hc
def laneB (xs : List Str) : Bool := xs.all carB && decide xs.Nodup
theorem scIsLane : FnScope ["value"] ["value"] (defScope sIsLane) := ⟨rfl, rfl, rfl, by decide +kernel, rfl, by decide +kernel, by decide +kernel⟩
section
variable {P : Program} {w : World} {K : PySem.W.Frag} {mg : Str → Option Value} {base : Heap} {Ps : List Addr}
def spLane (K : PySem.W.Frag) (Ps : List Addr) : Sp := fun vs H Q _ => ∃ (a : Addr) (xs : List Str), vs = [.ref a] ∧ SqT K H a (xs.map V.str) ∧ xs.length ≤ 1000 ∧ (∀ x ∈ xs, x.length ≤ sizeLine) ∧ Tabs Ps H ∧ ∀ H', Kp Ps H H' → Q (.bl (laneB xs)) H'
theorem ok_lane {f c P1 fC : Addr} {fd fdC : FuncData} (F : FunC K "is_lane" "is_lane" sIsLane f fd c) (B : Bi mg) (TB : TabB base mg c P1) (hP : P1 ∈ Ps)
    (GC : FnOk P w K mg base CX0 2 fC fdC ["value"] (spCar Ps)) (mgC : mg "is_car" = some (.ref fC)) (kC : PySem.W.keepIn K (.ref fC) = true) (bC : Binds K fdC ["value"] []) : FnOk P w K mg base CX0 4 f fd ["value"] (spLane K Ps) := by
  refine F.ok scIsLane (fun vs H Q E h => ?_) (fun A outer s H vs Q E hr h => ?_)
  · obtain ⟨a, xs, rfl, _⟩ := h
    rfl
  · obtain ⟨a, xs, rfl, hS, hlen, hsz, hT, q⟩ := h
    refine ⟨_, pss_cons (ps_if (PW.pt (pw_or (pt_not (pt_val (pe_callB call_isi (by rfl) B.isi (by decide +kernel) (pa_cons (pv 0) (pa_cons (pe_bltn (by rfl) B.tup (by decide +kernel) (v := .ty "tuple") rfl) pa_nil)))))
        (pw_or1 (pt_not (pt_val (pe_allG (k := 2) hr rfl (by rfl) B.all TB rfl ⟨rfl, rfl, by decide +kernel, by decide +kernel, rfl, rfl⟩ (pi_tup (pv 0))
          (fun _ _ _ _ _ _ _ _ hk => pe_call GC hk rfl mgC kC bC .nil pass0 (pa_cons (pv 0) pa_nil))))))))
        (pss_one (ps_ret pe_bl)) pss_nil)
      (pss_one (ps_ret (pe_cmpR op_eq (pe_callB call_len_setK (by rfl) B.len PySem.boot_len (pa_cons (pe_callTy (cr_setT rfl) (by rfl) B.set (by decide +kernel) (pa_cons (pv 0) pa_nil)) pa_nil))
        (pe_callB call_len_seq (by rfl) B.len PySem.boot_len (pa_cons (pv 0) pa_nil)) (nomark _)))), ?_⟩
    refine ⟨_, rfl, .ref a, .ty "tuple", .type "tuple", .type "tuple", true, rfl, .ty _, tyx_tup hS, kit_ty (by decide +kernel), true, rfl, ?_⟩
    refine iteF ?_
    -- all(is_car(entry) ..)
    refine ⟨.ref a, rfl, a, rfl, ⟨_, hS⟩, hT P1 hP, fun i m H' => m = xs.length - i ∧ Kp Ps H H' ∧ i ≤ xs.length ∧ (xs.take i).all carB = true, fun H2 hH => ⟨xs.length, by omega, Kp.tabbed hT hP hH, Nat.zero_le _, rfl⟩, fun i m H' hW => ?_⟩
    obtain ⟨rfl, kp, hi, hall⟩ := hW
    have hS' := kp.seqT hT hS
    by_cases hlt : i < xs.length
    · have hx : (xs.map V.str)[i]? = some (V.str xs[i]) := by rw [List.getElem?_map, List.getElem?_eq_getElem hlt]; rfl
      refine .inr ⟨⟨_, _, hS', hx⟩, fun v H3 hy => ?_⟩
      obtain ⟨rfl, fv⟩ := hy
      obtain rfl : v = V.str xs[i] := Option.some.inj ((fv _ hS').symm.trans hx)
      refine ⟨_, rfl, xs[i], rfl, hsz _ (List.getElem_mem hlt), kp.tab, fun H4 kp4 => ⟨_, rfl, ?_⟩⟩
      refine ite2 (fun hc => ?_) (fun hc => ?_)
      · refine ⟨_, ?_, rfl, kp.trans kp4, hlt, ?_⟩
        · omega
        · rw [List.take_add_one, List.getElem?_eq_getElem hlt, List.all_append, hall]
          simp [hc]
      · have e : laneB xs = false := by
          unfold laneB
          have : xs.all carB = false := List.all_eq_false.mpr ⟨xs[i], List.getElem_mem hlt, hc⟩
          rw [this, Bool.false_and]
        have := q H4 (kp.trans kp4)
        rw [e] at this
        exact ⟨false, rfl, iteT this⟩
    · refine .inl ⟨⟨_, hS', by rw [List.length_map]; omega⟩, true, rfl, iteF ?_⟩
      have hall' : xs.all carB = true := by
        rw [List.take_of_length_le (by omega)] at hall
        exact hall
      refine ⟨.ref a, rfl, a, xs, rfl, hS', hlen, fun p n hp hn hnd => ?_⟩
      have k2 : Kp Ps H' (upd H' p (SetK P w p (memK (xs.map Sum.inr)) n)) := Kp.new kp.tab hp
      refine ⟨p, _, n, rfl, upd_same, by omega, .ref a, rfl, a, _, rfl, .inr (k2.seqT kp.tab hS'), rfl, ?_⟩
      have e : laneB xs = decide (V.int (n : Nat) = V.int ((xs.map V.str).length : Nat)) := by
        unfold laneB
        rw [hall', Bool.true_and, List.length_map]
        by_cases hh : xs.Nodup
        · rw [decide_eq_true hh, decide_eq_true (by rw [hnd.mpr hh])]
        · rw [decide_eq_false hh, decide_eq_false fun z => hh (hnd.mp (by have := V.int.inj z; omega))]
      have := q _ (kp.trans k2)
      rw [e] at this
      exact this
end
end Ln


set_option Elab.async false
set_option linter.all false
set_option maxRecDepth 100000
set_option maxHeartbeats 2000000
namespace Ln
open PySem PySem.Spec PyProof.Rows L2 GxR
/-- an event -/
inductive Ev where
  | inn (c : Str)
  | out
def Ev.vals : Ev → List V
  | .inn c => [.str "in", .str c]
  | .out => [.str "out"]
/-- a statement that is never reached -/
theorem ps_dead {X : Cx} {st : Stmt} : PS X st (fun _ _ _ => False) := ⟨fun _ _ _ _ _ _ h => h.elim⟩
theorem scHasW : FnScope ["value", "word", "length"] ["value", "word", "length"] (defScope sHasW) := ⟨rfl, rfl, rfl, by decide +kernel, rfl, by decide +kernel, by decide +kernel⟩
theorem scIsArr : FnScope ["value"] ["value"] (defScope sIsArr) := ⟨rfl, rfl, rfl, by decide +kernel, rfl, by decide +kernel, by decide +kernel⟩
theorem scIsDep : FnScope ["value"] ["value"] (defScope sIsDep) := ⟨rfl, rfl, rfl, by decide +kernel, rfl, by decide +kernel, by decide +kernel⟩
theorem scReqLane : FnScope ["value"] ["value"] (defScope sReqLane) := ⟨rfl, rfl, rfl, by decide +kernel, rfl, by decide +kernel, by decide +kernel⟩
section
variable {P : Program} {w : World} {K : PySem.W.Frag} {mg : Str → Option Value} {base : Heap} {Ps : List Addr}
def spHasW (K : PySem.W.Frag) : Sp := fun vs H Q _ => ∃ (a : Addr) (y wd : Str) (ys : List V) (n : Int), vs = [.ref a, .str wd, .int n] ∧ SqT K H a (.str y :: ys) ∧ Q (.bl (decide (((ys.length + 1 : Nat) : Int) = n) && decide (y = wd))) H
theorem ok_hasW {f : Addr} {fd : FuncData} (F : Fun K "has_word" "has_word" sHasW f fd) (B : Bi mg) : FnOk P w K mg base CX0 1 f fd ["value", "word", "length"] (spHasW K) := by
  refine F.ok scHasW (fun vs H Q E h => ?_) (fun cdv A outer s H vs Q E hr h => ?_)
  · obtain ⟨a, y, wd, ys, n, rfl, _⟩ := h
    rfl
  · obtain ⟨a, y, wd, ys, n, rfl, hS, q⟩ := h
    refine ⟨_, pss_one (ps_ret (pe_and (pe_callB call_isi (by rfl) B.isi (by decide +kernel) (pa_cons (pv 0) (pa_cons (pe_bltn (by rfl) B.tup (by decide +kernel) (v := .ty "tuple") rfl) pa_nil)))
      (pe_and (pe_cmpR op_eq (pe_callB call_len_seq (by rfl) B.len PySem.boot_len (pa_cons (pv 0) pa_nil)) (pv 2) (nomark _))
      (pe_and (pe_callB call_isi (by rfl) B.isi (by decide +kernel) (pa_cons (pe_ix ix_tup (pv 0) pe_int (fun _ _ => rfl)) (pa_cons (pe_bltn (by rfl) B.str (by decide +kernel) (v := .ty "str") rfl) pa_nil)))
      (pe_one (pe_cmpR op_eq (pe_ix ix_tup (pv 0) pe_int (fun _ _ => rfl)) (pv 1) (nomark _))))))), ?_⟩
    refine ⟨.ref a, rfl, .ref a, .ty "tuple", .type "tuple", .type "tuple", true, rfl, .ty _, tyx_tup hS, kit_ty (by decide +kernel), true, rfl, iteT ?_⟩
    refine ⟨.ref a, rfl, a, _, rfl, .inr hS, .int n, rfl, rfl, _, rfl, ?_⟩
    have e1 : decide (V.int (((.str y :: ys : List V).length : Nat) : Int) = V.int n) = decide (((ys.length + 1 : Nat) : Int) = n) := by
      by_cases h : ((ys.length + 1 : Nat) : Int) = n
      · rw [decide_eq_true h]
        exact decide_eq_true (by rw [← h]; rfl)
      · rw [decide_eq_false h]
        exact decide_eq_false fun z => h (V.int.inj z)
    rw [e1]
    refine ite2 (fun hn => ?_) (fun hn => ?_)
    · refine ⟨.ref a, rfl, a, _, 0, .str y, rfl, rfl, hS, atI_nat (j := 0) rfl, .str y, .ty "str", .type "str", .type "str", true, rfl, .ty _, .base (.str y), kit_ty (by decide +kernel), true, rfl, iteT ?_⟩
      refine ⟨.ref a, rfl, a, _, 0, .str y, rfl, rfl, hS, atI_nat (j := 0) rfl, .str wd, rfl, rfl, ?_⟩
      have e2 : decide (V.str y = V.str wd) = decide (y = wd) := by
        by_cases h : y = wd
        · rw [decide_eq_true h, decide_eq_true (by rw [h])]
        · rw [decide_eq_false h, decide_eq_false fun z => h (V.str.inj z)]
      rw [e2]
      rw [hn, Bool.true_and] at q
      exact q
    · have hn' : decide (((ys.length + 1 : Nat) : Int) = n) = false := by simpa using hn
      rw [hn', Bool.false_and] at q
      exact q
def spEv (K : PySem.W.Frag) (Ps : List Addr) (g : Ev → Bool) : Sp := fun vs H Q _ => ∃ (a : Addr) (e : Ev), vs = [.ref a] ∧ SqT K H a e.vals ∧ (∀ c, e = .inn c → c.length ≤ sizeLine) ∧ Tabs Ps H ∧ ∀ H', Kp Ps H H' → Q (.bl (g e)) H'
def arrB : Ev → Bool
  | .inn c => carB c
  | .out => false
def depB : Ev → Bool
  | .inn _ => false
  | .out => true
theorem ne_io : ¬ (("in" : Str) = "out") := by decide +kernel
theorem ne_oi : ¬ (("out" : Str) = "in") := by decide +kernel
theorem ok_arr {f fH fC : Addr} {fd fdH fdC : FuncData} (F : Fun K "is_arrival" "is_arrival" sIsArr f fd)
    (GH : FnOk P w K mg base CX0 1 fH fdH ["value", "word", "length"] (spHasW K)) (mgH : mg "has_word" = some (.ref fH)) (kH : PySem.W.keepIn K (.ref fH) = true) (bH : Binds K fdH ["value", "word", "length"] [])
    (GC : FnOk P w K mg base CX0 2 fC fdC ["value"] (spCar Ps)) (mgC : mg "is_car" = some (.ref fC)) (kC : PySem.W.keepIn K (.ref fC) = true) (bC : Binds K fdC ["value"] []) : FnOk P w K mg base CX0 3 f fd ["value"] (spEv K Ps arrB) := by
  refine F.ok scIsArr (fun vs H Q E h => ?_) (fun cdv A outer s H vs Q E hr h => ?_)
  · obtain ⟨a, e, rfl, _⟩ := h
    rfl
  · obtain ⟨a, e, rfl, hS, hsz, hT, q⟩ := h
    refine ⟨_, pss_one (ps_ret (pe_and (pe_call GH (hr.mono (by decide)) (by rfl) mgH kH bH .nil pass0 (pa_cons (pv 0) (pa_cons pe_str (pa_cons pe_int pa_nil))))
      (pe_one (pe_call GC hr (by rfl) mgC kC bC .nil pass0 (pa_cons (pe_ix ix_tup (pv 0) pe_int (fun _ _ => rfl)) pa_nil))))), ?_⟩
    cases e with
    | inn c =>
      refine ⟨.ref a, rfl, a, "in", "in", [.str c], 2, rfl, hS, _, rfl, ?_⟩
      rw [decide_eq_true (show ((([V.str c] : List V).length + 1 : Nat) : Int) = 2 from rfl), decide_eq_true (rfl : ("in" : Str) = "in")]
      refine iteT ⟨.ref a, rfl, a, _, 1, .str c, rfl, rfl, hS, atI_nat (j := 1) rfl, c, rfl, hsz c rfl, hT, fun H' kp => q H' kp⟩
    | out =>
      refine ⟨.ref a, rfl, a, "out", "in", [], 2, rfl, hS, _, rfl, ?_⟩
      rw [decide_eq_false ne_oi, Bool.and_false]
      exact iteF (q H (Kp.refl hT))
theorem ok_dep {f fH : Addr} {fd fdH : FuncData} (F : Fun K "is_departure" "is_departure" sIsDep f fd)
    (GH : FnOk P w K mg base CX0 1 fH fdH ["value", "word", "length"] (spHasW K)) (mgH : mg "has_word" = some (.ref fH)) (kH : PySem.W.keepIn K (.ref fH) = true) (bH : Binds K fdH ["value", "word", "length"] []) : FnOk P w K mg base CX0 2 f fd ["value"] (spEv K Ps depB) := by
  refine F.ok scIsDep (fun vs H Q E h => ?_) (fun cdv A outer s H vs Q E hr h => ?_)
  · obtain ⟨a, e, rfl, _⟩ := h
    rfl
  · obtain ⟨a, e, rfl, hS, hsz, hT, q⟩ := h
    refine ⟨_, pss_one (ps_ret (pe_call GH hr (by rfl) mgH kH bH .nil pass0 (pa_cons (pv 0) (pa_cons pe_str (pa_cons pe_int pa_nil))))), ?_⟩
    cases e with
    | inn c =>
      refine ⟨.ref a, rfl, a, "in", "out", [.str c], 1, rfl, hS, ?_⟩
      rw [decide_eq_false ne_io, Bool.and_false]
      exact q H (Kp.refl hT)
    | out =>
      refine ⟨.ref a, rfl, a, "out", "out", [], 1, rfl, hS, ?_⟩
      rw [decide_eq_true (rfl : ("out" : Str) = "out")]
      exact q H (Kp.refl hT)
/-- nothing is handed back, what stood stands -/
def spReqLane (K : PySem.W.Frag) (Ps : List Addr) : Sp := fun vs H Q _ => ∃ (a : Addr) (xs : List Str), vs = [.ref a] ∧ SqT K H a (xs.map V.str) ∧ xs.length ≤ 1000 ∧ (∀ x ∈ xs, x.length ≤ sizeLine) ∧ laneB xs = true ∧ Tabs Ps H ∧ ∀ H', Kp Ps H H' → Q .non H'
theorem ok_reqLane {f fL : Addr} {fd fdL : FuncData} (F : Fun K "require_lane" "require_lane" sReqLane f fd)
    (GL : FnOk P w K mg base CX0 4 fL fdL ["value"] (spLane K Ps)) (mgL : mg "is_lane" = some (.ref fL)) (kL : PySem.W.keepIn K (.ref fL) = true) (bL : Binds K fdL ["value"] []) : FnOk P w K mg base CX0 5 f fd ["value"] (spReqLane K Ps) := by
  refine F.ok scReqLane (fun vs H Q E h => ?_) (fun cdv A outer s H vs Q E hr h => ?_)
  · obtain ⟨a, xs, rfl, _⟩ := h
    rfl
  · obtain ⟨a, xs, rfl, hS, hlen, hsz, hB, hT, q⟩ := h
    refine ⟨_, pss_one (ps_if (pt_not (pt_val (pe_call GL hr (by rfl) mgL kL bL .nil pass0 (pa_cons (pv 0) pa_nil)))) (pss_one ps_dead) pss_nil), ?_⟩
    refine ⟨.ref a, rfl, a, xs, rfl, hS, hlen, hsz, hT, fun H' kp => ⟨_, rfl, ?_⟩⟩
    rw [hB]
    exact iteF (q H' kp)
end
end Ln


set_option Elab.async false
set_option linter.all false
set_option maxRecDepth 100000
set_option maxHeartbeats 2000000
namespace Ln
open PySem PySem.Spec PyProof.Rows L2 GxR
theorem pair_at {α β : Type} {F : α → β → Prop} : ∀ {as : List α} {bs : List β}, Paired F as bs → ∀ (i : Nat) (b : β), bs[i]? = some b → ∃ a, as[i]? = some a ∧ F a b
  | _, _, .nil, i, b, h => by simp at h
  | _, _, .cons r t, 0, b, h => by
    have e := Option.some.inj h
    exact ⟨_, rfl, e ▸ r⟩
  | _, _, .cons r t, i + 1, b, h => by
    obtain ⟨a, e, q⟩ := pair_at t i b (by simpa using h)
    exact ⟨a, by simpa using e, q⟩
theorem Paired.imp {α β : Type} {F G : α → β → Prop} {as : List α} {bs : List β} (h : Paired F as bs) (f : ∀ a b, F a b → G a b) : Paired G as bs := Paired.mapP h f
/-- may the log es be, the cars used, n present -/
def logB : List Str → Nat → List Ev → Bool
  | _, _, [] => true
  | u, n, .inn c :: r => if carB c = true ∧ ¬ c ∈ u then logB (c :: u) (n + 1) r else false
  | u, n, .out :: r => if 0 < n then logB u (n - 1) r else false
theorem Kp.upd {Ps : List Addr} {H H1 : Hp} {u : Addr} {o : HO} (k : Kp Ps H H1) (hT : Tabs Ps H) (hu : H u = none) : Kp Ps H (upd H1 u o) := by
  have nu := tab_free hT hu
  exact ⟨fun b q e n => by rw [upd_ne (ne_of_none e hu)]; exact k.at_ b q e n, fun q hq => by
    obtain ⟨ps, e, r⟩ := k.tab q hq
    exact ⟨ps, by rw [upd_ne (fun z : q = u => nu (by rw [← z]; exact hq))]; exact e, r⟩⟩
/-- a log's events, each a tuple -/
def EvsAt (K : PySem.W.Frag) (H : Hp) (as : List Addr) (es : List Ev) : Prop := Paired (fun a (e : Ev) => SqT K H a e.vals) as es
theorem EvsAt.kp {K : PySem.W.Frag} {Ps : List Addr} {H H1 : Hp} {as : List Addr} {es : List Ev} (h : EvsAt K H as es) (k : Kp Ps H H1) (hT : Tabs Ps H) : EvsAt K H1 as es := Paired.imp h fun _ _ q => k.seqT hT q
theorem scIsLog : FnScope ["start", "value", "used", "present", "event"] ["start", "value"] (defScope sIsLog) := ⟨rfl, rfl, rfl, by decide +kernel, rfl, by decide +kernel, by decide +kernel⟩
/-- a lane and a log of modest size -/
structure LaneAt (K : PySem.W.Frag) (H : Hp) (a : Addr) (xs : List Str) : Prop where
  at_ : SqT K H a (xs.map V.str)
  few : xs.length ≤ 400
  sz : ∀ x ∈ xs, x.length ≤ sizeLine
structure LogAt (K : PySem.W.Frag) (H : Hp) (l : Addr) (as : List Addr) (es : List Ev) : Prop where
  at_ : SqL K H l (as.map V.ref)
  evs : EvsAt K H as es
  few : es.length ≤ 400
  sz : ∀ c, Ev.inn c ∈ es → c.length ≤ sizeLine
theorem LaneAt.kp {K : PySem.W.Frag} {Ps : List Addr} {H H1 : Hp} {a : Addr} {xs : List Str} (h : LaneAt K H a xs) (k : Kp Ps H H1) (hT : Tabs Ps H) : LaneAt K H1 a xs := ⟨k.seqT hT h.at_, h.few, h.sz⟩
theorem LogAt.kp {K : PySem.W.Frag} {Ps : List Addr} {H H1 : Hp} {l : Addr} {as : List Addr} {es : List Ev} (h : LogAt K H l as es) (k : Kp Ps H H1) (hT : Tabs Ps H) : LogAt K H1 l as es := ⟨k.seqL hT h.at_, h.evs.kp k hT, h.few, h.sz⟩
section
variable {P : Program} {w : World} {K : PySem.W.Frag} {mg : Str → Option Value} {base : Heap} {Ps : List Addr}
def spLog (K : PySem.W.Frag) (Ps : List Addr) : Sp := fun vs H Q _ => ∃ (a l : Addr) (xs : List Str) (as : List Addr) (es : List Ev), vs = [.ref a, .ref l] ∧ LaneAt K H a xs ∧ laneB xs = true ∧ LogAt K H l as es ∧ Tabs Ps H ∧ ∀ H', Kp Ps H H' → Q (.bl (logB xs xs.length es)) H'
theorem ok_log {f fR fA fD : Addr} {fd fdR fdA fdD : FuncData} (F : Fun K "is_log" "is_log" sIsLog f fd) (B : Bi mg)
    (GR : FnOk P w K mg base CX0 5 fR fdR ["value"] (spReqLane K Ps)) (mgR : mg "require_lane" = some (.ref fR)) (kR : PySem.W.keepIn K (.ref fR) = true) (bR : Binds K fdR ["value"] [])
    (GA : FnOk P w K mg base CX0 3 fA fdA ["value"] (spEv K Ps arrB)) (mgA : mg "is_arrival" = some (.ref fA)) (kA : PySem.W.keepIn K (.ref fA) = true) (bA : Binds K fdA ["value"] [])
    (GD : FnOk P w K mg base CX0 2 fD fdD ["value"] (spEv K Ps depB)) (mgD : mg "is_departure" = some (.ref fD)) (kD : PySem.W.keepIn K (.ref fD) = true) (bD : Binds K fdD ["value"] []) :
    FnOk P w K mg base CX0 6 f fd ["start", "value"] (spLog K Ps) := by
  refine F.ok scIsLog (fun vs H Q E h => ?_) (fun cdv A outer s H vs Q E hr h => ?_)
  · obtain ⟨a, l, xs, as, es, rfl, _⟩ := h
    rfl
  · obtain ⟨a, l, xs, as, es, rfl, hL, hB, hE, hT, q⟩ := h
    refine ⟨_, pss_cons (ps_expr (pe_call GR hr (by rfl) mgR kR bR .nil pass0 (pa_cons (pv 0) pa_nil)))
      (pss_cons (ps_if (pt_not (pt_val (pe_callB call_isi (by rfl) B.isi (by decide +kernel) (pa_cons (pv 1) (pa_cons (pe_bltn (by rfl) B.lst (by decide +kernel) (v := .ty "list") rfl) pa_nil))))) (pss_one (ps_ret pe_bl)) pss_nil)
      (pss_cons (ps_set (i := 2) scIsLog.nd rfl (.inl rfl) (pe_callTy (cr_setT rfl) (by rfl) B.set (by decide +kernel) (pa_cons (pv 0) pa_nil)))
      (pss_cons (ps_set (i := 3) scIsLog.nd rfl (.inl rfl) (pe_callB call_len_seq (by rfl) B.len PySem.boot_len (pa_cons (pv 0) pa_nil)))
      (pss_cons (ps_for PassesOwn.never rfl (pi_list (pv 1)) (pg_name (i := 4) scIsLog.nd rfl (.inl rfl))
        (pss_one (ps_if (PW.pt (pw_and (pt_val (pe_call GA (hr.mono (by decide)) (by rfl) mgA kA bA .nil pass0 (pa_cons (pv 4) pa_nil))) (pw_and1 (pt_cmpR or_snotinK (pe_ix ix_tup (pv 4) pe_int (fun _ _ => rfl)) (pv 2) (by rfl)))))
          (pss_cons (ps_expr (pe_saddK (pv 2) (pa_cons (pe_ix ix_tup (pv 4) pe_int (fun _ _ => rfl)) pa_nil))) (pss_one (ps_aug (i := 3) scIsLog.nd rfl (.inl rfl) pe_int ip_add)))
          (pss_one (ps_if (PW.pt (pw_and (pt_val (pe_call GD (hr.mono (by decide)) (by rfl) mgD kD bD .nil pass0 (pa_cons (pv 4) pa_nil))) (pw_and1 (pt_cmpR op_gt (pv 3) pe_int (nomark _)))))
            (pss_one (ps_aug (i := 3) scIsLog.nd rfl (.inl rfl) pe_int ip_sub))
            (pss_one (ps_ret pe_bl)))))))
      (pss_one (ps_ret pe_bl)))))), ?_⟩
    -- require_lane(start)
    refine ⟨.ref a, rfl, a, xs, rfl, hL.at_, by have := hL.few; omega, hL.sz, hB, hT, fun H1 k1 => ?_⟩
    have hL1 := hL.kp k1 hT
    have hE1 := hE.kp k1 hT
    refine ⟨.ref l, rfl, .ref l, .ty "list", .type "list", .type "list", true, rfl, .ty _, tyx_lst hE1.at_, kit_ty (by decide +kernel), true, rfl, iteF ?_⟩
    -- used = set(start); present = len(start)
    refine ⟨.ref a, rfl, a, xs, rfl, hL1.at_, by have := hL.few; omega, fun u n hu hn _ => ?_⟩
    have hu0 : H u = none := k1.free hT hu
    have k2 : Kp Ps H (upd H1 u (SetK P w u (memK (xs.map Sum.inr)) n)) := k1.upd hT hu0
    have hL2 := hL.kp k2 hT
    refine ⟨.ref a, rfl, a, _, rfl, .inr hL2.at_, ?_⟩
    have hE2 := hE.kp k2 hT
    refine ⟨.ref l, rfl, l, rfl, ⟨_, hE2.at_⟩, for_list (K := K) (a := l) (xs := as.map V.ref) (fun i σ H' => ∃ (v4 : Option V) (m : Nat) (S : Key → Bool) (us : List Str) (c : Nat), σ = [some (.ref a), some (.ref l), some (.ref u), some (.int (m : Nat)), v4] ∧ Kp Ps H H' ∧
        H' u = some (SetK P w u S c) ∧ c ≤ xs.length + i ∧ (∀ x : Str, S (.inr x) = true ↔ x ∈ us) ∧ i ≤ es.length ∧ logB xs xs.length es = logB us m (es.drop i)) ?_ ?_ ?_ ?_⟩
    · refine ⟨none, xs.length, _, xs, n, ?_, k2, upd_same, by omega, fun x => ?_, Nat.zero_le _, rfl⟩
      · rw [List.length_map]
        rfl
      · rw [memK_iff, List.mem_map]
        constructor
        · intro ⟨y, hy, e⟩
          rw [← Sum.inr.inj e]
          exact hy
        · intro h
          exact ⟨x, h, rfl⟩
    · rintro i σ H' _ ⟨_, _, _, _, _, _, kp, _⟩
      exact (hE.kp kp hT).at_
    · rintro i y σ H' hi ⟨v4, m, S, us, c, rfl, kp, hSet, hc, hS, hie, hlog⟩
      have hlen := Paired.length hE.evs
      have hlt : i < es.length := by
        have h1 := (List.getElem?_eq_some_iff.mp hi).1
        rw [List.length_map] at h1
        omega
      obtain ⟨ev, hev⟩ : ∃ ev, es[i]? = some ev := ⟨es[i], List.getElem?_eq_getElem hlt⟩
      obtain ⟨b, hb, hbt⟩ := pair_at (hE.kp kp hT).evs i ev hev
      have hy : y = .ref b := by
        rw [List.getElem?_map, hb] at hi
        exact (Option.some.inj hi).symm
      subst hy
      have hdrop : es.drop i = ev :: es.drop (i + 1) := by
        rw [List.drop_eq_getElem_cons hlt]
        rw [List.getElem?_eq_getElem hlt] at hev
        rw [Option.some.inj hev]
      rw [hdrop] at hlog
      have hsz : ∀ c', ev = .inn c' → c'.length ≤ sizeLine := fun c' e => hE.sz c' (e ▸ List.mem_of_getElem? hev)
      have few1 := hL.few
      have few2 := hE.few
      -- is_arrival(event)
      refine ⟨.ref b, rfl, b, ev, rfl, hbt, hsz, kp.tab, fun H3 k3 => ⟨_, rfl, ?_⟩⟩
      have kp3 := kp.trans k3
      have hSet3 := k3.ext kp.tab hSet
      have hbt3 := k3.seqT kp.tab hbt
      -- elif is_departure(event) and present > 0
      have dep : ∀ H4, Kp Ps H3 H4 → (depB ev && decide (0 < m)) = false → logB us m (ev :: es.drop (i + 1)) = false → Q (.bl false) H4 := fun H4 k4 _ hf => by
        have := q H4 (kp3.trans k4)
        rw [hlog, hf] at this
        exact this
      cases ev with
      | out =>
        refine iteF (iteF ?_)
        refine ⟨.ref b, rfl, b, .out, rfl, hbt3, fun _ e => (by cases e), kp3.tab, fun H4 k4 => ⟨_, rfl, iteT ?_⟩⟩
        refine ⟨_, rfl, _, _, rfl, rfl, _, rfl, ite2 (fun hm => ?_) (fun hm => ?_)⟩
        · have hm : (0 : Int) < (m : Nat) := of_decide_eq_true hm
          refine ⟨_, rfl, _, _, rfl, rfl, some (.ref b), m - 1, S, us, c, ?_, kp3.trans k4, k4.ext kp3.tab hSet3, by omega, hS, hlt, ?_⟩
          · show [some (V.ref a), some (V.ref l), some (V.ref u), some (V.int ((m : Nat) - 1)), some (V.ref b)] = _
            rw [show ((m : Nat) : Int) - 1 = ((m - 1 : Nat) : Int) by omega]
          · rw [hlog]
            show (if 0 < m then _ else _) = _
            rw [if_pos (by omega)]
        · have hm : ¬ 0 < m := fun z => hm (decide_eq_true (by omega))
          exact dep H4 k4 (by simp [hm]) (by show (if 0 < m then _ else _) = _; rw [if_neg hm])
      | inn x =>
        refine ite2 (fun hx => ?_) (fun hx => ?_)
        · have hx : carB x = true := hx
          refine ⟨.ref b, rfl, b, _, 1, .str x, rfl, rfl, hbt3, atI_nat (j := 1) rfl, .ref u, rfl, .inr x, u, S, c, rfl, rfl, hSet3, _, rfl, ?_⟩
          show if (!S (.inr x)) = true then _ else _
          cases hin : S (.inr x) with
          | false =>
            have hxu : ¬ x ∈ us := fun z => by
              rw [(hS x).mpr z] at hin
              cases hin
            refine iteT ⟨.ref u, rfl, ⟨u, S, c, rfl, hSet3⟩, .ref b, rfl, b, _, 1, .str x, rfl, rfl, hbt3, atI_nat (j := 1) rfl, u, .inr x, S, c, rfl, rfl, hSet3, by unfold scanBound; omega, ?_⟩
            refine ⟨_, rfl, _, _, rfl, rfl, some (.ref b), m + 1, _, x :: us, _, rfl, kp3.upd hT hu0, upd_same, ?_, fun z => ?_, hlt, ?_⟩
            · rw [hin, if_neg Bool.false_ne_true]
              omega
            · show (S (.inr z) || decide ((Sum.inr z : Key) = Sum.inr x)) = true ↔ _
              rw [Bool.or_eq_true, hS z, decide_eq_true_iff, List.mem_cons]
              constructor
              · rintro (h | h)
                · exact .inr h
                · exact .inl (Sum.inr.inj h)
              · rintro (h | h)
                · exact .inr (by rw [h])
                · exact .inl h
            · rw [hlog]
              show (if carB x = true ∧ ¬ x ∈ us then _ else _) = _
              rw [if_pos ⟨hx, hxu⟩]
          | true =>
            have hxu : x ∈ us := (hS x).mp hin
            refine iteF ?_
            refine ⟨.ref b, rfl, b, .inn x, rfl, hbt3, hsz, kp3.tab, fun H4 k4 => ⟨_, rfl, iteF (iteF ?_)⟩⟩
            exact dep H4 k4 rfl (by show (if carB x = true ∧ ¬ x ∈ us then _ else _) = _; rw [if_neg fun z => z.2 hxu])
        · have hx : ¬ carB x = true := hx
          refine iteF ?_
          refine ⟨.ref b, rfl, b, .inn x, rfl, hbt3, hsz, kp3.tab, fun H4 k4 => ⟨_, rfl, iteF (iteF ?_)⟩⟩
          exact dep H4 k4 rfl (by show (if carB x = true ∧ ¬ x ∈ us then _ else _) = _; rw [if_neg fun z => hx z.1])
    · rintro σ H' ⟨v4, m, S, us, c, rfl, kp, hSet, hc, hS, hie, hlog⟩
      have := q H' kp
      rw [hlog, List.length_map, Paired.length hE.evs, List.drop_length] at this
      exact this
end
end Ln


set_option Elab.async false
set_option linter.all false
set_option maxRecDepth 100000
set_option maxHeartbeats 2000000
namespace Ln
open PySem PySem.Spec PyProof.Rows L2 GxR
theorem scReqLog : FnScope ["start", "log"] ["start", "log"] (defScope sReqLog) := ⟨rfl, rfl, rfl, by decide +kernel, rfl, by decide +kernel, by decide +kernel⟩
theorem scIsSide : FnScope ["value"] ["value"] (defScope sIsSide) := ⟨rfl, rfl, rfl, by decide +kernel, rfl, by decide +kernel, by decide +kernel⟩
theorem scReqSides : FnScope ["log", "sides"] ["log", "sides"] (defScope sReqSides) := ⟨rfl, rfl, rfl, by decide +kernel, rfl, by decide +kernel, by decide +kernel⟩
theorem scSizes : FnScope ["start", "log", "counts", "event", "change"] ["start", "log"] (defScope sSizes) := ⟨rfl, rfl, rfl, by decide +kernel, rfl, by decide +kernel, by decide +kernel⟩
def szs : Int → List Ev → List Int
  | n, [] => [n]
  | n, .inn _ :: r => n :: szs (n + 1) r
  | n, .out :: r => n :: szs (n - 1) r
def Ev.dn : Ev → Int
  | .inn _ => 1
  | .out => -1
theorem szs_head (n : Int) (es : List Ev) : (szs n es)[0]? = some n := by
  cases es with
  | nil => rfl
  | cons e r => cases e <;> rfl
theorem szs_len : ∀ (n : Int) (es : List Ev), (szs n es).length = es.length + 1
  | _, [] => rfl
  | n, .inn _ :: r => by show (szs (n + 1) r).length + 1 = _; rw [szs_len]; rfl
  | n, .out :: r => by show (szs (n - 1) r).length + 1 = _; rw [szs_len]; rfl
theorem szs_step : ∀ (n : Int) (es : List Ev) (i : Nat) (e : Ev) (k : Int), es[i]? = some e → (szs n es)[i]? = some k → (szs n es)[i + 1]? = some (k + e.dn)
  | n, [], i, e, k, h, _ => by simp at h
  | n, .inn c :: r, 0, e, k, h, h2 => by
    have e1 := Option.some.inj h
    have e2 := Option.some.inj h2
    subst e1 e2
    show (szs (n + 1) r)[0]? = _
    rw [szs_head]
    rfl
  | n, .out :: r, 0, e, k, h, h2 => by
    have e1 := Option.some.inj h
    have e2 := Option.some.inj h2
    subst e1 e2
    show (szs (n - 1) r)[0]? = _
    rw [szs_head]
    rfl
  | n, .inn c :: r, i + 1, e, k, h, h2 => szs_step (n + 1) r i e k (by simpa using h) h2
  | n, .out :: r, i + 1, e, k, h, h2 => szs_step (n - 1) r i e k (by simpa using h) h2
def sideB (x : Str) : Bool := decide (x = "L") || decide (x = "R")
section
variable {P : Program} {w : World} {K : PySem.W.Frag} {mg : Str → Option Value} {base : Heap} {Ps : List Addr}
def spReqLog (K : PySem.W.Frag) (Ps : List Addr) : Sp := fun vs H Q _ => ∃ (a l : Addr) (xs : List Str) (as : List Addr) (es : List Ev), vs = [.ref a, .ref l] ∧ LaneAt K H a xs ∧ laneB xs = true ∧ LogAt K H l as es ∧ logB xs xs.length es = true ∧ Tabs Ps H ∧ ∀ H', Kp Ps H H' → Q .non H'
theorem ok_reqLog {f fL : Addr} {fd fdL : FuncData} (F : Fun K "require_log" "require_log" sReqLog f fd)
    (GL : FnOk P w K mg base CX0 6 fL fdL ["start", "value"] (spLog K Ps)) (mgL : mg "is_log" = some (.ref fL)) (kL : PySem.W.keepIn K (.ref fL) = true) (bL : Binds K fdL ["start", "value"] []) : FnOk P w K mg base CX0 7 f fd ["start", "log"] (spReqLog K Ps) := by
  refine F.ok scReqLog (fun vs H Q E h => ?_) (fun cdv A outer s H vs Q E hr h => ?_)
  · obtain ⟨a, l, xs, as, es, rfl, _⟩ := h
    rfl
  · obtain ⟨a, l, xs, as, es, rfl, hL, hB, hE, hB2, hT, q⟩ := h
    refine ⟨_, pss_one (ps_if (pt_not (pt_val (pe_call GL hr (by rfl) mgL kL bL .nil pass0 (pa_cons (pv 0) (pa_cons (pv 1) pa_nil))))) (pss_one ps_dead) pss_nil), ?_⟩
    refine ⟨.ref a, rfl, .ref l, rfl, a, l, xs, as, es, rfl, hL, hB, hE, hT, fun H' kp => ⟨_, rfl, ?_⟩⟩
    rw [hB2]
    exact iteF (q H' kp)
def spSide (Ps : List Addr) : Sp := fun vs H Q _ => ∃ x : Str, vs = [.str x] ∧ Tabs Ps H ∧ ∀ H', Kp Ps H H' → Q (.bl (sideB x)) H'
theorem ok_side {f : Addr} {fd : FuncData} (F : Fun K "is_side" "is_side" sIsSide f fd) (B : Bi mg) : FnOk P w K mg base CX0 1 f fd ["value"] (spSide Ps) := by
  refine F.ok scIsSide (fun vs H Q E h => ?_) (fun cdv A outer s H vs Q E hr h => ?_)
  · obtain ⟨x, rfl, _⟩ := h
    rfl
  · obtain ⟨x, rfl, hT, q⟩ := h
    refine ⟨_, pss_one (ps_ret (pe_and (pe_callB call_isi (by rfl) B.isi (by decide +kernel) (pa_cons (pv 0) (pa_cons (pe_bltn (by rfl) B.str (by decide +kernel) (v := .ty "str") rfl) pa_nil)))
      (pe_one (pe_cmpR op_in_seq (pv 0) (pe_tup (pa_cons pe_str (pa_cons pe_str pa_nil))) (by rfl))))), ?_⟩
    refine ⟨_, rfl, .str x, .ty "str", .type "str", .type "str", true, rfl, .ty _, .base (.str x), kit_ty (by decide +kernel), true, rfl, iteT ?_⟩
    refine ⟨_, rfl, by show 2 ≤ sizeLine; decide, fun p hp => ⟨p, _, rfl, .inr (SqT.of upd_same), rfl, rfl, ?_⟩⟩
    have e : inV (.str x) [.str "L", .str "R"] = sideB x := by
      unfold inV sideB
      show (decide ("L" = x) || (decide ("R" = x) || false)) = _
      rw [Bool.or_false]
      congr 1
      · exact decide_eq_decide.mpr ⟨fun h => h.symm, fun h => h.symm⟩
      · exact decide_eq_decide.mpr ⟨fun h => h.symm, fun h => h.symm⟩
    show Q (.bl (inV (.str x) [.str "L", .str "R"])) _
    rw [e]
    exact q _ (Kp.new hT hp)
end
end Ln


set_option Elab.async false
set_option linter.all false
set_option maxRecDepth 100000
set_option maxHeartbeats 2000000
namespace Ln
open PySem PySem.Spec PyProof.Rows L2 GxR
section
variable {P : Program} {w : World} {K : PySem.W.Frag} {mg : Str → Option Value} {base : Heap} {Ps : List Addr}
def spReqSides (K : PySem.W.Frag) (Ps : List Addr) : Sp := fun vs H Q _ => ∃ (l m : Addr) (as : List V) (sd : List Str), vs = [.ref l, .ref m] ∧ SqL K H l as ∧ SqL K H m (sd.map V.str) ∧ sd.length = as.length ∧ sd.all sideB = true ∧ Tabs Ps H ∧ ∀ H', Kp Ps H H' → Q .non H'
theorem ok_reqSides {f c P1 fS : Addr} {fd fdS : FuncData} (F : FunC K "require_sides" "require_sides" sReqSides f fd c) (B : Bi mg) (TB : TabB base mg c P1) (hP : P1 ∈ Ps)
    (GS : FnOk P w K mg base CX0 1 fS fdS ["value"] (spSide Ps)) (mgS : mg "is_side" = some (.ref fS)) (kS : PySem.W.keepIn K (.ref fS) = true) (bS : Binds K fdS ["value"] []) : FnOk P w K mg base CX0 3 f fd ["log", "sides"] (spReqSides K Ps) := by
  refine F.ok scReqSides (fun vs H Q E h => ?_) (fun A outer s H vs Q E hr h => ?_)
  · obtain ⟨l, m, as, sd, rfl, _⟩ := h
    rfl
  · obtain ⟨l, m, as, sd, rfl, hL, hS, hlen, hall, hT, q⟩ := h
    refine ⟨_, pss_cons (ps_if (PW.pt (pw_or (pt_not (pt_val (pe_callB call_isi (by rfl) B.isi (by decide +kernel) (pa_cons (pv 1) (pa_cons (pe_bltn (by rfl) B.lst (by decide +kernel) (v := .ty "list") rfl) pa_nil)))))
        (pw_or1 (pt_cmpR op_ne (pe_callB call_len_seq (by rfl) B.len PySem.boot_len (pa_cons (pv 1) pa_nil)) (pe_callB call_len_seq (by rfl) B.len PySem.boot_len (pa_cons (pv 0) pa_nil)) (nomark _)))))
        (pss_one ps_dead) pss_nil)
      (pss_one (ps_if (pt_not (pt_val (pe_allG (k := 1) hr rfl (by rfl) B.all TB rfl ⟨rfl, rfl, by decide +kernel, by decide +kernel, rfl, rfl⟩ (pi_list (pv 1))
          (fun _ _ _ _ _ _ _ _ hk => pe_call GS hk rfl mgS kS bS .nil pass0 (pa_cons (pv 0) pa_nil)))))
        (pss_one ps_dead) pss_nil)), ?_⟩
    refine ⟨_, rfl, .ref m, .ty "list", .type "list", .type "list", true, rfl, .ty _, tyx_lst hS, kit_ty (by decide +kernel), true, rfl, iteF ?_⟩
    refine ⟨.ref m, rfl, m, _, rfl, .inl hS, .ref l, rfl, l, _, rfl, .inl hL, rfl, _, rfl, ?_⟩
    have e0 : (!decide (V.int (((sd.map V.str).length : Nat) : Int) = V.int ((as.length : Nat) : Int))) = false := by
      rw [List.length_map, hlen, decide_eq_true rfl]
      rfl
    rw [e0]
    refine iteF ?_
    refine ⟨.ref m, rfl, m, rfl, ⟨_, hS⟩, hT P1 hP, fun i n H' => n = sd.length - i ∧ Kp Ps H H' ∧ i ≤ sd.length, fun H2 hH => ⟨sd.length, by omega, Kp.tabbed hT hP hH, Nat.zero_le _⟩, fun i n H' hW => ?_⟩
    obtain ⟨rfl, kp, hi⟩ := hW
    have hS' := kp.seqL hT hS
    by_cases hlt : i < sd.length
    · have hx : (sd.map V.str)[i]? = some (V.str sd[i]) := by rw [List.getElem?_map, List.getElem?_eq_getElem hlt]; rfl
      refine .inr ⟨⟨_, _, hS', hx⟩, fun v H3 hy => ?_⟩
      obtain ⟨rfl, fv⟩ := hy
      obtain rfl : v = V.str sd[i] := Option.some.inj ((fv _ hS').symm.trans hx)
      refine ⟨_, rfl, sd[i], rfl, kp.tab, fun H4 kp4 => ⟨_, rfl, ?_⟩⟩
      rw [List.all_eq_true.mp hall _ (List.getElem_mem hlt)]
      exact iteT ⟨_, by omega, rfl, kp.trans kp4, hlt⟩
    · exact .inl ⟨⟨_, hS', by rw [List.length_map]; omega⟩, true, rfl, iteF (q H' kp)⟩
def spSizes (K : PySem.W.Frag) (Ps : List Addr) : Sp := fun vs H Q _ => ∃ (a l : Addr) (xs : List Str) (as : List Addr) (es : List Ev), vs = [.ref a, .ref l] ∧ LaneAt K H a xs ∧ laneB xs = true ∧ LogAt K H l as es ∧ logB xs xs.length es = true ∧ Tabs Ps H ∧
  ∀ H' p, Kp Ps H H' → H p = none → H' p = some (.lst ((szs xs.length es).map V.int)) → Q (.ref p) H'
theorem Kp.setNew {H H1 : Hp} {u : Addr} {o : HO} (k : Kp Ps H H1) (hT : Tabs Ps H) (hu : H u = none) : Kp Ps H (L2.upd H1 u o) := k.upd hT hu
theorem ok_sizes {f fL : Addr} {fd fdL : FuncData} (F : Fun K "sizes" "sizes" sSizes f fd) (B : Bi mg)
    (GL : FnOk P w K mg base CX0 7 fL fdL ["start", "log"] (spReqLog K Ps)) (mgL : mg "require_log" = some (.ref fL)) (kL : PySem.W.keepIn K (.ref fL) = true) (bL : Binds K fdL ["start", "log"] []) : FnOk P w K mg base CX0 8 f fd ["start", "log"] (spSizes K Ps) := by
  refine F.ok scSizes (fun vs H Q E h => ?_) (fun cdv A outer s H vs Q E hr h => ?_)
  · obtain ⟨a, l, xs, as, es, rfl, _⟩ := h
    rfl
  · obtain ⟨a, l, xs, as, es, rfl, hL, hB, hE, hB2, hT, q⟩ := h
    refine ⟨_, pss_cons (ps_expr (pe_call GL hr (by rfl) mgL kL bL .nil pass0 (pa_cons (pv 0) (pa_cons (pv 1) pa_nil))))
      (pss_cons (ps_set (i := 2) scSizes.nd rfl (.inl rfl) (pe_lst (pa_cons (pe_callB call_len_seq (by rfl) B.len PySem.boot_len (pa_cons (pv 0) pa_nil)) pa_nil)))
      (pss_cons (ps_for PassesOwn.never rfl (pi_list (pv 1)) (pg_name (i := 3) scSizes.nd rfl (.inl rfl))
        (pss_cons (ps_set (i := 4) scSizes.nd rfl (.inl rfl) (pe_ifExp (pt_cmpR op_eq (pe_ix ix_tup (pv 3) pe_int (fun _ _ => rfl)) pe_str (nomark _)) pe_int (pe_un un_neg pe_int)))
        (pss_one (ps_expr (pe_bm PySem.F.plainAttrs_list PySem.F.slot_list_append PySem.F.type_list_append mt_append (pv 2) (pa_cons (pe_op op_add (pe_ix ix_list (pv 2) (pe_un un_neg pe_int) (fun _ _ => rfl)) (pv 4)) pa_nil))))))
      (pss_one (ps_ret (pv 2))))), ?_⟩
    refine ⟨.ref a, rfl, .ref l, rfl, a, l, xs, as, es, rfl, hL, hB, hE, hB2, hT, fun H1 k1 => ?_⟩
    have hL1 := hL.kp k1 hT
    have hE1 := hE.kp k1 hT
    refine ⟨.ref a, rfl, a, _, rfl, .inr hL1.at_, by show 1 ≤ sizeLine; decide, fun o ho => ?_⟩
    have hoo : H o = none := k1.free hT ho
    have k2 : Kp Ps H (L2.upd H1 o (.lst [V.int ((xs.map V.str).length : Nat)])) := k1.upd hT hoo
    have hlen := Paired.length hE.evs
    refine ⟨.ref l, rfl, l, rfl, ⟨_, (hE.kp k2 hT).at_⟩, for_list (K := K) (a := l) (xs := as.map V.ref) (fun i σ H' => ∃ v3 v4 : Option V, σ = [some (.ref a), some (.ref l), some (.ref o), v3, v4] ∧ Kp Ps H H' ∧ i ≤ es.length ∧ H' o = some (.lst (((szs xs.length es).take (i + 1)).map V.int))) ?_ ?_ ?_ ?_⟩
    · refine ⟨none, none, rfl, k2, Nat.zero_le _, ?_⟩
      rw [upd_same, List.take_add_one, szs_head, List.length_map]
      rfl
    · rintro i σ H' _ ⟨_, _, _, kp, _⟩
      exact (hE.kp kp hT).at_
    · rintro i y σ H' hi ⟨v3, v4, rfl, kp, hie, ho'⟩
      have hlt : i < es.length := by
        have h1 := (List.getElem?_eq_some_iff.mp hi).1
        rw [List.length_map] at h1
        omega
      have hev : es[i]? = some es[i] := List.getElem?_eq_getElem hlt
      obtain ⟨b, hb, hbt⟩ := pair_at (hE.kp kp hT).evs i _ hev
      have hy : y = .ref b := by
        rw [List.getElem?_map, hb] at hi
        exact (Option.some.inj hi).symm
      subst hy
      have hz : i < (szs xs.length es).length := by rw [szs_len]; omega
      have few2 := hE.few
      have hk : (szs xs.length es)[i]? = some (szs xs.length es)[i] := List.getElem?_eq_getElem hz
      have hlast : ((szs xs.length es).take (i + 1)).map V.int = ((szs xs.length es).take i).map V.int ++ [V.int (szs xs.length es)[i]] := by
        rw [List.take_add_one, hk, List.map_append]
        rfl
      have hstep := szs_step _ es i _ _ hev hk
      have fin : ∀ d : Int, d = (es[i]).dn → L2.upd H' o (.lst (((szs xs.length es).take (i + 1)).map V.int ++ [V.int ((szs xs.length es)[i] + d)])) o = some (.lst (((szs xs.length es).take (i + 1 + 1)).map V.int)) := fun d e => by
        rw [upd_same, List.take_add_one (i := i + 1), hstep, List.map_append, e]
        rfl
      have room : (((szs xs.length es).take (i + 1)).map V.int).length < sizeLine := by
        rw [List.length_map, List.length_take]
        exact Nat.lt_of_le_of_lt (Nat.min_le_left _ _) (small1000 (by omega))
      have lastAt : atI (((szs xs.length es).take (i + 1)).map V.int) (-1) = some (V.int (szs xs.length es)[i]) := by
        rw [hlast]
        exact atI_last _ _
      cases hE2 : es[i] with
      | inn c =>
        rw [hE2] at hbt
        refine ⟨.ref b, rfl, b, _, 0, .str "in", rfl, rfl, hbt, atI_nat (j := 0) rfl, rfl, _, rfl, ?_⟩
        rw [decide_eq_true (rfl : V.str "in" = V.str "in")]
        refine iteT ?_
        refine ⟨.ref o, rfl, .inl ⟨rfl, _, .inl (.inl ho')⟩, .ref o, rfl, 1, rfl, o, _, -1, _, rfl, rfl, .inl (.inl ho'), lastAt, .int 1, rfl, _, _, rfl, rfl, o, _, _, rfl, rfl, ho', room, ?_⟩
        exact ⟨some (.ref b), some (.int 1), rfl, kp.upd hT hoo, hlt, fin 1 (by rw [hE2]; rfl)⟩
      | out =>
        rw [hE2] at hbt
        refine ⟨.ref b, rfl, b, _, 0, .str "out", rfl, rfl, hbt, atI_nat (j := 0) rfl, rfl, _, rfl, ?_⟩
        rw [decide_eq_false (fun z => ne_oi (V.str.inj z))]
        refine iteF ⟨1, rfl, ?_⟩
        refine ⟨.ref o, rfl, .inl ⟨rfl, _, .inl (.inl ho')⟩, .ref o, rfl, 1, rfl, o, _, -1, _, rfl, rfl, .inl (.inl ho'), lastAt, .int (-1), rfl, _, _, rfl, rfl, o, _, _, rfl, rfl, ho', room, ?_⟩
        exact ⟨some (.ref b), some (.int (-1)), rfl, kp.upd hT hoo, hlt, fin (-1) (by rw [hE2]; rfl)⟩
    · rintro σ H' ⟨v3, v4, rfl, kp, hie, ho'⟩
      refine ⟨.ref o, rfl, q H' o kp hoo ?_⟩
      rw [ho', List.length_map, hlen, List.take_of_length_le (by rw [szs_len]; exact Nat.le_refl _)]
end
end Ln


set_option Elab.async false
set_option linter.all false
set_option maxRecDepth 100000
set_option maxHeartbeats 2000000
namespace Ln
open PySem PySem.Spec PyProof.Rows L2 GxR
theorem scNumbers : FnScope ["start", "log", "event"] ["start", "log"] (defScope sNumbers) := ⟨rfl, rfl, rfl, by decide +kernel, rfl, by decide +kernel, by decide +kernel⟩
theorem scMove : FnScope ["present", "event", "side"] ["present", "event", "side"] (defScope sMove) := ⟨rfl, rfl, rfl, by decide +kernel, rfl, by decide +kernel, by decide +kernel⟩
theorem scReplay : FnScope ["start", "log", "sides", "present", "departed", "event", "side", "car"] ["start", "log", "sides"] (defScope sReplay) := ⟨rfl, rfl, rfl, by decide +kernel, rfl, by decide +kernel, by decide +kernel⟩
/-- the cars that arrive -/
def arrs : List Ev → List Str
  | [] => []
  | .inn c :: r => c :: arrs r
  | .out :: r => arrs r
theorem arrs_app : ∀ (a b : List Ev), arrs (a ++ b) = arrs a ++ arrs b
  | [], b => rfl
  | .inn c :: r, b => by show c :: arrs (r ++ b) = _; rw [arrs_app]; rfl
  | .out :: r, b => arrs_app r b
theorem arrs_len : ∀ (a : List Ev), (arrs a).length ≤ a.length
  | [] => Nat.le_refl _
  | .inn c :: r => Nat.succ_le_succ (arrs_len r)
  | .out :: r => Nat.le_succ_of_le (arrs_len r)
section
variable {P : Program} {w : World} {K : PySem.W.Frag} {mg : Str → Option Value} {base : Heap} {Ps : List Addr}
def spNumbers (K : PySem.W.Frag) (Ps : List Addr) : Sp := fun vs H Q _ => ∃ (a l : Addr) (xs : List Str) (as : List Addr) (es : List Ev), vs = [.ref a, .ref l] ∧ LaneAt K H a xs ∧ laneB xs = true ∧ LogAt K H l as es ∧ logB xs xs.length es = true ∧ Tabs Ps H ∧
  ∀ H' p, Kp Ps H H' → H p = none → H' p = some (.lst ((xs ++ arrs es).map V.str)) → Q (.ref p) H'
theorem ok_numbers {f fL : Addr} {fd fdL : FuncData} (F : Fun K "numbers" "numbers" sNumbers f fd) (B : Bi mg)
    (GL : FnOk P w K mg base CX0 7 fL fdL ["start", "log"] (spReqLog K Ps)) (mgL : mg "require_log" = some (.ref fL)) (kL : PySem.W.keepIn K (.ref fL) = true) (bL : Binds K fdL ["start", "log"] []) : FnOk P w K mg base CX0 8 f fd ["start", "log"] (spNumbers K Ps) := by
  refine F.ok scNumbers (fun vs H Q E h => ?_) (fun cdv A outer s H vs Q E hr h => ?_)
  · obtain ⟨a, l, xs, as, es, rfl, _⟩ := h
    rfl
  · obtain ⟨a, l, xs, as, es, rfl, hL, hB, hE, hB2, hT, q⟩ := h
    refine ⟨_, pss_cons (ps_expr (pe_call GL hr (by rfl) mgL kL bL .nil pass0 (pa_cons (pv 0) (pa_cons (pv 1) pa_nil))))
      (pss_one (ps_ret (pe_op op_cat (pe_callTy call_list_of (by rfl) B.lst (by decide +kernel) (pa_cons (pv 0) pa_nil))
        (pe_lc (own := [("event", 2)]) (g := gName 2) (by rfl) scNumbers.nd (pi_list (pv 1)) (blkOk_by (own := [("event", 2)]) (N := ["start", "log", "event"]) (sc := defScope sNumbers) (by decide +kernel))
          (fun _ _ _ _ _ => pg_name (i := 2) scNumbers.nd rfl (Or.inl rfl)) (fun _ _ _ _ _ => pts_one (pt_cmpR op_eq (pe_ix (r := rIxT K) ix_tup (pv 2) pe_int (fun _ _ => rfl)) pe_str (nomark _))) (fun _ _ _ _ _ => pe_ix (r := rIxT K) ix_tup (pv 2) pe_int (fun _ _ => rfl)))))), ?_⟩
    refine ⟨.ref a, rfl, .ref l, rfl, a, l, xs, as, es, rfl, hL, hB, hE, hB2, hT, fun H1 k1 => ?_⟩
    have hL1 := hL.kp k1 hT
    refine ⟨.ref a, rfl, a, _, rfl, .inr hL1.at_, fun o ho => ?_⟩
    have hoo : H o = none := k1.free hT ho
    have k2 : Kp Ps H (L2.upd H1 o (.lst (xs.map V.str))) := k1.upd hT hoo
    have hlen := Paired.length hE.evs
    refine ⟨.ref l, rfl, l, rfl, ⟨_, (hE.kp k2 hT).at_⟩, fun D hD => ?_⟩
    have hDD : H D = none := k2.free hT hD
    have hDo : D ≠ o := fun z => by
      rw [z, upd_same] at hD
      cases hD
    refine lc_list (K := K) (a := l) (xs := as.map V.ref) (fun i H' => Kp Ps H H' ∧ i ≤ es.length ∧ H' o = some (.lst (xs.map V.str)) ∧ H' D = some (.lst ((arrs (es.take i)).map V.str))) ?_ ?_ ?_ ?_
    · exact ⟨k2.upd hT hDD, Nat.zero_le _, by rw [upd_ne hDo.symm, upd_same], upd_same⟩
    · rintro i H' _ ⟨kp, _⟩
      exact (hE.kp kp hT).at_
    · rintro i y H' hi ⟨kp, hie, ho', hD'⟩
      have hlt : i < es.length := by
        have h1 := (List.getElem?_eq_some_iff.mp hi).1
        rw [List.length_map] at h1
        omega
      have hev : es[i]? = some es[i] := List.getElem?_eq_getElem hlt
      obtain ⟨b, hb, hbt⟩ := pair_at (hE.kp kp hT).evs i _ hev
      have hy : y = .ref b := by
        rw [List.getElem?_map, hb] at hi
        exact (Option.some.inj hi).symm
      subst hy
      have few2 := hE.few
      have htake : es.take (i + 1) = es.take i ++ [es[i]] := by rw [List.take_add_one, hev]; rfl
      refine ⟨rfl, ?_⟩
      cases hE2 : es[i] with
      | inn c =>
        rw [hE2] at hbt htake
        refine ⟨.ref b, rfl, b, _, 0, .str "in", rfl, rfl, hbt, atI_nat (j := 0) rfl, rfl, _, rfl, ?_⟩
        rw [decide_eq_true (rfl : V.str "in" = V.str "in")]
        refine iteT ⟨.ref b, rfl, b, _, 1, .str c, rfl, rfl, hbt, atI_nat (j := 1) rfl, _, hD', ?_, kp.upd hT hDD, hlt, ?_, ?_⟩
        · rw [List.length_map]
          refine small1000 ?_
          have := arrs_len (es.take i)
          rw [List.length_take] at this
          omega
        · rw [upd_ne hDo.symm]
          exact ho'
        · rw [upd_same, htake, arrs_app, List.map_append]
          rfl
      | out =>
        rw [hE2] at hbt htake
        refine ⟨.ref b, rfl, b, _, 0, .str "out", rfl, rfl, hbt, atI_nat (j := 0) rfl, rfl, _, rfl, ?_⟩
        rw [decide_eq_false (fun z => ne_oi (V.str.inj z))]
        refine iteF ⟨kp, hlt, ho', ?_⟩
        rw [hD', htake, arrs_app]
        show _ = some (HO.lst ((arrs (es.take i) ++ []).map V.str))
        rw [List.append_nil]
    · rintro H' ⟨kp, hie, ho', hD'⟩
      rw [List.length_map, hlen, List.take_length] at hD'
      refine ⟨o, D, _, _, rfl, rfl, ho', hD', ?_, fun p hp => ?_⟩
      · have h1 := hL.few
        have h2 := hE.few
        have h3 := arrs_len es
        rw [List.length_map, List.length_map]
        exact Nat.le_of_lt (small1000 (by omega))
      · have hpp : H p = none := kp.free hT hp
        refine q _ p (kp.upd hT hpp) hpp ?_
        rw [upd_same, List.map_append]
end
end Ln


set_option Elab.async false
set_option linter.all false
set_option maxRecDepth 100000
set_option maxHeartbeats 2000000
namespace Ln
open PySem PySem.Spec PyProof.Rows L2 GxR
/-- the lane and the departed cars after one event -/
def stepR (p : List Str × List Str) (x : Ev × Str) : List Str × List Str :=
  match x.1 with
  | .inn c => (if x.2 = "L" then c :: p.1 else p.1 ++ [c], p.2)
  | .out => if x.2 = "L" then (p.1.drop 1, p.2 ++ p.1.take 1) else (p.1.dropLast, p.2 ++ p.1.drop (p.1.length - 1))
/-- behind the first i events -/
def atR (xs : List Str) (es : List Ev) (sd : List Str) (i : Nat) : List Str × List Str := ((es.zip sd).take i).foldl stepR (xs, [])
theorem atR_succ {xs : List Str} {es : List Ev} {sd : List Str} {i : Nat} {e : Ev} {x : Str} (h1 : es[i]? = some e) (h2 : sd[i]? = some x) : atR xs es sd (i + 1) = stepR (atR xs es sd i) (e, x) := by
  unfold atR
  have : (es.zip sd)[i]? = some (e, x) := by rw [List.getElem?_zip_eq_some]; exact ⟨h1, h2⟩
  rw [List.take_add_one, this, List.foldl_append]
  rfl
/-- how many are present, and that the rest of the log goes on -/
def Live (xs : List Str) (es : List Ev) (i m : Nat) : Prop := ∃ us, logB us m (es.drop i) = true
theorem live_step {xs : List Str} {es : List Ev} {i m : Nat} {e : Ev} (h : Live xs es i m) (he : es[i]? = some e) : match e with
  | .inn _ => Live xs es (i + 1) (m + 1)
  | .out => 0 < m ∧ Live xs es (i + 1) (m - 1) := by
  obtain ⟨us, hl⟩ := h
  have hlt := (List.getElem?_eq_some_iff.mp he).1
  have hd : es.drop i = e :: es.drop (i + 1) := by
    rw [List.drop_eq_getElem_cons hlt, (List.getElem?_eq_some_iff.mp he).2]
  rw [hd] at hl
  cases e with
  | inn c =>
    have hl : (if carB c = true ∧ ¬ c ∈ us then logB (c :: us) (m + 1) (es.drop (i + 1)) else false) = true := hl
    by_cases q : carB c = true ∧ ¬ c ∈ us
    · rw [if_pos q] at hl
      exact ⟨_, hl⟩
    · rw [if_neg q] at hl
      cases hl
  | out =>
    have hl : (if 0 < m then logB us (m - 1) (es.drop (i + 1)) else false) = true := hl
    by_cases q : 0 < m
    · rw [if_pos q] at hl
      exact ⟨q, _, hl⟩
    · rw [if_neg q] at hl
      cases hl
theorem side_cases {x : Str} (h : sideB x = true) : x = "L" ∨ x = "R" := by
  unfold sideB at h
  rcases Bool.or_eq_true _ _ ▸ h with h | h
  · exact .inl (of_decide_eq_true h)
  · exact .inr (of_decide_eq_true h)
theorem ne_RL : ¬ (("R" : Str) = "L") := by decide +kernel
section
variable {P : Program} {w : World} {K : PySem.W.Frag} {mg : Str → Option Value} {base : Heap} {Ps : List Addr}
def spReplay (K : PySem.W.Frag) (Ps : List Addr) : Sp := fun vs H Q _ => ∃ (a l m : Addr) (xs : List Str) (as : List Addr) (es : List Ev) (sd : List Str), vs = [.ref a, .ref l, .ref m] ∧ LaneAt K H a xs ∧ laneB xs = true ∧ LogAt K H l as es ∧ logB xs xs.length es = true ∧
  SqL K H m (sd.map V.str) ∧ sd.length = es.length ∧ sd.all sideB = true ∧ Tabs Ps H ∧
  ∀ H' p t d, Kp Ps H H' → H p = none → H t = none → H d = none → H' p = some (.tup [.ref t, .ref d]) → H' t = some (.tup ((atR xs es sd es.length).1.map V.str)) → H' d = some (.lst ((atR xs es sd es.length).2.map V.str)) → Q (.ref p) H'
def spMove (K : PySem.W.Frag) : Sp := fun vs H Q _ => ∃ (u b : Addr) (sx : Str) (lane : List Str) (e : Ev), vs = [.ref u, .ref b, .str sx] ∧ H u = some (.lst (lane.map V.str)) ∧ SqT K H b e.vals ∧ (sx = "L" ∨ sx = "R") ∧ lane.length ≤ 900 ∧
  (∀ c, e = .inn c → Q .non (L2.upd H u (.lst ((stepR (lane, []) (e, sx)).1.map V.str)))) ∧ (e = .out → lane ≠ [] ∧ ∀ x, (stepR (lane, []) (e, sx)).2 = [x] → Q (.str x) (L2.upd H u (.lst ((stepR (lane, []) (e, sx)).1.map V.str))))
theorem stepR_g (x g : List Str) (e : Ev × Str) : stepR (x, g) e = ((stepR (x, []) e).1, g ++ (stepR (x, []) e).2) := by
  obtain ⟨ev, s⟩ := e
  cases ev with
  | inn c => exact Prod.ext rfl (List.append_nil g).symm
  | out =>
    show (if s = "L" then (x.drop 1, g ++ x.take 1) else (x.dropLast, g ++ x.drop (x.length - 1)) : List Str × List Str) = ((if s = "L" then (x.drop 1, [] ++ x.take 1) else (x.dropLast, [] ++ x.drop (x.length - 1)) : List Str × List Str).1, g ++ (if s = "L" then (x.drop 1, [] ++ x.take 1) else (x.dropLast, [] ++ x.drop (x.length - 1)) : List Str × List Str).2)
    split <;> rfl
theorem ok_move {f : Addr} {fd : FuncData} (F : Fun K "move" "move" sMove f fd) (B : Bi mg) : FnOk P w K mg base CX0 1 f fd ["present", "event", "side"] (spMove K) := by
  refine F.ok scMove (fun vs H Q E h => ?_) (fun cdv A outer s H vs Q E hr h => ?_)
  · obtain ⟨u, b, sx, lane, e, rfl, _⟩ := h
    rfl
  · obtain ⟨u, b, sx, lane, e, rfl, hu, hbt, hsd, hlen, qi, qo⟩ := h
    refine ⟨_, pss_cons (ps_if (pt_cmpR op_eq (pe_ix ix_tup (pv 1) pe_int (fun _ _ => rfl)) pe_str (nomark _))
        (pss_cons (ps_expr (pe_bm PySem.F.plainAttrs_list PySem.F.slot_list_insert PySem.F.type_list_insert mt_insert (pv 0) (pa_cons (pe_ifExp (pt_cmpR op_eq (pv 2) pe_str (nomark _)) pe_int (pe_callB call_len_seq (by rfl) B.len PySem.boot_len (pa_cons (pv 0) pa_nil))) (pa_cons (pe_ix ix_tup (pv 1) pe_int (fun _ _ => rfl)) pa_nil))))
          (pss_one (ps_ret pe_non))) pss_nil)
      (pss_one (ps_ret (pe_bm PySem.F.plainAttrs_list PySem.F.slot_list_pop PySem.F.type_list_pop mt_popAt (pv 0) (pa_cons (pe_ifExp (pt_cmpR op_eq (pv 2) pe_str (nomark _)) pe_int (pe_un un_neg pe_int)) pa_nil)))), ?_⟩
    have lenb : (lane.map V.str).length < sizeLine := by rw [List.length_map]; exact small1000 (by omega)
    cases e with
    | inn c =>
      have qi := qi c rfl
      refine ⟨.ref b, rfl, b, _, 0, .str "in", rfl, rfl, hbt, atI_nat (j := 0) rfl, rfl, _, rfl, ?_⟩
      rw [decide_eq_true (rfl : V.str "in" = V.str "in")]
      refine iteT ?_
      rcases hsd with rfl | rfl
      · refine ⟨.ref u, rfl, .inl ⟨rfl, _, .inl (.inl hu)⟩, _, rfl, rfl, _, rfl, ?_⟩
        rw [decide_eq_true (rfl : V.str "L" = V.str "L")]
        refine iteT ⟨.ref b, rfl, b, _, 1, .str c, rfl, rfl, hbt, atI_nat (j := 1) rfl, u, _, 0, _, rfl, rfl, hu, lenb, by decide, by decide, ?_⟩
        exact qi
      · refine ⟨.ref u, rfl, .inl ⟨rfl, _, .inl (.inl hu)⟩, _, rfl, rfl, _, rfl, ?_⟩
        rw [decide_eq_false (fun z => ne_RL (V.str.inj z))]
        refine iteF ⟨.ref u, rfl, u, _, rfl, .inl (.inl (.inl hu)), .ref b, rfl, b, _, 1, .str c, rfl, rfl, hbt, atI_nat (j := 1) rfl, u, _, _, _, rfl, rfl, hu, lenb, by omega, by rw [List.length_map]; omega, ?_⟩
        have e1 : (List.take (Int.toNat (((List.map V.str lane).length : Nat) : Int)) (List.map V.str lane) ++ [V.str c] ++ List.drop (Int.toNat (((List.map V.str lane).length : Nat) : Int)) (List.map V.str lane)) = ((stepR (lane, []) (.inn c, "R")).1.map V.str) := by
          show _ = ((if ("R" : Str) = "L" then c :: lane else lane ++ [c]).map V.str)
          rw [if_neg ne_RL, Int.toNat_natCast, List.take_length, List.drop_length, List.append_nil, List.map_append]
          rfl
        rw [e1]
        exact qi
    | out =>
      obtain ⟨hne, qo⟩ := qo rfl
      refine ⟨.ref b, rfl, b, _, 0, .str "out", rfl, rfl, hbt, atI_nat (j := 0) rfl, rfl, _, rfl, ?_⟩
      rw [decide_eq_false (fun z => ne_oi (V.str.inj z))]
      refine iteF ?_
      rcases hsd with rfl | rfl
      · obtain ⟨x, r, rfl⟩ : ∃ x r, lane = x :: r := by
          cases lane with
          | nil => exact absurd rfl hne
          | cons x r => exact ⟨x, r, rfl⟩
        refine ⟨.ref u, rfl, .inl ⟨rfl, _, .inl (.inl hu)⟩, _, rfl, rfl, _, rfl, ?_⟩
        rw [decide_eq_true (rfl : V.str "L" = V.str "L")]
        refine iteT ⟨u, _, 0, 0, V.str x, rfl, rfl, hu, by decide, by decide, ?_, rfl, ?_⟩
        · exact (ixN_seq (i := 0) (j := 0) (by unfold ixN; rw [if_pos (by decide), if_pos (by rw [List.length_map, List.length_cons]; omega)]; rfl)).1
        exact qo x rfl
      · obtain ⟨x, r, rfl⟩ : ∃ x r, lane = r ++ [x] := ⟨_, _, (List.dropLast_concat_getLast hne).symm⟩
        have em : (r ++ [x]).map V.str = r.map V.str ++ [V.str x] := by rw [List.map_append]; rfl
        refine ⟨.ref u, rfl, .inl ⟨rfl, _, .inl (.inl hu)⟩, _, rfl, rfl, _, rfl, ?_⟩
        rw [decide_eq_false (fun z => ne_RL (V.str.inj z))]
        refine iteF ⟨1, rfl, u, _, -1, r.length, V.str x, rfl, rfl, hu, by decide, by decide, ?_, ?_, ?_⟩
        · refine (ixN_seq (i := -1) (j := r.length) ?_).1
          have el : ((r ++ [x]).map V.str).length = r.length + 1 := by rw [List.length_map, List.length_append]; rfl
          rw [el]
          unfold ixN
          rw [if_neg (by decide), if_pos (by omega)]
          congr 1
          omega
        · rw [em, List.getElem?_append_right (by rw [List.length_map]; exact Nat.le_refl _), List.length_map, Nat.sub_self]
          rfl
        have e2 : (stepR (r ++ [x], []) (.out, "R")) = (r, [x]) := by
          show (if ("R" : Str) = "L" then ((r ++ [x]).drop 1, [] ++ (r ++ [x]).take 1) else ((r ++ [x]).dropLast, [] ++ (r ++ [x]).drop ((r ++ [x]).length - 1)) : List Str × List Str) = _
          rw [if_neg ne_RL, show (r ++ [x]).length - 1 = r.length by rw [List.length_append]; rfl, List.drop_left, List.dropLast_concat]
          rfl
        have qo := qo x (by rw [e2])
        rw [e2] at qo
        have e3 : ((r ++ [x]).map V.str).eraseIdx r.length = r.map V.str := by
          rw [em, List.eraseIdx_append_of_length_le (by rw [List.length_map]; exact Nat.le_refl _), List.length_map, Nat.sub_self]
          show r.map V.str ++ [] = _
          rw [List.append_nil]
        rw [e3]
        exact qo
theorem ok_replay {f fL fS fM : Addr} {fd fdL fdS fdM : FuncData} (F : Fun K "replay" "replay" sReplay f fd) (B : Bi mg)
    (GL : FnOk P w K mg base CX0 7 fL fdL ["start", "log"] (spReqLog K Ps)) (mgL : mg "require_log" = some (.ref fL)) (kL : PySem.W.keepIn K (.ref fL) = true) (bL : Binds K fdL ["start", "log"] [])
    (GS : FnOk P w K mg base CX0 3 fS fdS ["log", "sides"] (spReqSides K Ps)) (mgS : mg "require_sides" = some (.ref fS)) (kS : PySem.W.keepIn K (.ref fS) = true) (bS : Binds K fdS ["log", "sides"] [])
    (GM : FnOk P w K mg base CX0 1 fM fdM ["present", "event", "side"] (spMove K)) (mgM : mg "move" = some (.ref fM)) (kM : PySem.W.keepIn K (.ref fM) = true) (bM : Binds K fdM ["present", "event", "side"] []) : FnOk P w K mg base CX0 8 f fd ["start", "log", "sides"] (spReplay K Ps) := by
  refine F.ok scReplay (fun vs H Q E h => ?_) (fun cdv A outer s H vs Q E hr h => ?_)
  · obtain ⟨a, l, m, xs, as, es, sd, rfl, _⟩ := h
    rfl
  · obtain ⟨a, l, m, xs, as, es, sd, rfl, hL, hB, hE, hB2, hS, hsl, hsa, hT, q⟩ := h
    refine ⟨_, pss_cons (ps_expr (pe_call GL hr (by rfl) mgL kL bL .nil pass0 (pa_cons (pv 0) (pa_cons (pv 1) pa_nil))))
      (pss_cons (ps_expr (pe_call GS (hr.mono (by decide)) (by rfl) mgS kS bS .nil pass0 (pa_cons (pv 1) (pa_cons (pv 2) pa_nil))))
      (pss_cons (ps_set (i := 3) scReplay.nd rfl (.inl rfl) (pe_callTy call_list_of (by rfl) B.lst (by decide +kernel) (pa_cons (pv 0) pa_nil)))
      (pss_cons (ps_set (i := 4) scReplay.nd rfl (.inl rfl) (pe_lst pa_nil))
      (pss_cons (ps_for PassesOwn.never rfl (pi_zip (by rfl) B.zip (pa_cons (pv 1) (pa_cons (pv 2) pa_nil)))
          (pg_tup rfl (pgs_cons (pg_name (i := 5) scReplay.nd rfl (.inl rfl)) (pgs_cons (pg_name (i := 6) scReplay.nd rfl (.inl rfl)) pgs_nil)))
        (pss_cons (ps_set (i := 7) scReplay.nd rfl (.inl rfl) (pe_call GM (hr.mono (by decide)) (by rfl) mgM kM bM .nil pass0 (pa_cons (pv 3) (pa_cons (pv 5) (pa_cons (pv 6) pa_nil)))))
          (pss_one (ps_if (pt_cmpR op_notN (pv 7) pe_non (nomark _))
            (pss_one (ps_expr (pe_bm PySem.F.plainAttrs_list PySem.F.slot_list_append PySem.F.type_list_append mt_append (pv 4) (pa_cons (pv 7) pa_nil)))) pss_nil))))
      (pss_one (ps_ret (pe_tup (pa_cons (pe_callTy call_tuple_of (by rfl) B.tup (by decide +kernel) (pa_cons (pv 3) pa_nil)) (pa_cons (pv 4) pa_nil))))))))), ?_⟩
    refine ⟨.ref a, rfl, .ref l, rfl, a, l, xs, as, es, rfl, hL, hB, hE, hB2, hT, fun H1 k1 => ?_⟩
    have hlen := Paired.length hE.evs
    refine ⟨.ref l, rfl, .ref m, rfl, l, m, _, sd, rfl, (hE.kp k1 hT).at_, k1.seqL hT hS, by rw [List.length_map]; omega, hsa, k1.tab, fun H2 k2' => ?_⟩
    have k2 := k1.trans k2'
    refine ⟨.ref a, rfl, a, _, rfl, .inr (hL.kp k2 hT).at_, fun u hu => ?_⟩
    have hu0 : H u = none := k2.free hT hu
    have k3 : Kp Ps H (L2.upd H2 u (.lst (xs.map V.str))) := k2.upd hT hu0
    refine ⟨Nat.zero_le _, fun d hd => ?_⟩
    have hd0 : H d = none := k3.free hT hd
    have hdu : d ≠ u := fun z => by
      rw [z, upd_same] at hd
      cases hd
    have k4 : Kp Ps H (L2.upd (L2.upd H2 u (.lst (xs.map V.str))) d (.lst [])) := k3.upd hT hd0
    have few1 := hL.few
    have few2 := hE.few
    refine ⟨.ref l, rfl, .ref m, rfl, l, m, as.map V.ref, sd.map V.str, rfl, (hE.kp k4 hT).at_, k4.seqL hT hS, RZ.for_zipL (K := K) (a := l) (b := m) (xs := as.map V.ref) (ys := sd.map V.str) (by rw [List.length_map, List.length_map]; omega)
      (fun i σ H' => ∃ (v5 v6 v7 : Option V) (n : Nat), σ = [some (.ref a), some (.ref l), some (.ref m), some (.ref u), some (.ref d), v5, v6, v7] ∧ Kp Ps H H' ∧ i ≤ es.length ∧ H' u = some (.lst ((atR xs es sd i).1.map V.str)) ∧ H' d = some (.lst ((atR xs es sd i).2.map V.str)) ∧
        (atR xs es sd i).1.length = n ∧ n ≤ xs.length + i ∧ (atR xs es sd i).2.length ≤ i ∧ Live xs es i n) ?_ ?_ ?_ ?_⟩
    · exact ⟨none, none, none, xs.length, rfl, k4, Nat.zero_le _, by rw [upd_ne hdu.symm, upd_same]; rfl, by rw [upd_same]; rfl, rfl, Nat.le_refl _, Nat.le_refl _, xs, hB2⟩
    · rintro i σ H' ⟨_, _, _, _, _, kp, _⟩
      exact ⟨(hE.kp kp hT).at_, kp.seqL hT hS⟩
    · rintro i y z T σ H' hi hsi ⟨v5, v6, v7, n, rfl, kp, hie, hu', hd', hn, hnb, hgb, hlive⟩ hTn
      have hlt : i < es.length := by
        have h1 := (List.getElem?_eq_some_iff.mp hi).1
        rw [List.length_map] at h1
        omega
      have hlt2 : i < sd.length := by omega
      obtain ⟨ev, hev⟩ : ∃ ev, es[i]? = some ev := ⟨es[i], List.getElem?_eq_getElem hlt⟩
      obtain ⟨sx, hsv⟩ : ∃ sx, sd[i]? = some sx := ⟨sd[i], List.getElem?_eq_getElem hlt2⟩
      have hT0 : H T = none := kp.free hT hTn
      have kp1 : Kp Ps H (L2.upd H' T (.tup [y, z])) := kp.upd hT hT0
      have nTu : u ≠ T := ne_of_none hu' hTn
      have nTd : d ≠ T := ne_of_none hd' hTn
      obtain ⟨b, hb, hbt⟩ := pair_at (hE.kp kp1 hT).evs i _ hev
      have hy : y = .ref b := by
        rw [List.getElem?_map, hb] at hi
        exact (Option.some.inj hi).symm
      subst hy
      have hz : z = .str sx := by
        rw [List.getElem?_map, hsv] at hsi
        exact (Option.some.inj hsi).symm
      subst hz
      have hu1 : (L2.upd H' T (.tup [.ref b, .str sx])) u = some (.lst ((atR xs es sd i).1.map V.str)) := by rw [upd_ne nTu]; exact hu'
      have hd1 : (L2.upd H' T (.tup [.ref b, .str sx])) d = some (.lst ((atR xs es sd i).2.map V.str)) := by rw [upd_ne nTd]; exact hd'
      have hsuc := atR_succ (xs := xs) hev hsv
      have hls := live_step hlive hev
      have hsd := side_cases (List.all_eq_true.mp hsa _ (List.mem_of_getElem? hsv))
      refine ⟨T, _, rfl, .inl (.inl upd_same), rfl, _, _, rfl, _, _, rfl, rfl, ?_⟩
      generalize hlane : (atR xs es sd i).1 = lane at *
      generalize hgone : (atR xs es sd i).2 = gone at *
      have hsuc : atR xs es sd (i + 1) = stepR (lane, gone) (ev, sx) := by rw [hsuc, ← hlane, ← hgone]
      rw [stepR_g lane gone] at hsuc
      have hs1 : (atR xs es sd (i + 1)).1 = (stepR (lane, []) (ev, sx)).1 := by rw [hsuc]
      have hs2 : (atR xs es sd (i + 1)).2 = gone ++ (stepR (lane, []) (ev, sx)).2 := by rw [hsuc]
      refine ⟨.ref u, rfl, .ref b, rfl, _, rfl, u, b, sx, lane, ev, rfl, hu1, hbt, hsd, by omega, fun c hc => ?_, fun ho => ?_⟩
      · subst hc
        refine ⟨_, rfl, rfl, _, rfl, iteF ?_⟩
        refine ⟨_, _, _, n + 1, rfl, kp1.upd hT hu0, hlt, ?_, ?_, ?_, by omega, ?_, hls⟩
        · rw [upd_same, hs1]
        · rw [upd_ne hdu, hs2]
          show _ = some (HO.lst ((gone ++ []).map V.str))
          rw [List.append_nil]
          exact hd1
        · rw [hs1, ← hn]
          show (if sx = "L" then c :: lane else lane ++ [c]).length = _
          split
          · rfl
          · rw [List.length_append]
            rfl
        · rw [hs2]
          show (gone ++ []).length ≤ _
          rw [List.append_nil]
          omega
      · subst ho
        obtain ⟨hpos, hls⟩ := hls
        refine ⟨fun z => by rw [z, List.length_nil] at hn; omega, fun x hx => ?_⟩
        refine ⟨_, rfl, rfl, _, rfl, ?_⟩
        rw [decide_eq_false (show ¬ (V.str x = V.non) from fun z => by cases z)]
        have lenb2 : (gone.map V.str).length < sizeLine := by rw [List.length_map]; exact small1000 (by omega)
        refine iteT ⟨.ref d, rfl, .inl ⟨rfl, _, .inl (.inl (by rw [upd_ne hdu]; exact hd1))⟩, _, rfl, d, _, _, rfl, rfl, by rw [upd_ne hdu]; exact hd1, lenb2, ?_⟩
        refine ⟨_, _, _, n - 1, rfl, (kp1.upd hT hu0).upd hT hd0, hlt, ?_, ?_, ?_, by omega, ?_, hls⟩
        · rw [upd_ne hdu.symm, upd_same, hs1]
        · rw [upd_same, hs2, hx, List.map_append]
          rfl
        · rw [hs1]
          show (if sx = "L" then (lane.drop 1, [] ++ lane.take 1) else (lane.dropLast, [] ++ lane.drop (lane.length - 1)) : List Str × List Str).1.length = _
          split
          · show (lane.drop 1).length = _
            rw [List.length_drop, hn]
          · show lane.dropLast.length = _
            rw [List.length_dropLast, hn]
        · rw [hs2, hx, List.length_append]
          show gone.length + 1 ≤ _
          omega
    · rintro σ H' ⟨v5, v6, v7, n, rfl, kp, hie, hu', hd', hn, hnb, hgb, hlive⟩
      rw [List.length_map, hlen] at hu' hd'
      refine ⟨.ref u, rfl, u, _, rfl, .inl ⟨.inl (.inl hu'), fun t ht => ?_⟩⟩
      have ht0 : H t = none := kp.free hT ht
      have ntd : d ≠ t := ne_of_none hd' ht
      have kpt : Kp Ps H (L2.upd H' t (.tup ((atR xs es sd es.length).1.map V.str))) := kp.upd hT ht0
      refine ⟨.ref d, rfl, by show 2 ≤ sizeLine; decide, fun p hp => ?_⟩
      have hp0 : H p = none := kpt.free hT hp
      have npt : t ≠ p := fun z => by
        rw [← z, upd_same] at hp
        cases hp
      have npd : d ≠ p := fun z => by
        rw [← z, upd_ne ntd, hd'] at hp
        cases hp
      exact q _ p t d (kpt.upd hT hp0) hp0 ht0 hd0 upd_same (by rw [upd_ne npt, upd_same]) (by rw [upd_ne npd, upd_ne ntd]; exact hd')
end
end Ln


set_option Elab.async false
set_option linter.all false
set_option maxRecDepth 100000
set_option maxHeartbeats 2000000
namespace Ln
open PySem PySem.Spec PyProof.Rows L2 GxR
structure Bl (mg : Str → Option Value) : Prop where
  max : mg "max" = none
  min : mg "min" = none
  abs : mg "abs" = none
  rng : mg "range" = none
  rep : mg "repr" = none
theorem scSource : FnScope ["script", "k", "cell"] ["script", "k"] (defScope sSource) := ⟨rfl, rfl, rfl, by decide +kernel, rfl, by decide +kernel, by decide +kernel⟩
theorem scDraw : FnScope ["source", "limit", "found", "mixed"] ["source", "limit"] (defScope sDraw) := ⟨rfl, rfl, rfl, by decide +kernel, rfl, by decide +kernel, by decide +kernel⟩
/-- i ** j of great i -/
def CPowW (i j : Int) : Prop := 0 ≤ j ∧ j ≤ 10 ∧ i.natAbs < 2 ^ 1000
theorem op_powW {X : Cx} : OpR X (binaryOp .Pow) (rI CPowW fun i j => .int (i ^ j.toNat)) := opI fun i j _ _ _ _ _ hc q => by
  obtain ⟨h0, h1, h2⟩ := hc
  refine pow_int h0 ?_ q
  have hb : Builtin.Int.intBits i ≤ 1000 := by
    unfold Builtin.Int.intBits
    split
    · omega
    · have := PySem.Flt.log2_lt_of (show 0 < 1000 by decide) h2
      omega
  calc (Builtin.Int.intBits i : Int) * j ≤ 1000 * 10 := Int.mul_le_mul (by omega) h1 h0 (by decide)
    _ ≤ 2 ^ 27 := by decide
/-- a source of draws: at most n have been made -/
def SrcV (n : Nat) (l : List V) : Prop := ∃ a b c : Int, l = [.int a, .int b, .int c] ∧ 0 ≤ a ∧ 0 ≤ b ∧ b < 2 ^ 130 ∧ 0 ≤ c ∧ c ≤ n
theorem SrcV.mono {n m : Nat} {l : List V} (h : SrcV n l) (hm : n ≤ m) : SrcV m l := by
  obtain ⟨a, b, c, e, h1, h2, h3, h4, h5⟩ := h
  exact ⟨a, b, c, e, h1, h2, h3, h4, by omega⟩
theorem SrcV.len {n : Nat} {l : List V} (h : SrcV n l) : l.length = 3 := by
  obtain ⟨a, b, c, e, _⟩ := h
  rw [e]
  rfl
section
variable {P : Program} {w : World} {K : PySem.W.Frag} {mg : Str → Option Value} {base : Heap} {Ps : List Addr}
def spSource (K : PySem.W.Frag) : Sp := fun vs H Q _ => ∃ (a : Addr) (ns : List Int) (k : Nat), vs = [.ref a, .int k] ∧ SqL K H a (ns.map V.int) ∧ k ≤ 8 ∧ ∀ p l, H p = none → SrcV 0 l → Q (.ref p) (upd H p (.lst l))
theorem ok_source {f : Addr} {fd : FuncData} (F : Fun K "_law_source" "_law_source" sSource f fd) (B : Bi mg) (B2 : Bl mg) : FnOk P w K mg base CX0 1 f fd ["script", "k"] (spSource K) := by
  refine F.ok scSource (fun vs H Q E h => ?_) (fun cdv A outer s H vs Q E hr h => ?_)
  · obtain ⟨a, ns, k, rfl, _⟩ := h
    rfl
  · obtain ⟨a, ns, k, rfl, hS, hk, q⟩ := h
    refine ⟨_, pss_cons (ps_set (i := 2) scSource.nd rfl (.inl rfl) (pe_ifExp (pt_cmpR op_lt (pv 1) (pe_callB call_len_seq (by rfl) B.len PySem.boot_len (pa_cons (pv 0) pa_nil)) (nomark _)) (pe_ix ix_list (pv 0) (pv 1) (fun _ _ => rfl)) pe_int))
      (pss_one (ps_ret (pe_lst (pa_cons (pe_callB (call_max2 rfl) (by rfl) B2.max (by decide +kernel) (pa_cons pe_int (pa_cons (pe_op op_sub (pe_callB call_abs (by rfl) B2.abs (by decide +kernel) (pa_cons (pv 2) pa_nil)) (pe_op op_pow pe_int pe_int)) pa_nil)))
        (pa_cons (pe_op op_add (pe_op op_mod (pv 2) (pe_op op_add (pe_op op_pow pe_int pe_int) pe_int)) (pe_op op_mul pe_int (pv 1))) (pa_cons pe_int pa_nil)))))), ?_⟩
    have go : ∀ cell : Int, (tRet (tLst (tCons (tCB (fun xs H Q => ∃ i j, xs = [.int i, .int j] ∧ Q (.int (if j > i then j else i)) H) (tCons (tC (.int 0)) (tCons (tOp (rI0 fun i j => .int (i - j)) (tCB (fun xs H Q => ∃ i, xs = [.int i] ∧ Q (.int (if i < 0 then -i else i)) H) (tCons (tVar 2) tNil)) (tOp (rI CPow fun i j => .int (i ^ j.toNat)) (tC (.int 10)) (tC (.int 18)))) tNil)))
        (tCons (tOp (rI0 fun i j => .int (i + j)) (tOp (rI (fun _ j => 0 < j) fun i j => .int (i % j)) (tVar 2) (tOp (rI0 fun i j => .int (i + j)) (tOp (rI CPow fun i j => .int (i ^ j.toNat)) (tC (.int 10)) (tC (.int 38))) (tC (.int 133)))) (tOp (rI CMul fun i j => .int (i * j)) (tC (.int 31607)) (tVar 1))) (tCons (tC (.int 0)) tNil))))) { nx := fun _ H' => Q .non H', rt := Q } [some (.ref a), some (.int k), some (.int cell)] H := by
      intro cell
      refine ⟨_, rfl, _, rfl, 10, 18, rfl, rfl, ⟨by decide, by decide, by decide⟩, _, _, rfl, rfl, _, _, rfl, ?_⟩
      refine ⟨_, rfl, 10, 38, rfl, rfl, ⟨by decide, by decide, by decide⟩, _, _, rfl, rfl, _, _, rfl, rfl, (by show (0 : Int) < 10 ^ Int.toNat 38 + 133; decide), _, rfl, _, _, rfl, rfl, .inl ⟨by decide, by decide⟩, _, _, rfl, rfl, by show 3 ≤ sizeLine; decide, fun p hp => ?_⟩
      refine q p _ hp ⟨_, _, 0, rfl, ?_, ?_, ?_, by decide, by decide⟩
      · split <;> omega
      · have h1 : (0 : Int) ≤ cell % (10 ^ Int.toNat 38 + 133) := Int.emod_nonneg _ (by decide)
        omega
      · have h1 : cell % (10 ^ Int.toNat 38 + 133) < 10 ^ Int.toNat 38 + 133 := Int.emod_lt_of_pos _ (by decide)
        have h2 : (10 : Int) ^ Int.toNat 38 + 133 + 31607 * 8 < 2 ^ 130 := by decide
        omega
    refine ⟨_, rfl, .ref a, rfl, a, _, rfl, .inl hS, _, _, rfl, rfl, _, rfl, ite2 (fun h => ?_) (fun h => ?_)⟩
    · have h : (k : Int) < ((ns.map V.int).length : Nat) := of_decide_eq_true h
      have hk2 : k < ns.length := by
        rw [List.length_map] at h
        omega
      refine ⟨.ref a, rfl, _, rfl, a, _, k, .int ns[k], rfl, rfl, hS, atI_nat (by rw [List.getElem?_map, List.getElem?_eq_getElem hk2]; rfl), ?_⟩
      exact go _
    · exact go 0
def spDraw : Sp := fun vs H Q _ => ∃ (s : Addr) (l : List V) (n : Nat) (lim : Int), vs = [.ref s, .int lim] ∧ H s = some (.lst l) ∧ SrcV n l ∧ n ≤ 1000000 ∧ 1 ≤ lim ∧ lim ≤ 100000 ∧ ∀ l' r, SrcV (n + 1) l' → 0 ≤ r → r < lim → Q (.int r) (upd H s (.lst l'))
theorem ok_draw {f : Addr} {fd : FuncData} (F : Fun K "_law_draw" "_law_draw" sDraw f fd) : FnOk P w K mg base CX0 1 f fd ["source", "limit"] spDraw := by
  refine F.ok scDraw (fun vs H Q E h => ?_) (fun cdv A outer s H vs Q E hr h => ?_)
  · obtain ⟨s0, l, n, lim, rfl, _⟩ := h
    rfl
  · obtain ⟨s0, l, n, lim, rfl, hs, ⟨a, b, c, rfl, ha, hb, hb2, hc, hcn⟩, hn, hl1, hl2, q⟩ := h
    refine ⟨_, pss_cons (ps_if (pt_cmpR op_gt (pe_ix ix_list (pv 0) pe_int (fun _ _ => rfl)) pe_int (nomark _))
        (pss_cons (ps_set (i := 2) scDraw.nd rfl (.inl rfl) (pe_op op_mod (pe_ix ix_list (pv 0) pe_int (fun _ _ => rfl)) (pv 1)))
        (pss_cons (ps_asg (pe_op op_fdiv (pe_ix ix_list (pv 0) pe_int (fun _ _ => rfl)) (pv 1)) (pg_sub (pv 0) pe_int set_list))
        (pss_one (ps_ret (pv 2))))) pss_nil)
      (pss_cons (ps_asg (pe_op op_add (pe_ix ix_list (pv 0) pe_int (fun _ _ => rfl)) pe_int) (pg_sub (pv 0) pe_int set_list))
      (pss_cons (ps_set (i := 3) scDraw.nd rfl (.inl rfl) (pe_op op_mod (pe_op op_powW (pe_op op_add (pe_ix ix_list (pv 0) pe_int (fun _ _ => rfl)) (pe_op op_mul pe_int (pe_ix ix_list (pv 0) pe_int (fun _ _ => rfl)))) pe_int) (pe_op op_add (pe_op op_pow pe_int pe_int) pe_int)))
      (pss_cons (ps_set (i := 3) scDraw.nd rfl (.inl rfl) (pe_op op_mod (pe_op op_powW (pe_op op_add (pv 3) (pe_op op_mul pe_int (pe_ix ix_list (pv 0) pe_int (fun _ _ => rfl)))) pe_int) (pe_op op_add (pe_op op_pow pe_int pe_int) pe_int)))
      (pss_one (ps_ret (pe_op op_mod (pe_op op_fdiv (pv 3) pe_int) (pv 1))))))), ?_⟩
    have hS := SqL.of (K := K) hs
    refine ⟨.ref s0, rfl, s0, _, 0, .int a, rfl, rfl, hS, atI_nat (j := 0) rfl, _, _, rfl, rfl, _, rfl, ite2 (fun h => ?_) (fun h => ?_)⟩
    · refine ⟨.ref s0, rfl, s0, _, 0, .int a, rfl, rfl, hS, atI_nat (j := 0) rfl, _, rfl, _, _, rfl, rfl, by omega, ?_⟩
      refine ⟨.ref s0, rfl, s0, _, 0, .int a, rfl, rfl, hS, atI_nat (j := 0) rfl, _, rfl, _, _, rfl, rfl, ⟨by omega, by omega⟩, ?_⟩
      refine ⟨.ref s0, rfl, s0, _, _, 0, rfl, rfl, hs, rfl, ?_⟩
      refine ⟨_, rfl, q _ _ ⟨a / lim, b, c, rfl, Int.ediv_nonneg ha (by omega), hb, hb2, hc, by omega⟩ (Int.emod_nonneg _ (by omega)) (Int.emod_lt_of_pos _ (by omega))⟩
    · refine ⟨.ref s0, rfl, s0, _, 2, .int c, rfl, rfl, hS, atI_nat (j := 2) rfl, _, _, rfl, rfl, ?_⟩
      refine ⟨.ref s0, rfl, s0, _, _, 2, rfl, rfl, hs, rfl, ?_⟩
      have hS2 : SqL K (upd H s0 (.lst [.int a, .int b, .int (c + 1)])) s0 [.int a, .int b, .int (c + 1)] := SqL.of upd_same
      have nat_lt : ∀ x y : Int, 0 ≤ x → x ≤ y → y.natAbs < 2 ^ 1000 → x.natAbs < 2 ^ 1000 := fun x y h0 h1 h2 => Nat.lt_of_le_of_lt (by omega) h2
      have big : ((2 ^ 140 : Int)).natAbs < 2 ^ 1000 := by decide +kernel
      refine ⟨.ref s0, rfl, s0, _, 1, .int b, rfl, rfl, hS2, atI_nat (j := 1) rfl, .ref s0, rfl, s0, _, 2, .int (c + 1), rfl, rfl, hS2, atI_nat (j := 2) rfl, _, _, rfl, rfl, .inl ⟨by decide, by decide⟩, _, _, rfl, rfl, _, 3, rfl, rfl, ⟨by decide, by decide, ?_⟩, 10, 37, rfl, rfl, ⟨by decide, by decide, by decide⟩, _, _, rfl, rfl, _, _, rfl, rfl, (by show (0 : Int) < 10 ^ Int.toNat 37 + 43; decide), ?_⟩
      · refine nat_lt _ (2 ^ 140) (by omega) ?_ big
        have : (2 : Int) ^ 130 + 49979687 * 1000001 ≤ 2 ^ 140 := by decide
        omega
      · have m1 : ∀ z : Int, 0 ≤ z % (10 ^ Int.toNat 37 + 43) ∧ z % (10 ^ Int.toNat 37 + 43) ≤ 2 ^ 130 := fun z => by
          have h1 : 0 ≤ z % (10 ^ Int.toNat 37 + 43) := Int.emod_nonneg _ (by decide)
          have h2 : z % (10 ^ Int.toNat 37 + 43) < 10 ^ Int.toNat 37 + 43 := Int.emod_lt_of_pos _ (by decide)
          have h3 : (10 : Int) ^ Int.toNat 37 + 43 ≤ 2 ^ 130 := by decide
          omega
        generalize hmx : (b + 49979687 * (c + 1)) ^ Int.toNat 3 % (10 ^ Int.toNat 37 + 43) = mx
        have m1' : 0 ≤ mx ∧ mx ≤ 2 ^ 130 := by
          rw [← hmx]
          exact m1 _
        refine ⟨_, rfl, .ref s0, rfl, s0, _, 2, .int (c + 1), rfl, rfl, hS2, atI_nat (j := 2) rfl, _, _, rfl, rfl, .inl ⟨by decide, by decide⟩, _, _, rfl, rfl, _, 3, rfl, rfl, ⟨by decide, by decide, ?_⟩, 10, 36, rfl, rfl, ⟨by decide, by decide, by decide⟩, _, _, rfl, rfl, _, _, rfl, rfl, (by show (0 : Int) < 10 ^ Int.toNat 36 + 67; decide), ?_⟩
        · refine nat_lt _ (2 ^ 140) (by omega) ?_ big
          have : (2 : Int) ^ 130 + 15485863 * 1000001 ≤ 2 ^ 140 := by decide
          omega
        · generalize (mx + 15485863 * (c + 1)) ^ Int.toNat 3 % (10 ^ Int.toNat 36 + 67) = my
          refine ⟨_, rfl, _, _, rfl, rfl, ⟨by decide, by decide⟩, _, rfl, _, _, rfl, rfl, by show (0 : Int) < lim; omega, ?_⟩
          exact q _ _ ⟨a, b, c + 1, rfl, ha, hb, hb2, by omega, by omega⟩ (Int.emod_nonneg _ (by omega)) (Int.emod_lt_of_pos _ (by omega))
end
end Ln


set_option Elab.async false
set_option linter.all false
set_option maxRecDepth 100000
set_option maxHeartbeats 2000000
namespace Ln
open PySem PySem.Spec PyProof.Rows L2 GxR
theorem scMixed : FnScope ["source", "things", "spare", "k"] ["source", "things"] (defScope sMixed) := ⟨rfl, rfl, rfl, by decide +kernel, rfl, by decide +kernel, by decide +kernel⟩
/-- what stood stands, the source apart -/
def Ch (s : Addr) (H H' : Hp) : Prop := ∀ b o, H b = some o → b ≠ s → H' b = some o
theorem Ch.refl {s : Addr} {H : Hp} : Ch s H H := fun _ _ e _ => e
theorem Ch.trans {s : Addr} {H H1 H2 : Hp} (a : Ch s H H1) (b : Ch s H1 H2) : Ch s H H2 := fun c o e n => b c o (a c o e n) n
theorem Ch.src {s : Addr} {H : Hp} {o : HO} : Ch s H (upd H s o) := fun b q e n => by rw [upd_ne n]; exact e
theorem Ch.new {s p : Addr} {H H1 : Hp} {o : HO} (k : Ch s H H1) (hp : H p = none) : Ch s H (upd H1 p o) := fun b q e n => by rw [upd_ne (ne_of_none e hp)]; exact k b q e n
theorem Ch.seqL {K : PySem.W.Frag} {s a : Addr} {H H1 : Hp} {xs : List V} (k : Ch s H H1) (h : SqL K H a xs) (n : a ≠ s) : SqL K H1 a xs := by
  rcases h with (e | ⟨ob, e⟩) | e
  · exact .inl (.inl (k _ _ e n))
  · exact .inl (.inr ⟨ob, k _ _ e n⟩)
  · exact .inr e
theorem Ch.seqT {K : PySem.W.Frag} {s a : Addr} {H H1 : Hp} {xs l : List V} (k : Ch s H H1) (h : SqT K H a xs) (hs : H s = some (.lst l)) : SqT K H1 a xs := by
  rcases h with (e | ⟨ob, e⟩) | e
  · exact .inl (.inl (k _ _ e fun z => by rw [z, hs] at e; cases e))
  · exact .inl (.inr ⟨ob, k _ _ e fun z => by rw [z, hs] at e; cases e⟩)
  · exact .inr e
/-- a new address stays apart from the source -/
theorem Ch.free {s p : Addr} {H H1 : Hp} {l : List V} (k : Ch s H H1) (hs : H s = some (.lst l)) (hs1 : ∃ l1, H1 s = some (.lst l1)) (hp : H1 p = none) : H p = none := by
  by_cases z : p = s
  · obtain ⟨l1, e⟩ := hs1
    rw [z, e] at hp
    cases hp
  · cases q : H p with
    | none => rfl
    | some u =>
      rw [k p u q z] at hp
      cases hp
theorem Ch.tabs {s : Addr} {Ps : List Addr} {H H1 : Hp} {l : List V} (k : Ch s H H1) (hs : H s = some (.lst l)) (hT : Tabs Ps H) : Tabs Ps H1 := fun q hq => by
  obtain ⟨ps, e, t⟩ := hT q hq
  exact ⟨ps, k q _ e (fun z => by rw [z, hs] at e; cases e), t⟩
theorem erase_perm {α : Type} {l : List α} {k : Nat} {x : α} (h : l[k]? = some x) : (x :: l.eraseIdx k).Perm l := by
  obtain ⟨hk, e⟩ := List.getElem?_eq_some_iff.mp h
  have e1 : l = l.take k ++ x :: l.drop (k + 1) := by
    rw [← e, ← List.drop_eq_getElem_cons hk, List.take_append_drop]
  rw [List.eraseIdx_eq_take_drop_succ]
  conv => rhs; rw [e1]
  exact List.perm_middle.symm
theorem map_erase {α β : Type} (f : α → β) : ∀ (l : List α) (k : Nat), (l.map f).eraseIdx k = (l.eraseIdx k).map f
  | [], _ => rfl
  | _ :: _, 0 => rfl
  | x :: r, k + 1 => by
    show f x :: (r.map f).eraseIdx k = f x :: (r.eraseIdx k).map f
    rw [map_erase f r k]
abbrev rLenSeq (K : PySem.W.Frag) : List V → Hp → VK → Prop := fun xs H Q => ∃ p ys, xs = [.ref p] ∧ (SqL K H p ys ∨ SqT K H p ys) ∧ Q (.int ((ys.length : Nat) : Int)) H
section
variable {P : Program} {w : World} {K : PySem.W.Frag} {mg : Str → Option Value} {base : Heap} {Ps : List Addr}
def spMixed (K : PySem.W.Frag) : Sp := fun vs H Q _ => ∃ (s t : Addr) (l : List V) (n : Nat) (xs : List Str), vs = [.ref s, .ref t] ∧ H s = some (.lst l) ∧ SrcV n l ∧ n + xs.length ≤ 1000000 ∧ SqL K H t (xs.map V.str) ∧ t ≠ s ∧ xs.length ≤ 1000 ∧
  ∀ (H' : Hp) (p : Addr) (ys : List Str) (l' : List V), Ch s H H' → H p = none → ys.Perm xs → SrcV (n + xs.length) l' → H' s = some (.lst l') → H' p = some (.lst (ys.map V.str)) → Q (.ref p) H'
theorem ok_mixed {f fD : Addr} {fd fdD : FuncData} (F : Fun K "_law_mixed" "_law_mixed" sMixed f fd) (B : Bi mg) (B2 : Bl mg)
    (GD : FnOk P w K mg base CX0 1 fD fdD ["source", "limit"] spDraw) (mgD : mg "_law_draw" = some (.ref fD)) (kD : PySem.W.keepIn K (.ref fD) = true) (bD : Binds K fdD ["source", "limit"] []) : FnOk P w K mg base CX0 2 f fd ["source", "things"] (spMixed K) := by
  refine F.ok scMixed (fun vs H Q E h => ?_) (fun cdv A outer s H vs Q E hr h => ?_)
  · obtain ⟨s0, t, l, n, xs, rfl, _⟩ := h
    rfl
  · obtain ⟨s0, t, l, n, xs, rfl, hs, hl, hn, hS, hts, hfew, q⟩ := h
    refine ⟨_, pss_cons (ps_set (i := 2) scMixed.nd rfl (.inr rfl) (pe_callTy call_list_of (by rfl) B.lst (by decide +kernel) (pa_cons (pv 1) pa_nil)))
      (pss_one (ps_ret (pe_lc (own := [("k", 3)]) (g := gName 3) (tt := tYes) (te := tBM K "list" rPopAt (tVar 2) (tCons (tCall spDraw [] E0 (tCons (tVar 0) (tCons (tCB (rLenSeq K) (tCons (tVar 2) tNil)) tNil))) tNil)) (by rfl) scMixed.nd
        (pi_range1 (by rfl) B2.rng (pa_cons (pe_callB call_len_seq (by rfl) B.len PySem.boot_len (pa_cons (pv 1) pa_nil)) pa_nil))
        (blkOk_by (own := [("k", 3)]) (N := ["source", "things", "spare", "k"]) (sc := defScope sMixed) (by decide +kernel))
        (fun _ _ _ _ _ => pg_name (i := 3) scMixed.nd rfl (Or.inl rfl)) (fun _ _ _ _ _ => pts_nil)
        (fun _ _ _ _ _ => pe_bm PySem.F.plainAttrs_list PySem.F.slot_list_pop PySem.F.type_list_pop mt_popAt (pv 2) (pa_cons (pe_call GD hr (by rfl) mgD kD bD .nil pass0 (pa_cons (pv 0) (pa_cons (pe_callB call_len_seq (by rfl) B.len PySem.boot_len (pa_cons (pv 2) pa_nil)) pa_nil))) pa_nil))))), ?_⟩
    refine ⟨.ref t, rfl, t, _, rfl, .inl hS, fun u hu => ?_⟩
    have hus : u ≠ s0 := fun z => by
      rw [z, hs] at hu
      cases hu
    have c1 : Ch s0 H (upd H u (.lst (xs.map V.str))) := Ch.refl.new hu
    refine ⟨.ref t, rfl, t, _, rfl, .inl (c1.seqL hS hts), xs.length, ?_, by omega, by omega, fun D hD => ?_⟩
    · rw [List.length_map]
    have hDu : D ≠ u := fun z => by
      rw [z, upd_same] at hD
      cases hD
    have hD0 : H D = none := by
      rw [upd_ne hDu] at hD
      exact hD
    have hDs : D ≠ s0 := fun z => by
      rw [z, hs] at hD0
      cases hD0
    refine lc_range (lo := 0) (n := xs.length) (fun i H' => ∃ (l' : List V) (ys zs : List Str), Ch s0 H H' ∧ i ≤ xs.length ∧ SrcV (n + i) l' ∧ H' s0 = some (.lst l') ∧ H' u = some (.lst (zs.map V.str)) ∧ H' D = some (.lst (ys.map V.str)) ∧ (ys ++ zs).Perm xs ∧ ys.length = i) ?_ ?_ ?_
    · exact ⟨l, [], xs, (Ch.refl.new hu).new hD0, Nat.zero_le _, hl, by rw [upd_ne hDs.symm, upd_ne hus.symm]; exact hs, by rw [upd_ne hDu.symm, upd_same], by rw [upd_same]; rfl, List.Perm.refl _, rfl⟩
    · rintro i H' hi ⟨l', ys, zs, ch, _, hl', hs', hu', hD', hp, hy⟩
      have hlen : ys.length + zs.length = xs.length := by
        have := hp.length_eq
        rw [List.length_append] at this
        exact this
      refine ⟨rfl, ?_⟩
      unfold tYes
      refine iteT ?_
      refine ⟨.ref u, rfl, .inl ⟨rfl, _, .inl (.inl hu')⟩, .ref s0, rfl, .ref u, rfl, u, _, rfl, .inl (.inl (.inl hu')), ?_⟩
      refine ⟨s0, l', n + i, _, rfl, hs', hl', by omega, by rw [List.length_map]; omega, by rw [List.length_map]; omega, fun l2 r hl2 h0 h1 => ?_⟩
      rw [List.length_map] at h1
      obtain ⟨k, rfl⟩ : ∃ k : Nat, r = (k : Int) := ⟨r.toNat, by omega⟩
      have hk : k < zs.length := by omega
      have hz : zs[k]? = some zs[k] := List.getElem?_eq_getElem hk
      have hu2 : (upd H' s0 (.lst l2)) u = some (.lst (zs.map V.str)) := by rw [upd_ne hus]; exact hu'
      have hpe := erase_perm hz
      refine ⟨u, _, k, k, V.str zs[k], rfl, rfl, hu2, by omega, by omega, ?_, by rw [List.getElem?_map, hz]; rfl, ys.map V.str, ?_, ?_, ?_⟩
      · refine (ixN_seq (i := (k : Int)) (j := k) ?_).1
        unfold ixN
        rw [if_pos (by omega), if_pos (by rw [List.length_map]; omega)]
        rfl
      · rw [upd_ne hDu, upd_ne hDs]
        exact hD'
      · rw [List.length_map]
        exact small1000 (by omega)
      · refine ⟨l2, ys ++ [zs[k]], zs.eraseIdx k, ((ch.trans Ch.src).new hu).new hD0, hi, ?_, ?_, ?_, ?_, ?_, ?_⟩
        · rw [← Nat.add_assoc]
          exact hl2
        · rw [upd_ne hDs.symm, upd_ne hus.symm, upd_same]
        · rw [upd_ne hDu.symm, upd_same, map_erase]
        · rw [upd_same, List.map_append]
          rfl
        · rw [List.append_assoc]
          exact ((List.Perm.append_left ys hpe)).trans hp
        · rw [List.length_append, hy]
          rfl
    · rintro H' ⟨l', ys, zs, ch, _, hl', hs', hu', hD', hp, hy⟩
      have hz : zs = [] := by
        have := hp.length_eq
        rw [List.length_append, hy] at this
        exact List.length_eq_zero_iff.mp (by omega)
      rw [hz, List.append_nil] at hp
      exact q H' D ys l' ch hD0 hp hl' hs' hD'
end
end Ln


set_option Elab.async false
set_option linter.all false
set_option maxRecDepth 1000000
namespace Ln
open PySem PySem.Spec PyProof.Rows L2 GxR
def nmB (k : Nat) : Str := ⟨#[97 + k / 26]⟩ ++ ⟨#[97 + k % 26]⟩
def nmR (k : Nat) : Str := ⟨#[97 + k % 26]⟩ ++ ⟨#[97 + k / 26]⟩
def nine : List Str := ["in", "out", "l", "r", "a", "zzzz", "aaaa", "none", "x"]
/-- the vehicles by their style -/
def nmS : Nat → List Str
  | 0 => (List.range 160).map fun k => ("zy" : Str) ++ nmB k
  | 1 => (List.range 160).map nmR
  | 2 => nine ++ (List.range 160).map fun k => nmB k ++ ("q" : Str)
  | _ => (List.range 160).map nmB
def goodB : List Str → Bool
  | [] => true
  | x :: r => carB x && !(r.any fun y => decide (y = x)) && goodB r
theorem goodB_all : ∀ {l : List Str}, goodB l = true → l.all carB = true
  | [], _ => rfl
  | x :: r, h => by
    unfold goodB at h
    rw [Bool.and_eq_true, Bool.and_eq_true] at h
    rw [List.all_cons, h.1.1, goodB_all h.2]
    rfl
theorem goodB_nodup : ∀ {l : List Str}, goodB l = true → l.Nodup
  | [], _ => List.nodup_nil
  | x :: r, h => by
    unfold goodB at h
    rw [Bool.and_eq_true, Bool.and_eq_true] at h
    refine List.nodup_cons.mpr ⟨fun hx => ?_, goodB_nodup h.2⟩
    have := h.1.2
    rw [Bool.not_eq_true', List.any_eq_false] at this
    exact this x hx (decide_eq_true rfl)
theorem good0 : goodB (nmS 0) = true := by decide +kernel
theorem good1 : goodB (nmS 1) = true := by decide +kernel
theorem good2 : goodB (nmS 2) = true := by decide +kernel
theorem good3 : goodB (nmS 3) = true := by decide +kernel
theorem goodS (st : Nat) (h : st < 4) : (nmS st).all carB = true ∧ (nmS st).Nodup := by
  have : goodB (nmS st) = true := by
    match st, h with
    | 0, _ => exact good0
    | 1, _ => exact good1
    | 2, _ => exact good2
    | 3, _ => exact good3
  exact ⟨goodB_all this, goodB_nodup this⟩
theorem letters_at : ∀ i < 26, ("abcdefghijklmnopqrstuvwxyz" : Str).cps.toList[i]? = some (97 + i) := by decide +kernel
theorem car_len {x : Str} (h : carB x = true) : x.length ≤ 4 := by
  unfold carB at h
  rw [Bool.and_eq_true, Bool.and_eq_true] at h
  exact of_decide_eq_true h.1.2
end Ln


set_option Elab.async false
set_option linter.all false
set_option maxRecDepth 100000
set_option maxHeartbeats 2000000
namespace Ln
open PySem PySem.Spec PyProof.Rows L2 GxR
theorem scVeh : FnScope ["source", "count", "letters", "found", "style", "k", "name"] ["source", "count"] (defScope sVeh) := ⟨rfl, rfl, rfl, by decide +kernel, rfl, by decide +kernel, by decide +kernel⟩
theorem cut_take {xs : List V} {c : Nat} : cutV xs none (some (c : Int)) = xs.take c := by
  unfold cutV
  rw [HT.sIx_none, HT.sIx_nat, List.drop_zero, Nat.sub_zero]
  rcases Nat.le_total c xs.length with h | h
  · rw [Nat.min_eq_left h]
  · rw [Nat.min_eq_right h, List.take_length, List.take_of_length_le h]
theorem take_base {α : Type} (f : Nat → α) {c : Nat} (h : c ≤ 160) : ((List.range 160).map f).take c = (List.range c).map f := by
  rw [← List.map_take, List.take_range, Nat.min_eq_left h]
section
variable {P : Program} {w : World} {K : PySem.W.Frag} {mg : Str → Option Value} {base : Heap} {Ps : List Addr}
def spVeh : Sp := fun vs H Q _ => ∃ (s : Addr) (l : List V) (n c : Nat), vs = [.ref s, .int c] ∧ H s = some (.lst l) ∧ SrcV n l ∧ n + 200 ≤ 1000000 ∧ c ≤ 160 ∧
  ∀ (H' : Hp) (p : Addr) (ys : List Str) (l' : List V), Ch s H H' → H p = none → ys.length = c → ys.all carB = true → ys.Nodup → SrcV (n + 161) l' → H' s = some (.lst l') → H' p = some (.lst (ys.map V.str)) → Q (.ref p) H'
abbrev lcNm (own : Str) (i : Nat) : List (Str × Nat) := [(own, i)]
theorem ok_veh {f fD fM : Addr} {fd fdD fdM : FuncData} (F : Fun K "_law_vehicles" "_law_vehicles" sVeh f fd) (B : Bi mg) (B2 : Bl mg)
    (GD : FnOk P w K mg base CX0 1 fD fdD ["source", "limit"] spDraw) (mgD : mg "_law_draw" = some (.ref fD)) (kD : PySem.W.keepIn K (.ref fD) = true) (bD : Binds K fdD ["source", "limit"] [])
    (GM : FnOk P w K mg base CX0 2 fM fdM ["source", "things"] (spMixed K)) (mgM : mg "_law_mixed" = some (.ref fM)) (kM : PySem.W.keepIn K (.ref fM) = true) (bM : Binds K fdM ["source", "things"] []) : FnOk P w K mg base CX0 3 f fd ["source", "count"] spVeh := by
  refine F.ok scVeh (fun vs H Q E h => ?_) (fun cdv A outer s H vs Q E hr h => ?_)
  · obtain ⟨s0, l, n, c, rfl, _⟩ := h
    rfl
  · obtain ⟨s0, l, n, c, rfl, hs, hl, hn, hc, q⟩ := h
    refine ⟨_, pss_cons (ps_set (i := 2) scVeh.nd rfl (.inr rfl) pe_str)
      (pss_cons (ps_setLc (i := 3) (own := [("k", 5)]) (g := gName 5) (tt := tYes) (by rfl) scVeh.nd rfl rfl (sw_true rfl rfl rfl (by decide +kernel)) (pi_range1 (by rfl) B2.rng (pa_cons (pv 1) pa_nil))
        (blkOk_by (own := [("k", 5)]) (N := ["source", "count", "letters", "found", "style", "k", "name"]) (sc := defScope sVeh) (by decide +kernel))
        (fun _ _ _ _ _ => pg_name (i := 5) scVeh.nd rfl (Or.inl rfl)) (fun _ _ _ _ _ => pts_nil)
        (fun _ _ _ _ _ => pe_op op_add_str (pe_ix ix_str (pv 2) (pe_op op_fdiv (pv 5) pe_int) (fun _ _ => rfl)) (pe_ix ix_str (pv 2) (pe_op op_mod (pv 5) pe_int) (fun _ _ => rfl))))
      (pss_cons (ps_set (i := 4) scVeh.nd rfl (.inl rfl) (pe_call GD (hr.mono (by decide)) (by rfl) mgD kD bD .nil pass0 (pa_cons (pv 0) (pa_cons pe_int pa_nil))))
      (pss_cons (ps_if (pt_cmpR op_eq (pv 4) pe_int (nomark _)) (pss_one (ps_setLc (i := 3) (own := [("name", 6)]) (g := gName 6) (tt := tYes) (by rfl) scVeh.nd rfl rfl (sw_true rfl rfl rfl (by decide +kernel)) (pi_list (pv 3))
        (blkOk_by (own := [("name", 6)]) (N := ["source", "count", "letters", "found", "style", "k", "name"]) (sc := defScope sVeh) (by decide +kernel))
        (fun _ _ _ _ _ => pg_name (i := 6) scVeh.nd rfl (Or.inl rfl)) (fun _ _ _ _ _ => pts_nil) (fun _ _ _ _ _ => pe_op op_add_str pe_str (pv 6)))) pss_nil)
      (pss_cons (ps_if (pt_cmpR op_eq (pv 4) pe_int (nomark _)) (pss_one (ps_setLc (i := 3) (own := [("name", 6)]) (g := gName 6) (tt := tYes) (by rfl) scVeh.nd rfl rfl (sw_true rfl rfl rfl (by decide +kernel)) (pi_list (pv 3))
        (blkOk_by (own := [("name", 6)]) (N := ["source", "count", "letters", "found", "style", "k", "name"]) (sc := defScope sVeh) (by decide +kernel))
        (fun _ _ _ _ _ => pg_name (i := 6) scVeh.nd rfl (Or.inl rfl)) (fun _ _ _ _ _ => pts_nil) (fun _ _ _ _ _ => pe_op op_add_str (pe_ix ix_str (pv 6) pe_int (fun _ _ => rfl)) (pe_ix ix_str (pv 6) pe_int (fun _ _ => rfl))))) pss_nil)
      (pss_cons (ps_if (pt_cmpR op_eq (pv 4) pe_int (nomark _)) (pss_one (ps_set (i := 3) scVeh.nd rfl (.inl rfl) (pe_slice sl_list (pe_op op_cat (pe_lst (pa_cons pe_str (pa_cons pe_str (pa_cons pe_str (pa_cons pe_str (pa_cons pe_str (pa_cons pe_str (pa_cons pe_str (pa_cons pe_str (pa_cons pe_str pa_nil))))))))))
        (pe_lc (own := [("name", 6)]) (g := gName 6) (tt := tYes) (by rfl) scVeh.nd (pi_list (pv 3))
          (blkOk_by (own := [("name", 6)]) (N := ["source", "count", "letters", "found", "style", "k", "name"]) (sc := defScope sVeh) (by decide +kernel))
          (fun _ _ _ _ _ => pg_name (i := 6) scVeh.nd rfl (Or.inl rfl)) (fun _ _ _ _ _ => pts_nil) (fun _ _ _ _ _ => pe_op op_add_str (pv 6) pe_str))) po_none (po_some (pv 1))))) pss_nil)
      (pss_one (ps_ret (pe_call GM hr (by rfl) mgM kM bM .nil pass0 (pa_cons (pv 0) (pa_cons (pv 3) pa_nil)))))))))), ?_⟩
    -- the end: _law_mixed over what found is
    have fin : ∀ (st : Nat) (H1 : Hp) (l1 : List V) (p : Addr) (v4 : Option V), st < 4 → Ch s0 H H1 → H1 s0 = some (.lst l1) → SrcV (n + 1) l1 → H1 p = some (.lst (((nmS st).take c).map V.str)) → p ≠ s0 →
        (tRet (tCall (spMixed K) [] E0 (tCons (tVar 0) (tCons (tVar 3) tNil)))) { nx := fun _ H' => Q .non H', rt := Q } [some (.ref s0), some (.int c), some (.str "abcdefghijklmnopqrstuvwxyz"), some (.ref p), v4, none, none] H1 := by
      intro st H1 l1 p v4 hst ch hs1 hl1 hp hps
      obtain ⟨g1, g2⟩ := goodS st hst
      have hlen : ((nmS st).take c).length = c := by
        rw [List.length_take]
        have : 160 ≤ (nmS st).length := by
          match st, hst with
          | 0, _ => simp [nmS]
          | 1, _ => simp [nmS]
          | 2, _ => simp [nmS]
          | 3, _ => simp [nmS]
        omega
      refine ⟨.ref s0, rfl, .ref p, rfl, s0, p, l1, n + 1, (nmS st).take c, rfl, hs1, hl1, by omega, .inl (.inl hp), hps, by omega, fun H' p' ys l' ch' hp' hperm hl' hs' hy => ?_⟩
      refine q H' p' ys l' (ch.trans ch') (ch.free hs ⟨_, hs1⟩ hp') (by rw [hperm.length_eq, hlen]) ?_ ?_ (hl'.mono (by omega)) hs' hy
      · rw [List.all_eq_true]
        intro x hx
        exact List.all_eq_true.mp g1 x (List.mem_of_mem_take (hperm.mem_iff.mp hx))
      · exact hperm.symm.nodup (g2.sublist (List.take_sublist _ _))
    refine ⟨_, rfl, (c : Int), rfl, by omega, by omega, fun D hD => ?_⟩
    have hDs : D ≠ s0 := fun z => by
      rw [z, hs] at hD
      cases hD
    refine lc_range (lo := 0) (n := c) (fun i H' => Ch s0 H H' ∧ i ≤ c ∧ H' s0 = some (.lst l) ∧ H' D = some (.lst (((List.range i).map nmB).map V.str))) ?_ ?_ ?_
    · exact ⟨Ch.refl.new hD, Nat.zero_le _, by rw [upd_ne hDs.symm]; exact hs, by rw [upd_same]; rfl⟩
    · rintro i H' hi ⟨ch, _, hs', hD'⟩
      refine ⟨rfl, ?_⟩
      unfold tYes
      refine iteT ?_
      have a1 : atI ("abcdefghijklmnopqrstuvwxyz" : Str).cps.toList ((0 + (i : Int)) / 26) = some (97 + i / 26) := by
        rw [show (0 + (i : Int)) / 26 = ((i / 26 : Nat) : Int) by omega]
        exact atI_nat (letters_at (i / 26) (by omega))
      have a2 : atI ("abcdefghijklmnopqrstuvwxyz" : Str).cps.toList ((0 + (i : Int)) % 26) = some (97 + i % 26) := by
        rw [show (0 + (i : Int)) % 26 = ((i % 26 : Nat) : Int) by omega]
        exact atI_nat (letters_at (i % 26) (by omega))
      refine ⟨_, rfl, _, rfl, _, _, rfl, rfl, ⟨by decide, by decide⟩, _, (0 + (i : Int)) / 26, 97 + i / 26, rfl, rfl, by decide +kernel, a1, _, rfl, _, rfl, _, _, rfl, rfl, (by show (0 : Int) < 26; decide), _, (0 + (i : Int)) % 26, 97 + i % 26, rfl, rfl, by decide +kernel, a2, _, _, rfl, rfl, by show 2 ≤ sizeLine; decide, _, hD', ?_, ch.new hD, hi, ?_, ?_⟩
      · rw [List.length_map, List.length_map, List.length_range]
        exact small1000 (by omega)
      · rw [upd_ne hDs.symm]
        exact hs'
      · rw [upd_same, List.range_succ, List.map_append, List.map_append]
        rfl
    rintro H2 ⟨ch2, _, hs2, hD2⟩
    -- style = _law_draw(source, 4)
    refine ⟨.ref s0, rfl, s0, l, n, 4, rfl, hs2, hl, by omega, by decide, by decide, fun l1 r hl1 h0 h4 => ?_⟩
    have ch3 : Ch s0 H (upd H2 s0 (.lst l1)) := ch2.trans Ch.src
    have hD3 : (upd H2 s0 (.lst l1)) D = some (.lst (((List.range c).map nmB).map V.str)) := by rw [upd_ne hDs]; exact hD2
    have hs3 : (upd H2 s0 (.lst l1)) s0 = some (.lst l1) := upd_same
    generalize upd H2 s0 (.lst l1) = H3 at *
    have hsz : ∀ k, (nmB k).length = 2 := fun k => rfl
    -- a comprehension over the names
    have comp : ∀ (f : Nat → Str) (D2 : Addr), H3 D2 = none → ∀ (Pn : Hp → Prop), (∀ H', Ch s0 H3 H' → H' s0 = some (.lst l1) → H' D = H3 D → H' D2 = some (.lst (((List.range c).map f).map V.str)) → Pn H') → D2 ≠ s0 ∧ D2 ≠ D := fun f D2 h2 Pn _ => ⟨(fun z => by rw [z, hs3] at h2; cases h2), (fun z => by rw [z, hD3] at h2; cases h2)⟩
    have r4 : r = 0 ∨ r = 1 ∨ r = 2 ∨ r = 3 := by omega
    have dne : ∀ a b : Int, a ≠ b → decide (V.int a = V.int b) = false := fun a b h => decide_eq_false fun z => h (V.int.inj z)
    rcases r4 with rfl | rfl | rfl | rfl
    · refine ⟨_, rfl, rfl, _, rfl, iteT ?_⟩
      refine ⟨.ref D, rfl, D, rfl, ⟨_, .inl (.inl hD3)⟩, fun D2 hD2n => ?_⟩
      obtain ⟨n1, n2⟩ := comp nmB D2 hD2n (fun _ => True) fun _ _ _ _ _ => trivial
      refine lc_list (K := K) (a := D) (xs := ((List.range c).map nmB).map V.str) (fun i H' => Ch s0 H H' ∧ H' s0 = some (.lst l1) ∧ H' D = some (.lst (((List.range c).map nmB).map V.str)) ∧ H' D2 = some (.lst (((List.range i).map fun k => ("zy" : Str) ++ nmB k).map V.str))) ?_ ?_ ?_ ?_
      · exact ⟨ch3.new (ch3.free hs ⟨_, hs3⟩ hD2n), by rw [upd_ne n1.symm]; exact hs3, by rw [upd_ne n2.symm]; exact hD3, by rw [upd_same]; rfl⟩
      · rintro i H' _ ⟨_, _, hD', _⟩
        exact .inl (.inl hD')
      · rintro i y H' hi ⟨ch', hs', hD', hD2'⟩
        have hic : i < c := by
          have h1 := (List.getElem?_eq_some_iff.mp hi).1
          rw [List.length_map, List.length_map, List.length_range] at h1
          exact h1
        obtain rfl : y = V.str (nmB i) := by
          rw [List.getElem?_map, List.getElem?_map, List.getElem?_range hic] at hi
          exact (Option.some.inj hi).symm
        refine ⟨rfl, ?_⟩
        unfold tYes
        refine iteT ⟨_, rfl, _, _, rfl, rfl, by show 4 ≤ sizeLine; decide, _, hD2', ?_, ch'.new (ch3.free hs ⟨_, hs3⟩ hD2n), ?_, ?_, ?_⟩
        · rw [List.length_map, List.length_map, List.length_range]
          exact small1000 (by omega)
        · rw [upd_ne n1.symm]
          exact hs'
        · rw [upd_ne n2.symm]
          exact hD'
        · rw [upd_same, List.range_succ, List.map_append, List.map_append]
          rfl
      · rintro H' ⟨ch', hs', hD', hD2'⟩
        rw [List.length_map, List.length_map, List.length_range] at hD2'
        refine ⟨_, rfl, rfl, _, rfl, iteF ⟨_, rfl, rfl, _, rfl, iteF ?_⟩⟩
        exact fin 0 H' l1 D2 _ (by decide) ch' hs' hl1 (by rw [hD2', show nmS 0 = (List.range 160).map (fun k => ("zy" : Str) ++ nmB k) from rfl, take_base _ hc]) n1
    · refine ⟨_, rfl, rfl, _, rfl, iteF ⟨_, rfl, rfl, _, rfl, iteT ?_⟩⟩
      refine ⟨.ref D, rfl, D, rfl, ⟨_, .inl (.inl hD3)⟩, fun D2 hD2n => ?_⟩
      obtain ⟨n1, n2⟩ := comp nmB D2 hD2n (fun _ => True) fun _ _ _ _ _ => trivial
      refine lc_list (K := K) (a := D) (xs := ((List.range c).map nmB).map V.str) (fun i H' => Ch s0 H H' ∧ H' s0 = some (.lst l1) ∧ H' D = some (.lst (((List.range c).map nmB).map V.str)) ∧ H' D2 = some (.lst (((List.range i).map nmR).map V.str))) ?_ ?_ ?_ ?_
      · exact ⟨ch3.new (ch3.free hs ⟨_, hs3⟩ hD2n), by rw [upd_ne n1.symm]; exact hs3, by rw [upd_ne n2.symm]; exact hD3, by rw [upd_same]; rfl⟩
      · rintro i H' _ ⟨_, _, hD', _⟩
        exact .inl (.inl hD')
      · rintro i y H' hi ⟨ch', hs', hD', hD2'⟩
        have hic : i < c := by
          have h1 := (List.getElem?_eq_some_iff.mp hi).1
          rw [List.length_map, List.length_map, List.length_range] at h1
          exact h1
        obtain rfl : y = V.str (nmB i) := by
          rw [List.getElem?_map, List.getElem?_map, List.getElem?_range hic] at hi
          exact (Option.some.inj hi).symm
        refine ⟨rfl, ?_⟩
        unfold tYes
        refine iteT ⟨_, rfl, nmB i, 1, 97 + i % 26, rfl, rfl, by show 2 ≤ sizeLine; decide, atI_nat (j := 1) rfl, _, rfl, nmB i, 0, 97 + i / 26, rfl, rfl, by show 2 ≤ sizeLine; decide, atI_nat (j := 0) rfl, _, _, rfl, rfl, by show 2 ≤ sizeLine; decide, _, hD2', ?_, ch'.new (ch3.free hs ⟨_, hs3⟩ hD2n), ?_, ?_, ?_⟩
        · rw [List.length_map, List.length_map, List.length_range]
          exact small1000 (by omega)
        · rw [upd_ne n1.symm]
          exact hs'
        · rw [upd_ne n2.symm]
          exact hD'
        · rw [upd_same, List.range_succ, List.map_append, List.map_append]
          rfl
      · rintro H' ⟨ch', hs', hD', hD2'⟩
        rw [List.length_map, List.length_map, List.length_range] at hD2'
        refine ⟨_, rfl, rfl, _, rfl, iteF ?_⟩
        exact fin 1 H' l1 D2 _ (by decide) ch' hs' hl1 (by rw [hD2', show nmS 1 = (List.range 160).map nmR from rfl, take_base _ hc]) n1
    · refine ⟨_, rfl, rfl, _, rfl, iteF ⟨_, rfl, rfl, _, rfl, iteF ⟨_, rfl, rfl, _, rfl, iteT ?_⟩⟩⟩
      refine ⟨by show 9 ≤ sizeLine; decide, fun D3 hD3n => ?_⟩
      obtain ⟨n3, n4⟩ := comp nmB D3 hD3n (fun _ => True) fun _ _ _ _ _ => trivial
      have ch4 := ch3.new (o := .lst (nine.map V.str)) (ch3.free hs ⟨_, hs3⟩ hD3n)
      refine ⟨.ref D, rfl, D, rfl, ⟨_, .inl (.inl (by rw [upd_ne n4.symm]; exact hD3))⟩, fun D2 hD2n => ?_⟩
      have nD23 : D2 ≠ D3 := fun z => by
        rw [z, upd_same] at hD2n
        cases hD2n
      rw [upd_ne nD23] at hD2n
      obtain ⟨n1, n2⟩ := comp nmB D2 hD2n (fun _ => True) fun _ _ _ _ _ => trivial
      refine lc_list (K := K) (a := D) (xs := ((List.range c).map nmB).map V.str) (fun i H' => Ch s0 H H' ∧ H' s0 = some (.lst l1) ∧ H' D = some (.lst (((List.range c).map nmB).map V.str)) ∧ H' D3 = some (.lst (nine.map V.str)) ∧ H' D2 = some (.lst (((List.range i).map fun k => nmB k ++ ("q" : Str)).map V.str))) ?_ ?_ ?_ ?_
      · exact ⟨ch4.new (ch3.free hs ⟨_, hs3⟩ hD2n), by rw [upd_ne n1.symm, upd_ne n3.symm]; exact hs3, by rw [upd_ne n2.symm, upd_ne n4.symm]; exact hD3, by rw [upd_ne nD23.symm, upd_same]; rfl, by rw [upd_same]; rfl⟩
      · rintro i H' _ ⟨_, _, hD', _⟩
        exact .inl (.inl hD')
      · rintro i y H' hi ⟨ch', hs', hD', hD3', hD2'⟩
        have hic : i < c := by
          have h1 := (List.getElem?_eq_some_iff.mp hi).1
          rw [List.length_map, List.length_map, List.length_range] at h1
          exact h1
        obtain rfl : y = V.str (nmB i) := by
          rw [List.getElem?_map, List.getElem?_map, List.getElem?_range hic] at hi
          exact (Option.some.inj hi).symm
        refine ⟨rfl, ?_⟩
        unfold tYes
        refine iteT ⟨_, rfl, _, _, rfl, rfl, by show 3 ≤ sizeLine; decide, _, hD2', ?_, ch'.new (ch3.free hs ⟨_, hs3⟩ hD2n), ?_, ?_, ?_, ?_⟩
        · rw [List.length_map, List.length_map, List.length_range]
          exact small1000 (by omega)
        · rw [upd_ne n1.symm]
          exact hs'
        · rw [upd_ne n2.symm]
          exact hD'
        · rw [upd_ne nD23.symm]
          exact hD3'
        · rw [upd_same, List.range_succ, List.map_append, List.map_append]
          rfl
      · rintro H' ⟨ch', hs', hD', hD3', hD2'⟩
        rw [List.length_map, List.length_map, List.length_range] at hD2'
        refine ⟨D3, D2, _, _, rfl, rfl, hD3', hD2', ?_, fun p1 hp1 => ?_⟩
        · rw [List.length_map, List.length_map, List.length_map, List.length_range]
          show 9 + c ≤ _
          exact Nat.le_of_lt (small1000 (by omega))
        refine ⟨_, rfl, _, rfl, p1, _, rfl, .inl (.inl upd_same), fun p2 hp2 => ?_⟩
        have hp2s : p2 ≠ s0 := fun z => by
          rw [z] at hp2
          by_cases e : s0 = p1
          · rw [← e, hs'] at hp1
            cases hp1
          · rw [upd_ne e, hs'] at hp2
            cases hp2
        have hs5 : (upd (upd H' p1 (.lst (nine.map V.str ++ ((List.range c).map fun k => nmB k ++ ("q" : Str)).map V.str))) p2 (.lst (cutV (nine.map V.str ++ ((List.range c).map fun k => nmB k ++ ("q" : Str)).map V.str) none (some (c : Int))))) s0 = some (.lst l1) := by
          rw [upd_ne hp2s.symm, upd_ne (ne_of_none hs' hp1)]
          exact hs'
        refine fin 2 _ l1 p2 _ (by decide) ?_ hs5 hl1 ?_ hp2s
        · have c5 := ch'.new (o := .lst (nine.map V.str ++ ((List.range c).map fun k => nmB k ++ ("q" : Str)).map V.str)) (ch'.free hs ⟨_, hs'⟩ hp1)
          exact c5.new (c5.free hs ⟨l1, by rw [upd_ne (ne_of_none hs' hp1)]; exact hs'⟩ hp2)
        · rw [upd_same, cut_take, ← List.map_append, ← List.map_take]
          congr 3
          show (nine ++ (List.range c).map fun k => nmB k ++ ("q" : Str)).take c = (nine ++ (List.range 160).map fun k => nmB k ++ ("q" : Str)).take c
          rw [List.take_append, List.take_append, take_base _ (by omega), ← List.map_take, List.take_range, Nat.min_eq_left (by omega)]
    · refine ⟨_, rfl, rfl, _, rfl, iteF ⟨_, rfl, rfl, _, rfl, iteF ⟨_, rfl, rfl, _, rfl, iteF ?_⟩⟩⟩
      exact fin 3 H3 l1 D _ (by decide) ch3 hs3 hl1 (by rw [hD3, show nmS 3 = (List.range 160).map nmB from rfl, take_base _ hc]) hDs
end
end Ln


set_option Elab.async false
set_option linter.all false
set_option maxRecDepth 100000
set_option maxHeartbeats 2000000
namespace Ln
open PySem PySem.Spec PyProof.Rows L2 GxR
theorem scHap : FnScope ["source", "present", "spare", "most", "found", "left", "lean", "k", "arrives"] ["source", "present", "spare", "most"] (defScope sHap) := ⟨rfl, rfl, rfl, by decide +kernel, rfl, by decide +kernel, by decide +kernel⟩
/-- how many are present behind a log, if it can be -/
def cnt : Nat → List Ev → Option Nat
  | n, [] => some n
  | n, .inn _ :: r => cnt (n + 1) r
  | n, .out :: r => if 0 < n then cnt (n - 1) r else none
theorem cnt_snoc : ∀ (n : Nat) (es : List Ev) (e : Ev) (m : Nat), cnt n es = some m → cnt n (es ++ [e]) = cnt m [e]
  | n, [], e, m, h => by
    obtain rfl : n = m := Option.some.inj h
    rfl
  | n, .inn c :: r, e, m, h => cnt_snoc (n + 1) r e m h
  | n, .out :: r, e, m, h => by
    show (if 0 < n then cnt (n - 1) (r ++ [e]) else none) = _
    have h : (if 0 < n then cnt (n - 1) r else none) = some m := h
    by_cases q : 0 < n
    · rw [if_pos q] at h ⊢
      exact cnt_snoc (n - 1) r e m h
    · rw [if_neg q] at h
      cases h
/-- a log of new cars that counts is a log -/
theorem logB_of : ∀ (es : List Ev) (us : List Str) (n m : Nat), cnt n es = some m → (∀ c ∈ arrs es, carB c = true ∧ ¬ c ∈ us) → (arrs es).Nodup → logB us n es = true
  | [], _, _, _, _, _, _ => rfl
  | .inn c :: r, us, n, m, h, hc, hn => by
    show (if carB c = true ∧ ¬ c ∈ us then logB (c :: us) (n + 1) r else false) = true
    have hn : (c :: arrs r).Nodup := hn
    obtain ⟨h1, h2⟩ := List.nodup_cons.mp hn
    rw [if_pos (hc c List.mem_cons_self)]
    refine logB_of r (c :: us) (n + 1) m h (fun d hd => ⟨(hc d (List.mem_cons_of_mem _ hd)).1, fun z => ?_⟩) h2
    rcases List.mem_cons.mp z with z | z
    · exact h1 (z ▸ hd)
    · exact (hc d (List.mem_cons_of_mem _ hd)).2 z
  | .out :: r, us, n, m, h, hc, hn => by
    show (if 0 < n then logB us (n - 1) r else false) = true
    have h : (if 0 < n then cnt (n - 1) r else none) = some m := h
    by_cases q : 0 < n
    · rw [if_pos q] at h ⊢
      exact logB_of r us (n - 1) m h hc hn
    · rw [if_neg q] at h
      cases h
/-- the tuples stand -/
def KT (H H' : Hp) : Prop := ∀ b xs, H b = some (.tup xs) → H' b = some (.tup xs)
theorem KT.upd {H : Hp} {a : Addr} {o : HO} (h : ∀ xs, H a ≠ some (.tup xs)) : KT H (upd H a o) := fun b xs e => by
  rw [upd_ne (fun z => h xs (by rw [← z]; exact e))]
  exact e
theorem KT.trans {H H1 H2 : Hp} (a : KT H H1) (b : KT H1 H2) : KT H H2 := fun c xs e => b c xs (a c xs e)
/-- the events' own tuples -/
def EvT (H : Hp) (as : List Addr) (es : List Ev) : Prop := Paired (fun a (e : Ev) => H a = some (.tup e.vals)) as es
theorem EvT.kt {H H' : Hp} {as : List Addr} {es : List Ev} (h : EvT H as es) (k : KT H H') : EvT H' as es := Paired.imp h fun _ _ q => k _ _ q
theorem EvT.at_ {K : PySem.W.Frag} {H : Hp} {as : List Addr} {es : List Ev} (h : EvT H as es) : EvsAt K H as es := Paired.imp h fun _ _ q => SqT.of q
theorem dp_strs {K : PySem.W.Frag} {H : Hp} : ∀ xs : List Str, DpAll K H (xs.map V.str) (xs.map PyData.str)
  | [] => .nil
  | x :: r => .cons (.str x) (dp_strs r)
theorem lay_strs : ∀ xs : List Str, (∀ x ∈ xs, PyData.strOk x = true) → PyData.canLayAll0 (xs.map PyData.str) = true
  | [], _ => rfl
  | x :: r, h => by
    simp only [List.map_cons, PyData.canLayAll0, PyData.canLay0, lay_strs r fun y hy => h y (List.mem_cons_of_mem _ hy), h x List.mem_cons_self]
    rfl
theorem dep_strs : ∀ xs : List Str, PyData.depthAll (xs.map PyData.str) ≤ 1
  | [] => by simp [PyData.depthAll]
  | x :: r => by
    have := dep_strs r
    simp only [List.map_cons, PyData.depthAll, PyData.depth]
    omega
theorem shaped_strs (xs : List Str) (h : ∀ x ∈ xs, PyData.strOk x = true) : SeqAt.shaped (.list (xs.map PyData.str)) = true := by
  unfold SeqAt.shaped
  rw [Bool.and_eq_true]
  refine ⟨by rw [PyData.canLay0]; exact lay_strs xs h, decide_eq_true ?_⟩
  have := dep_strs xs
  simp only [PyData.depth]
  omega
theorem eqv_nil (xs : List Str) : PyData.eqv (.list (xs.map PyData.str)) (.list []) = xs.isEmpty := by
  cases xs with
  | nil => rfl
  | cons x r => simp [PyData.eqv, PyData.eqvAll]
theorem car_ok {x : Str} (h : carB x = true) : PyData.strOk x = true := by
  unfold carB at h
  rw [Bool.and_eq_true] at h
  have h2 := List.all_eq_true.mp h.2
  unfold PyData.strOk
  rw [← Array.all_toList, List.all_eq_true]
  intro c hc
  have := h2 c hc
  unfold lowB at this
  rw [Bool.and_eq_true] at this
  have := of_decide_eq_true this.2
  exact decide_eq_true (by omega)
/-- the loop of _law_happened: at turn i -/
def HapInv (H : Hp) (s0 t o u : Addr) (n n0 most : Nat) (zs : List Str) (r1 : Int) (c i : Nat) (σ : L2.St) (H' : Hp) : Prop := ∃ (l' : List V) (as : List Addr) (es : List Ev) (k m : Nat) (v7 v8 : Option V),
  σ = [some (.ref s0), some (.int (m : Nat)), some (.ref t), some (.int most), some (.ref o), some (.ref u), some (.int (2 + r1)), v7, v8] ∧ Ch s0 H H' ∧ i ≤ c ∧ H' s0 = some (.lst l') ∧ SrcV (n + 2 + i) l' ∧ H' u = some (.lst ((zs.drop k).map V.str)) ∧
  H' o = some (.lst (as.map V.ref)) ∧ EvT H' as es ∧ (∀ a ∈ as, H a = none) ∧ es.length ≤ i ∧ arrs es = zs.take k ∧ cnt n0 es = some m
theorem cnt_le : ∀ (n : Nat) (es : List Ev) (m : Nat), cnt n es = some m → m ≤ n + es.length
  | n, [], m, h => by
    obtain rfl : n = m := Option.some.inj h
    exact Nat.le_refl _
  | n, .inn c :: r, m, h => by
    have := cnt_le (n + 1) r m h
    show m ≤ n + (r.length + 1)
    omega
  | n, .out :: r, m, h => by
    have h : (if 0 < n then cnt (n - 1) r else none) = some m := h
    by_cases q : 0 < n
    · rw [if_pos q] at h
      have := cnt_le (n - 1) r m h
      show m ≤ n + (r.length + 1)
      omega
    · rw [if_neg q] at h
      cases h
section
variable {P : Program} {w : World} {K : PySem.W.Frag} {mg : Str → Option Value} {base : Heap} {Ps : List Addr}
def spHap (K : PySem.W.Frag) : Sp := fun vs H Q _ => ∃ (s t : Addr) (l : List V) (n n0 most : Nat) (zs : List Str), vs = [.ref s, .int n0, .ref t, .int most] ∧ H s = some (.lst l) ∧ SrcV n l ∧ n + 200 ≤ 1000000 ∧ most ≤ 120 ∧ n0 ≤ 400 ∧ SqL K H t (zs.map V.str) ∧ t ≠ s ∧ zs.length ≤ 400 ∧ (∀ z ∈ zs, carB z = true) ∧
  ∀ (H' : Hp) (p : Addr) (as : List Addr) (es : List Ev) (k m : Nat) (l' : List V), Ch s H H' → H p = none → (∀ a ∈ as, H a = none) → es.length ≤ most → arrs es = zs.take k → cnt n0 es = some m → SrcV (n + 122) l' → H' s = some (.lst l') → H' p = some (.lst (as.map V.ref)) → EvT H' as es → Q (.ref p) H'
theorem ok_hap {f fD : Addr} {fd fdD : FuncData} (F : Fun K "_law_happened" "_law_happened" sHap f fd) (B : Bi mg) (B2 : Bl mg)
    (GD : FnOk P w K mg base CX0 1 fD fdD ["source", "limit"] spDraw) (mgD : mg "_law_draw" = some (.ref fD)) (kD : PySem.W.keepIn K (.ref fD) = true) (bD : Binds K fdD ["source", "limit"] []) : FnOk P w K mg base CX0 2 f fd ["source", "present", "spare", "most"] (spHap K) := by
  refine F.ok scHap (fun vs H Q E h => ?_) (fun cdv A outer s H vs Q E hr h => ?_)
  · obtain ⟨s0, t, l, n, n0, most, zs, rfl, _⟩ := h
    rfl
  · obtain ⟨s0, t, l, n, n0, most, zs, rfl, hs, hl, hn, hmost, hn0, hS, hts, hzl, hzc, q⟩ := h
    have hu : A.units + 3 + 64 < cLine := hr.units
    refine ⟨_, pss_cons (ps_set (i := 4) scHap.nd rfl (.inl rfl) (pe_lst pa_nil))
      (pss_cons (ps_set (i := 5) scHap.nd rfl (.inl rfl) (pe_callTy call_list_of (by rfl) B.lst (by decide +kernel) (pa_cons (pv 2) pa_nil)))
      (pss_cons (ps_set (i := 6) scHap.nd rfl (.inl rfl) (pe_op op_add pe_int (pe_call GD hr (by rfl) mgD kD bD .nil pass0 (pa_cons (pv 0) (pa_cons pe_int pa_nil)))))
      (pss_cons (ps_for PassesOwn.never rfl (pi_range1 (by rfl) B2.rng (pa_cons (pe_call GD hr (by rfl) mgD kD bD .nil pass0 (pa_cons (pv 0) (pa_cons (pe_op op_add (pv 3) pe_int) pa_nil))) pa_nil)) (pg_name (i := 7) scHap.nd rfl (.inl rfl))
        (pss_cons (ps_set (i := 8) scHap.nd rfl (.inl rfl) (pe_cmpR op_gt (pe_call GD hr (by rfl) mgD kD bD .nil pass0 (pa_cons (pv 0) (pa_cons (pv 6) pa_nil))) pe_int (nomark _)))
        (pss_one (ps_if (PW.pt (pw_and (pt_cmpR (op_neD hu) (pv 5) (pe_lst pa_nil) (nomark _)) (pw_and (pt_cmpR op_lt (pv 1) pe_int (nomark _)) (pw_and1 (PW.pt (pw_or (pt_cmpR op_eq (pv 1) pe_int (nomark _)) (pw_or1 (pt_val (pv 8)))))))))
          (pss_cons (ps_expr (pe_bm PySem.F.plainAttrs_list PySem.F.slot_list_append PySem.F.type_list_append mt_append (pv 4) (pa_cons (pe_tup (pa_cons pe_str (pa_cons (pe_bm PySem.F.plainAttrs_list PySem.F.slot_list_pop PySem.F.type_list_pop mt_popAt (pv 5) (pa_cons pe_int pa_nil)) pa_nil))) pa_nil)))
            (pss_one (ps_set (i := 1) scHap.nd rfl (.inl rfl) (pe_op op_add (pv 1) pe_int))))
          (pss_one (ps_if (pt_cmpR op_gt (pv 1) pe_int (nomark _))
            (pss_cons (ps_expr (pe_bm PySem.F.plainAttrs_list PySem.F.slot_list_append PySem.F.type_list_append mt_append (pv 4) (pa_cons (pe_tup (pa_cons pe_str pa_nil)) pa_nil)))
              (pss_one (ps_set (i := 1) scHap.nd rfl (.inl rfl) (pe_op op_sub (pv 1) pe_int)))) pss_nil))))))
      (pss_one (ps_ret (pv 4)))))), ?_⟩
    -- found = []; left = list(spare)
    refine ⟨Nat.zero_le _, fun o ho => ?_⟩
    have hos : o ≠ s0 := fun z => by rw [z, hs] at ho; cases ho
    have ch1 : Ch s0 H (upd H o (.lst [])) := Ch.refl.new ho
    refine ⟨.ref t, rfl, t, _, rfl, .inl (ch1.seqL hS hts), fun u hu1 => ?_⟩
    have huo : u ≠ o := fun z => by rw [z, upd_same] at hu1; cases hu1
    rw [upd_ne huo] at hu1
    have hus : u ≠ s0 := fun z => by rw [z, hs] at hu1; cases hu1
    -- lean
    have hs2 : (upd (upd H o (.lst [])) u (.lst (zs.map V.str))) s0 = some (.lst l) := by rw [upd_ne hus.symm, upd_ne hos.symm]; exact hs
    refine ⟨.ref s0, rfl, s0, l, n, 3, rfl, hs2, hl, by omega, by decide, by decide, fun l1 r1 hl1 h10 h13 => ?_⟩
    refine ⟨_, _, rfl, rfl, .ref s0, rfl, .int most, rfl, _, _, rfl, rfl, s0, l1, n + 1, _, rfl, upd_same, hl1, by omega, by omega, by omega, fun l2 r2 hl2 h20 h2m => ?_⟩
    refine ⟨r2, rfl, by omega, by omega, ?_⟩
    refine for_range (lo := 0) (n := r2.toNat) (HapInv H s0 t o u n n0 most zs r1 r2.toNat) ?_ ?_ ?_
    · exact ⟨l2, [], [], 0, n0, none, none, rfl, fun b q e ne => by rw [upd_ne ne, upd_ne ne, upd_ne (ne_of_none e hu1), upd_ne (ne_of_none e ho)]; exact e, Nat.zero_le _, upd_same, hl2, by rw [upd_ne hus, upd_ne hus, upd_same]; rfl, by rw [upd_ne hos, upd_ne hos, upd_ne huo.symm, upd_same]; rfl, .nil, fun a ha => (by cases ha), Nat.le_refl _, rfl, rfl⟩
    · rintro i σ H' hi ⟨l', as, es, k, m, v7, v8, rfl, ch, _, hs', hl', hu', ho', hev, hfr, hel, har, hct⟩
      have hr2 : r2.toNat ≤ 120 := by omega
      -- arrives
      refine ⟨.ref s0, rfl, _, rfl, s0, l', n + 2 + i, _, rfl, hs', hl', by omega, by omega, by omega, fun l3 r3 hl3 h30 h3m => ?_⟩
      refine ⟨_, _, rfl, rfl, ?_⟩
      have hs3 : (upd H' s0 (.lst l3)) s0 = some (.lst l3) := upd_same
      have hu3 : (upd H' s0 (.lst l3)) u = some (.lst ((zs.drop k).map V.str)) := by rw [upd_ne hus]; exact hu'
      have ho3 : (upd H' s0 (.lst l3)) o = some (.lst (as.map V.ref)) := by rw [upd_ne hos]; exact ho'
      have hev3 : EvT (upd H' s0 (.lst l3)) as es := hev.kt (KT.upd fun xs e => by rw [hs'] at e; cases e)
      have ch3 : Ch s0 H (upd H' s0 (.lst l3)) := ch.trans Ch.src
      generalize upd H' s0 (.lst l3) = H3 at *
      have lenA : (as.map V.ref).length < sizeLine := by
        rw [List.length_map, Paired.length hev]
        exact small1000 (by omega)
      -- elif present > 0
      have els : ∀ H4 : Hp, Ch s0 H H4 → H4 s0 = some (.lst l3) → H4 u = some (.lst ((zs.drop k).map V.str)) → H4 o = some (.lst (as.map V.ref)) → EvT H4 as es → ∀ v7 v8 : Option V,
          ∀ D : Ends, (∀ σ H', HapInv H s0 t o u n n0 most zs r1 r2.toNat (i + 1) σ H' → D.nx σ H') →
          (tIfS (tTest (tOp (rI0 fun i j => .bl (decide (j < i))) (tVar 1) (tC (.int 0)))) (tSeq (tDrop (tBM K "list" rAppend (tVar 4) (tCons (tTup (tCons (tC (.str "out")) tNil)) tNil))) (tAsg (tOp (rI0 fun i j => .int (i - j)) (tVar 1) (tC (.int 1))) (gName 1))) tNext)
            D [some (.ref s0), some (.int (m : Nat)), some (.ref t), some (.int most), some (.ref o), some (.ref u), some (.int (2 + r1)), v7, v8] H4 := by
        intro H4 ch4 hs4 hu4 ho4 hev4 v7 v8 D hD
        refine ⟨_, rfl, _, _, rfl, rfl, _, rfl, ite2 (fun hm => ?_) (fun hm => ?_)⟩
        · have hm : (0 : Int) < (m : Nat) := of_decide_eq_true hm
          refine ⟨.ref o, rfl, .inl ⟨rfl, _, .inl (.inl ho4)⟩, by show 1 ≤ sizeLine; decide, fun e he => ?_⟩
          have heo : o ≠ e := ne_of_none ho4 he
          have heu : u ≠ e := ne_of_none hu4 he
          have hes : s0 ≠ e := ne_of_none hs4 he
          have he0 : H e = none := ch4.free hs ⟨_, hs4⟩ he
          refine ⟨o, _, _, rfl, rfl, by rw [upd_ne heo]; exact ho4, lenA, ?_⟩
          refine ⟨_, rfl, _, _, rfl, rfl, hD _ _ ⟨l3, as ++ [e], es ++ [.out], k, m - 1, v7, v8, ?_, (ch4.new he0).new ho, hi, ?_, ?_, ?_, ?_, ?_, ?_, ?_, ?_, ?_⟩⟩
          · show [some (V.ref s0), some (V.int (((m : Nat) : Int) - 1)), some (V.ref t), some (V.int most), some (V.ref o), some (V.ref u), some (V.int (2 + r1)), v7, v8] = _
            rw [show ((m : Nat) : Int) - 1 = ((m - 1 : Nat) : Int) by omega]
          · rw [upd_ne hos.symm, upd_ne hes]
            exact hs4
          · rw [show n + 2 + (i + 1) = n + 2 + i + 1 by omega]
            exact hl3
          · rw [upd_ne huo, upd_ne heu]
            exact hu4
          · rw [upd_same, List.map_append]
            rfl
          · refine Paired.snoc ?_ ?_
            · exact (hev4.kt (KT.upd fun xs e' => by rw [he] at e'; cases e')).kt (KT.upd fun xs e' => by rw [upd_ne heo, ho4] at e'; cases e')
            · show (upd _ _ _) e = _
              rw [upd_ne heo.symm, upd_same]
              rfl
          · intro b hb
            rcases List.mem_append.mp hb with hb | hb
            · exact hfr b hb
            · rw [List.mem_singleton.mp hb]
              exact he0
          · rw [List.length_append]
            show es.length + 1 ≤ _
            omega
          · rw [arrs_app, har]
            show zs.take k ++ [] = _
            rw [List.append_nil]
          · rw [cnt_snoc _ _ _ _ hct]
            show (if 0 < m then some (m - 1) else none) = _
            rw [if_pos (by omega)]
        · exact hD _ _ ⟨l3, as, es, k, m, v7, v8, rfl, ch4, hi, hs4, by rw [show n + 2 + (i + 1) = n + 2 + i + 1 by omega]; exact hl3, hu4, ho4, hev4, hfr, by omega, har, hct⟩
      -- if left != [] and present < 40 and (present == 0 or arrives)
      refine ⟨.ref u, rfl, Nat.zero_le _, fun e0 he0 => ?_⟩
      have hE0 : H e0 = none := ch3.free hs ⟨_, hs3⟩ he0
      have n0o : o ≠ e0 := ne_of_none ho3 he0
      have n0u : u ≠ e0 := ne_of_none hu3 he0
      have n0s : s0 ≠ e0 := ne_of_none hs3 he0
      have hu5 : (upd H3 e0 (.lst [])) u = some (.lst ((zs.drop k).map V.str)) := by rw [upd_ne n0u]; exact hu3
      have ho5 : (upd H3 e0 (.lst [])) o = some (.lst (as.map V.ref)) := by rw [upd_ne n0o]; exact ho3
      have hs5 : (upd H3 e0 (.lst [])) s0 = some (.lst l3) := by rw [upd_ne n0s]; exact hs3
      have ch5 := ch3.new (o := .lst []) hE0
      have hev5 : EvT (upd H3 e0 (.lst [])) as es := hev3.kt (KT.upd fun xs e' => by rw [he0] at e'; cases e')
      refine ⟨.list ((zs.drop k).map PyData.str), .list [], .lst (.inl (.inl hu5)) (dp_strs _), .lst (.inl (.inl upd_same)) .nil, shaped_strs _ fun x hx => car_ok (hzc x (List.mem_of_mem_drop hx)), by decide +kernel, ?_⟩
      rw [eqv_nil]
      generalize upd H3 e0 (.lst []) = H5 at *
      have skip : ∀ v7 v8 : Option V, _ := fun v7 v8 => els H5 ch5 hs5 hu5 ho5 hev5 v7 v8
      refine ⟨_, rfl, ?_⟩
      cases hdr : zs.drop k with
      | nil => exact iteF (iteF (skip _ _ _ fun σ H' h => h))
      | cons c rest =>
        have hk : zs[k]? = some c := by
          have : (zs.drop k)[0]? = some c := by rw [hdr]; rfl
          rw [List.getElem?_drop] at this
          exact this
        have hrest : rest = zs.drop (k + 1) := by
          have : (zs.drop k).drop 1 = rest := by rw [hdr]; rfl
          rw [List.drop_drop] at this
          exact this.symm
        rw [hdr] at hu5
        have yes : ∀ v7 v8 : Option V, ∀ D : Ends, (∀ σ H', HapInv H s0 t o u n n0 most zs r1 r2.toNat (i + 1) σ H' → D.nx σ H') →
            (tSeq (tDrop (tBM K "list" rAppend (tVar 4) (tCons (tTup (tCons (tC (.str "in")) (tCons (tBM K "list" rPopAt (tVar 5) (tCons (tC (.int 0)) tNil)) tNil))) tNil))) (tAsg (tOp (rI0 fun i j => .int (i + j)) (tVar 1) (tC (.int 1))) (gName 1)))
              D [some (.ref s0), some (.int (m : Nat)), some (.ref t), some (.int most), some (.ref o), some (.ref u), some (.int (2 + r1)), v7, v8] H5 := by
          intro v7 v8 D hD
          refine ⟨.ref o, rfl, .inl ⟨rfl, _, .inl (.inl ho5)⟩, .ref u, rfl, .inl ⟨rfl, _, .inl (.inl hu5)⟩, u, _, 0, 0, V.str c, rfl, rfl, hu5, by decide, by decide, ?_, rfl, by show 2 ≤ sizeLine; decide, fun e he => ?_⟩
          · exact (ixN_seq (i := 0) (j := 0) (by unfold ixN; rw [if_pos (by decide), if_pos (by rw [List.length_map, List.length_cons]; omega)]; rfl)).1
          have heu : e ≠ u := fun z => by
            rw [z, upd_same] at he
            cases he
          rw [upd_ne heu] at he
          have heo : o ≠ e := ne_of_none ho5 he
          have hes : s0 ≠ e := ne_of_none hs5 he
          have he0 : H e = none := ch5.free hs ⟨_, hs5⟩ he
          refine ⟨o, _, _, rfl, rfl, by rw [upd_ne heo, upd_ne huo.symm]; exact ho5, lenA, ?_⟩
          refine ⟨_, rfl, _, _, rfl, rfl, hD _ _ ⟨l3, as ++ [e], es ++ [.inn c], k + 1, m + 1, v7, v8, rfl, ((ch5.new hu1).new he0).new ho, hi, ?_, ?_, ?_, ?_, ?_, ?_, ?_, ?_, ?_⟩⟩
          · rw [upd_ne hos.symm, upd_ne hes, upd_ne hus.symm]
            exact hs5
          · rw [show n + 2 + (i + 1) = n + 2 + i + 1 by omega]
            exact hl3
          · rw [upd_ne huo, upd_ne heu.symm, upd_same, ← hrest]
            rfl
          · rw [upd_same, List.map_append]
            rfl
          · refine Paired.snoc ?_ ?_
            · exact ((hev5.kt (KT.upd fun xs e' => by rw [hu5] at e'; cases e')).kt (KT.upd fun xs e' => by rw [upd_ne heu, he] at e'; cases e')).kt (KT.upd fun xs e' => by rw [upd_ne heo, upd_ne huo.symm, ho5] at e'; cases e')
            · show (upd _ _ _) e = _
              rw [upd_ne heo.symm, upd_same]
              rfl
          · intro b hb
            rcases List.mem_append.mp hb with hb | hb
            · exact hfr b hb
            · rw [List.mem_singleton.mp hb]
              exact he0
          · rw [List.length_append]
            show es.length + 1 ≤ _
            omega
          · rw [arrs_app, har, List.take_add_one, hk]
            rfl
          · rw [cnt_snoc _ _ _ _ hct]
            rfl
        refine iteT ⟨_, rfl, _, _, rfl, rfl, _, rfl, ite2 (fun h40 => ?_) (fun h40 => ?_)⟩
        · refine ⟨_, rfl, rfl, _, rfl, ite2 (fun hm0 => ?_) (fun hm0 => ?_)⟩
          · exact iteT (yes _ _ _ fun σ H' h => h)
          · refine ⟨_, rfl, _, rfl, ite2 (fun ha => ?_) (fun ha => ?_)⟩
            · exact yes _ _ _ fun σ H' h => h
            · exact skip _ _ _ fun σ H' h => h
        · exact iteF (skip _ _ _ fun σ H' h => h)
    · rintro σ H' ⟨l', as, es, k, m, v7, v8, rfl, ch, _, hs', hl', hu', ho', hev, hfr, hel, har, hct⟩
      exact ⟨.ref o, rfl, q H' o as es k m l' ch ho hfr (by omega) har hct (hl'.mono (by omega)) hs' ho' hev⟩
end
end Ln


set_option Elab.async false
set_option linter.all false
set_option maxRecDepth 100000
set_option maxHeartbeats 4000000
namespace Ln
open PySem PySem.Spec PyProof.Rows L2 GxR
theorem Same.seqT {K : PySem.W.Frag} {H H' : Hp} {a : Addr} {xs : List V} (e : L2.Same H H') (h : SqT K H a xs) : SqT K H' a xs := by
  rcases h with (h | ⟨o, h⟩) | h
  · exact .inl (.inl (e _ _ h))
  · exact .inl (.inr ⟨o, e _ _ h⟩)
  · exact .inr h
theorem Same.new {H H1 : Hp} {p : Addr} {o : HO} (k : L2.Same H H1) (hp : H p = none) : L2.Same H (upd H1 p o) := fun b q e => by
  rw [upd_ne (ne_of_none e hp)]
  exact k b q e
theorem cut_from1 {xs : List V} (h : 0 < xs.length) : cutV xs (some 1) none = xs.drop 1 := by
  unfold cutV
  rw [show HT.sIx xs.length 0 (some 1) = min 1 xs.length from HT.sIx_nat xs.length 0 1, HT.sIx_none, show min 1 xs.length = 1 by omega]
  exact List.take_of_length_le (by rw [List.length_drop]; exact Nat.le_refl _)
theorem sIx_m1 (n : Nat) (h : 0 < n) : HT.sIx n n (some (-1)) = n - 1 := by
  show (if (-1 : Int) < 0 then ((-1 : Int) + (n : Int)).toNat else min (-1 : Int).toNat n) = n - 1
  rw [if_pos (by decide)]
  omega
theorem cut_last {xs : List V} (h : 0 < xs.length) : cutV xs none (some (-1)) = xs.take (xs.length - 1) := by
  unfold cutV
  rw [HT.sIx_none, sIx_m1 _ h, List.drop_zero, Nat.sub_zero]
/-- all that a history needs -/
structure HistAt (K : PySem.W.Frag) (H : Hp) (a l m : Addr) (xs : List Str) (as : List Addr) (es : List Ev) (sd : List Str) : Prop where
  lane : LaneAt K H a xs
  laneB : laneB xs = true
  log : LogAt K H l as es
  logB : logB xs xs.length es = true
  mv : SqL K H m (sd.map V.str)
  len : sd.length = es.length
  sides : sd.all sideB = true
theorem szs_at {xs : List Str} {es : List Ev} {sd : List Str} (hB : logB xs xs.length es = true) (hl : sd.length = es.length) : ∀ i, i ≤ es.length → (szs xs.length es)[i]? = some (((atR xs es sd i).1.length : Nat) : Int) ∧ Live xs es i (atR xs es sd i).1.length
  | 0, _ => ⟨szs_head _ _, xs, hB⟩
  | i + 1, h => by
    obtain ⟨h1, h2⟩ := szs_at hB hl i (by omega)
    have hlt : i < es.length := h
    have hlt2 : i < sd.length := by omega
    obtain ⟨ev, hev⟩ : ∃ ev, es[i]? = some ev := ⟨es[i], List.getElem?_eq_getElem hlt⟩
    obtain ⟨sx, hsv⟩ : ∃ sx, sd[i]? = some sx := ⟨sd[i], List.getElem?_eq_getElem hlt2⟩
    have hs := szs_step _ es i ev _ hev h1
    have hr := atR_succ (xs := xs) hev hsv
    have hls := live_step h2 hev
    generalize hlane : atR xs es sd i = pr at *
    cases ev with
    | inn c =>
      have e1 : (atR xs es sd (i + 1)).1.length = pr.1.length + 1 := by
        rw [hr]
        show (if sx = "L" then c :: pr.1 else pr.1 ++ [c]).length = _
        split
        · rfl
        · rw [List.length_append]
          rfl
      rw [e1]
      exact ⟨by rw [hs]; rfl, hls⟩
    | out =>
      obtain ⟨hp, hls⟩ := hls
      have e1 : (atR xs es sd (i + 1)).1.length = pr.1.length - 1 := by
        rw [hr]
        show (if sx = "L" then (pr.1.drop 1, pr.2 ++ pr.1.take 1) else (pr.1.dropLast, pr.2 ++ pr.1.drop (pr.1.length - 1)) : List Str × List Str).1.length = _
        split
        · exact List.length_drop
        · exact List.length_dropLast
      rw [e1]
      refine ⟨?_, hls⟩
      rw [hs]
      congr 1
      show ((pr.1.length : Nat) : Int) + -1 = _
      omega
theorem szs_eq {xs : List Str} {es : List Ev} {sd : List Str} (hB : logB xs xs.length es = true) (hl : sd.length = es.length) : szs xs.length es = (List.range (es.length + 1)).map fun i => (((atR xs es sd i).1.length : Nat) : Int) := by
  refine List.ext_getElem? fun i => ?_
  by_cases h : i < es.length + 1
  · rw [(szs_at hB hl i (by omega)).1, List.getElem?_map, List.getElem?_range h]
    rfl
  · rw [List.getElem?_eq_none (by rw [szs_len]; omega), List.getElem?_eq_none (by rw [List.length_map, List.length_range]; omega)]
theorem atR_le {xs : List Str} {es : List Ev} {sd : List Str} : ∀ i, (atR xs es sd i).1.length ≤ xs.length + i ∧ (atR xs es sd i).2.length ≤ i
  | 0 => ⟨Nat.le_refl _, Nat.le_refl _⟩
  | i + 1 => by
    obtain ⟨h1, h2⟩ := atR_le (xs := xs) (es := es) (sd := sd) i
    unfold atR at *
    rw [List.take_add_one, List.foldl_append]
    cases hq : (es.zip sd)[i]? with
    | none => exact ⟨by show _ ≤ _; simp only [Option.toList_none, List.foldl_nil]; omega, by simp only [Option.toList_none, List.foldl_nil]; omega⟩
    | some q =>
      obtain ⟨e, x⟩ := q
      simp only [Option.toList_some, List.foldl_cons, List.foldl_nil]
      generalize List.foldl stepR (xs, []) (List.take i (es.zip sd)) = pr at *
      cases e with
      | inn c =>
        refine ⟨?_, by show pr.2.length ≤ _; omega⟩
        show (if x = "L" then c :: pr.1 else pr.1 ++ [c]).length ≤ _
        split
        · rw [List.length_cons]
          omega
        · rw [List.length_append]
          show pr.1.length + 1 ≤ _
          omega
      | out =>
        show (if x = "L" then (pr.1.drop 1, pr.2 ++ pr.1.take 1) else (pr.1.dropLast, pr.2 ++ pr.1.drop (pr.1.length - 1)) : List Str × List Str).1.length ≤ _ ∧ (if x = "L" then (pr.1.drop 1, pr.2 ++ pr.1.take 1) else (pr.1.dropLast, pr.2 ++ pr.1.drop (pr.1.length - 1)) : List Str × List Str).2.length ≤ _
        split
        · refine ⟨by show (pr.1.drop 1).length ≤ _; rw [List.length_drop]; omega, ?_⟩
          show (pr.2 ++ pr.1.take 1).length ≤ _
          rw [List.length_append, List.length_take]
          omega
        · refine ⟨by show (pr.1.dropLast).length ≤ _; rw [List.length_dropLast]; omega, ?_⟩
          show (pr.2 ++ pr.1.drop (pr.1.length - 1)).length ≤ _
          rw [List.length_append, List.length_drop]
          omega
theorem HistAt.kp {K : PySem.W.Frag} {Ps : List Addr} {H H1 : Hp} {a l m : Addr} {xs : List Str} {as : List Addr} {es : List Ev} {sd : List Str} (h : HistAt K H a l m xs as es sd) (k : Kp Ps H H1) (hT : Tabs Ps H) : HistAt K H1 a l m xs as es sd :=
  ⟨h.lane.kp k hT, h.laneB, h.log.kp k hT, h.logB, k.seqL hT h.mv, h.len, h.sides⟩
theorem Same.kp {Ps : List Addr} {H H1 : Hp} (h : L2.Same H H1) (hT : Tabs Ps H) : Kp Ps H H1 := ⟨fun b o e _ => h b o e, fun p hp => by
  obtain ⟨ps, e, t⟩ := hT p hp
  exact ⟨ps, h _ _ e, t⟩⟩
theorem logB_cars : ∀ (es : List Ev) (us : List Str) (n : Nat), logB us n es = true → ∀ c ∈ arrs es, carB c = true
  | .inn c :: r, us, n, h, d, hd => by
    have h : (if carB c = true ∧ ¬ c ∈ us then logB (c :: us) (n + 1) r else false) = true := h
    by_cases q : carB c = true ∧ ¬ c ∈ us
    · rw [if_pos q] at h
      rcases List.mem_cons.mp (show d ∈ c :: arrs r from hd) with e | e
      · rw [e]
        exact q.1
      · exact logB_cars r _ _ h d e
    · rw [if_neg q] at h
      cases h
  | .out :: r, us, n, h, d, hd => by
    have h : (if 0 < n then logB us (n - 1) r else false) = true := h
    by_cases q : 0 < n
    · rw [if_pos q] at h
      exact logB_cars r _ _ h d hd
    · rw [if_neg q] at h
      cases h
theorem mem_arrs {c : Str} : ∀ {es : List Ev}, Ev.inn c ∈ es → c ∈ arrs es
  | .inn d :: r, h => by
    rcases List.mem_cons.mp h with e | e
    · injection e with e
      rw [e]
      exact List.mem_cons_self
    · exact List.mem_cons_of_mem _ (mem_arrs e)
  | .out :: r, h => by
    rcases List.mem_cons.mp h with e | e
    · cases e
    · exact mem_arrs (es := r) e
/-- every car of a history is a car of the lane or one that arrives -/
theorem atR_mem {xs : List Str} {es : List Ev} {sd : List Str} : ∀ i x, x ∈ (atR xs es sd i).1 ∨ x ∈ (atR xs es sd i).2 → x ∈ xs ∨ x ∈ arrs es
  | 0, x, h => by
    rcases h with h | h
    · exact .inl h
    · cases h
  | i + 1, x, h => by
    have ih := atR_mem (xs := xs) (es := es) (sd := sd) i x
    unfold atR at h ih
    rw [List.take_add_one, List.foldl_append] at h
    cases hq : (es.zip sd)[i]? with
    | none =>
      rw [hq] at h
      exact ih h
    | some q =>
      obtain ⟨e, y⟩ := q
      have hmem : e ∈ es := by
        rw [List.getElem?_zip_eq_some] at hq
        exact List.mem_of_getElem? hq.1
      rw [hq] at h
      simp only [Option.toList_some, List.foldl_cons, List.foldl_nil] at h
      generalize List.foldl stepR (xs, []) (List.take i (es.zip sd)) = pr at *
      cases e with
      | inn c =>
        have h : x ∈ (if y = "L" then c :: pr.1 else pr.1 ++ [c]) ∨ x ∈ pr.2 := h
        rcases h with h | h
        · have : x = c ∨ x ∈ pr.1 := by
            split at h
            · exact List.mem_cons.mp h
            · rcases List.mem_append.mp h with h | h
              · exact .inr h
              · exact .inl (List.mem_singleton.mp h)
          rcases this with rfl | h
          · exact .inr (mem_arrs hmem)
          · exact ih (.inl h)
        · exact ih (.inr h)
      | out =>
        have h : x ∈ (if y = "L" then (pr.1.drop 1, pr.2 ++ pr.1.take 1) else (pr.1.dropLast, pr.2 ++ pr.1.drop (pr.1.length - 1)) : List Str × List Str).1 ∨ x ∈ (if y = "L" then (pr.1.drop 1, pr.2 ++ pr.1.take 1) else (pr.1.dropLast, pr.2 ++ pr.1.drop (pr.1.length - 1)) : List Str × List Str).2 := h
        have hm : x ∈ pr.1 ∨ x ∈ pr.2 := by
          split at h
          · rcases h with h | h
            · exact .inl (List.mem_of_mem_drop h)
            · rcases List.mem_append.mp h with h | h
              · exact .inr h
              · exact .inl (List.mem_of_mem_take h)
          · rcases h with h | h
            · exact .inl (List.dropLast_subset _ h)
            · rcases List.mem_append.mp h with h | h
              · exact .inr h
              · exact .inl (List.mem_of_mem_drop h)
        exact ih hm
theorem last_at {α : Type} {rs : List α} {x : α} (h : rs.getLast? = some x) : ∃ q, rs = q ++ [x] := by
  cases rs with
  | nil => cases h
  | cons y r =>
    rw [List.getLast?_eq_getLast (List.cons_ne_nil y r)] at h
    exact ⟨_, by rw [← Option.some.inj h]; exact (List.dropLast_concat_getLast (List.cons_ne_nil y r)).symm⟩
/-- what came of a history, tuple by tuple and list by list -/
structure Sit (H : Hp) (t l m : Addr) (xs : List Str) (as : List Addr) (es : List Ev) (sd : List Str) : Prop where
  t1 : H t = some (.tup (xs.map V.str))
  l1 : H l = some (.lst (as.map V.ref))
  m1 : H m = some (.lst (sd.map V.str))
  ev : EvT H as es
  laneB : laneB xs = true
  logB : logB xs xs.length es = true
  len : sd.length = es.length
  sides : sd.all sideB = true
  few1 : xs.length ≤ 400
  few2 : es.length ≤ 400
theorem carsOf {xs : List Str} (h : laneB xs = true) : ∀ x ∈ xs, carB x = true := fun x hx => by
  unfold Ln.laneB at h
  rw [Bool.and_eq_true] at h
  exact List.all_eq_true.mp h.1 x hx
theorem car_sz {x : Str} (h : carB x = true) : x.length ≤ sizeLine := Nat.le_trans (car_len h) (by decide)
theorem Sit.hist {K : PySem.W.Frag} {H : Hp} {t l m : Addr} {xs : List Str} {as : List Addr} {es : List Ev} {sd : List Str} (h : Sit H t l m xs as es sd) : HistAt K H t l m xs as es sd :=
  ⟨⟨SqT.of h.t1, h.few1, fun x hx => car_sz (carsOf h.laneB x hx)⟩, h.laneB, ⟨SqL.of h.l1, h.ev.at_, h.few2, fun c hc => car_sz (logB_cars es xs _ h.logB c (mem_arrs hc))⟩, h.logB, SqL.of h.m1, h.len, h.sides⟩
theorem Kp.kt {Ps : List Addr} {H H1 : Hp} (k : Kp Ps H H1) (hT : Tabs Ps H) : KT H H1 := fun b xs e => k.tup hT e
theorem Sit.kp {Ps : List Addr} {H H1 : Hp} {t l m : Addr} {xs : List Str} {as : List Addr} {es : List Ev} {sd : List Str} (h : Sit H t l m xs as es sd) (k : Kp Ps H H1) (hT : Tabs Ps H) : Sit H1 t l m xs as es sd :=
  { h with t1 := k.tup hT h.t1, l1 := k.lst hT h.l1, m1 := k.lst hT h.m1, ev := h.ev.kt (k.kt hT) }
theorem Sit.src {H : Hp} {s t l m : Addr} {xs : List Str} {as : List Addr} {es : List Ev} {sd : List Str} {ys zs : List V} (h : Sit H t l m xs as es sd) (hs : H s = some (.lst ys)) (h1 : l ≠ s) (h2 : m ≠ s) : Sit (upd H s (.lst zs)) t l m xs as es sd :=
  { h with t1 := by rw [upd_ne (fun z => by have := h.t1; rw [z, hs] at this; cases this)]; exact h.t1, l1 := by rw [upd_ne h1]; exact h.l1, m1 := by rw [upd_ne h2]; exact h.m1, ev := h.ev.kt (KT.upd fun xs e => by rw [hs] at e; cases e) }
theorem Kp.ch {Ps : List Addr} {s : Addr} {H H1 H2 : Hp} {l : List V} (k : Kp Ps H H1) (hT : Tabs Ps H) (h0 : H s = none) (h1 : H1 s = some (.lst l)) (c : Ch s H1 H2) : Kp Ps H H2 :=
  ⟨fun b o e n => c b o (k.at_ b o e n) (ne_of_none e h0), c.tabs h1 k.tab⟩
theorem Kp.srcU {Ps : List Addr} {s : Addr} {H H1 : Hp} {o : HO} (k : Kp Ps H H1) (hT : Tabs Ps H) (h0 : H s = none) : Kp Ps H (L2.upd H1 s o) := Kp.upd k hT h0
theorem logB_take : ∀ (es : List Ev) (us : List Str) (n j : Nat), logB us n es = true → logB us n (es.take j) = true
  | [], _, _, j, _ => by rw [List.take_nil]; rfl
  | _ :: _, _, _, 0, _ => rfl
  | .inn c :: r, us, n, j + 1, h => by
    have h : (if carB c = true ∧ ¬ c ∈ us then logB (c :: us) (n + 1) r else false) = true := h
    show (if carB c = true ∧ ¬ c ∈ us then logB (c :: us) (n + 1) (r.take j) else false) = true
    by_cases q : carB c = true ∧ ¬ c ∈ us
    · rw [if_pos q] at h ⊢
      exact logB_take r _ _ j h
    · rw [if_neg q] at h
      cases h
  | .out :: r, us, n, j + 1, h => by
    have h : (if 0 < n then logB us (n - 1) r else false) = true := h
    show (if 0 < n then logB us (n - 1) (r.take j) else false) = true
    by_cases q : 0 < n
    · rw [if_pos q] at h ⊢
      exact logB_take r _ _ j h
    · rw [if_neg q] at h
      cases h
theorem EvT.take {H : Hp} : ∀ {as : List Addr} {es : List Ev} (j : Nat), EvT H as es → EvT H (as.take j) (es.take j)
  | _, _, 0, _ => .nil
  | _, _, j + 1, .nil => .nil
  | _, _, j + 1, .cons h t => .cons h (EvT.take j t)
/-- the same, cut short -/
theorem Sit.cut {H H1 : Hp} {t l m : Addr} {xs : List Str} {as : List Addr} {es : List Ev} {sd : List Str} (h : Sit H t l m xs as es sd) (j : Nat) (k : KT H H1) (hl : H1 l = some (.lst ((as.take j).map V.ref))) (hm : H1 m = some (.lst ((sd.take j).map V.str))) :
    Sit H1 t l m xs (as.take j) (es.take j) (sd.take j) :=
  ⟨k _ _ h.t1, hl, hm, (h.ev.kt k).take j, h.laneB, logB_take _ _ _ _ h.logB, by rw [List.length_take, List.length_take, h.len], by
    rw [List.all_eq_true]
    exact fun x hx => List.all_eq_true.mp h.sides x (List.mem_of_mem_take hx), h.few1, by
    rw [List.length_take]
    exact Nat.le_trans (Nat.min_le_right _ _) h.few2⟩
theorem ix3 {r : Int} (h0 : 0 ≤ r) (h3 : r < 3) : ∃ lim : Int, atI [V.int 6, .int 30, .int 160] r = some (.int lim) ∧ 1 ≤ lim ∧ lim ≤ 160 := by
  have : r = 0 ∨ r = 1 ∨ r = 2 := by omega
  rcases this with rfl | rfl | rfl
  · exact ⟨6, atI_nat (j := 0) rfl, by decide, by decide⟩
  · exact ⟨30, atI_nat (j := 1) rfl, by decide, by decide⟩
  · exact ⟨160, atI_nat (j := 2) rfl, by decide, by decide⟩
theorem ix2 {r : Int} (h0 : 0 ≤ r) (h3 : r < 2) : ∃ most : Nat, atI [V.int 8, .int 120] r = some (.int (most : Nat)) ∧ most ≤ 120 := by
  have : r = 0 ∨ r = 1 := by omega
  rcases this with rfl | rfl
  · exact ⟨8, atI_nat (j := 0) rfl, by decide⟩
  · exact ⟨120, atI_nat (j := 1) rfl, by decide⟩
theorem ixLR {r : Int} (h0 : 0 ≤ r) (h3 : r < 2) : ∃ c : Nat, atI ("LR" : Str).cps.toList r = some c ∧ sideB ⟨#[c]⟩ = true := by
  have : r = 0 ∨ r = 1 := by omega
  rcases this with rfl | rfl
  · exact ⟨76, atI_nat (j := 0) rfl, by decide +kernel⟩
  · exact ⟨82, atI_nat (j := 1) rfl, by decide +kernel⟩
theorem cut_drop {xs : List V} {n : Nat} (h : n ≤ xs.length) : cutV xs (some (n : Int)) none = xs.drop n := by
  unfold cutV
  rw [show HT.sIx xs.length 0 (some (n : Int)) = min n xs.length from HT.sIx_nat xs.length 0 n, HT.sIx_none, show min n xs.length = n by omega]
  exact List.take_of_length_le (by rw [List.length_drop]; exact Nat.le_refl _)
end Ln


set_option Elab.async false
set_option linter.all false
set_option maxRecDepth 100000
set_option maxHeartbeats 4000000
namespace Ln
open PySem PySem.Spec PyProof.Rows L2 GxR
/-! ### what histories do -/
abbrev foldR (p : List Str × List Str) (l : List (Ev × Str)) : List Str × List Str := l.foldl stepR p
theorem stepR_gone (x g : List Str) (e : Ev × Str) : stepR (x, g) e = ((stepR (x, []) e).1, g ++ (stepR (x, []) e).2) := by
  obtain ⟨ev, s⟩ := e
  cases ev with
  | inn c => exact Prod.ext rfl (List.append_nil g).symm
  | out =>
    show (if s = "L" then (x.drop 1, g ++ x.take 1) else (x.dropLast, g ++ x.drop (x.length - 1)) : List Str × List Str) = ((if s = "L" then (x.drop 1, [] ++ x.take 1) else (x.dropLast, [] ++ x.drop (x.length - 1)) : List Str × List Str).1, g ++ (if s = "L" then (x.drop 1, [] ++ x.take 1) else (x.dropLast, [] ++ x.drop (x.length - 1)) : List Str × List Str).2)
    split <;> rfl
theorem foldR_gone : ∀ (l : List (Ev × Str)) (x g : List Str), foldR (x, g) l = ((foldR (x, []) l).1, g ++ (foldR (x, []) l).2)
  | [], x, g => Prod.ext rfl (List.append_nil g).symm
  | e :: r, x, g => by
    show foldR (stepR (x, g) e) r = ((foldR (stepR (x, []) e) r).1, g ++ (foldR (stepR (x, []) e) r).2)
    rw [stepR_gone x g e]
    generalize hq : stepR (x, []) e = q
    rw [foldR_gone r q.1 (g ++ q.2), show foldR q r = foldR (q.1, q.2) r from rfl, foldR_gone r q.1 q.2, List.append_assoc]
/-- the end of a history -/
abbrev endR (xs : List Str) (es : List Ev) (sd : List Str) : List Str × List Str := atR xs es sd es.length
theorem endR_fold {xs : List Str} {es : List Ev} {sd : List Str} (h : sd.length = es.length) : endR xs es sd = foldR (xs, []) (es.zip sd) := by
  unfold endR atR
  rw [List.take_of_length_le (by rw [List.length_zip]; omega)]
theorem endR_split {xs : List Str} {es : List Ev} {sd : List Str} (h : sd.length = es.length) (c : Nat) :
    endR xs es sd = ((endR (endR xs (es.take c) (sd.take c)).1 (es.drop c) (sd.drop c)).1, (endR xs (es.take c) (sd.take c)).2 ++ (endR (endR xs (es.take c) (sd.take c)).1 (es.drop c) (sd.drop c)).2) := by
  have h1 : (sd.take c).length = (es.take c).length := by rw [List.length_take, List.length_take, h]
  have h2 : (sd.drop c).length = (es.drop c).length := by rw [List.length_drop, List.length_drop, h]
  rw [endR_fold h, endR_fold h1, endR_fold h2]
  have hz : es.zip sd = (es.take c).zip (sd.take c) ++ (es.drop c).zip (sd.drop c) := by
    rw [← List.zip_append h1.symm, List.take_append_drop, List.take_append_drop]
  rw [hz]
  show (((es.take c).zip (sd.take c)) ++ ((es.drop c).zip (sd.drop c))).foldl stepR (xs, []) = _
  rw [List.foldl_append]
  exact foldR_gone ((es.drop c).zip (sd.drop c)) (foldR (xs, []) ((es.take c).zip (sd.take c))).1 (foldR (xs, []) ((es.take c).zip (sd.take c))).2
/-- nobody is lost -/
theorem stepR_perm (x g : List Str) (e : Ev) (s : Str) : ((stepR (x, g) (e, s)).1 ++ (stepR (x, g) (e, s)).2).Perm ((x ++ g) ++ arrs [e]) := by
  cases e with
  | inn c =>
    show ((if s = "L" then c :: x else x ++ [c]) ++ g).Perm ((x ++ g) ++ [c])
    have h : (c :: (x ++ g)).Perm ((x ++ g) ++ [c]) := (List.perm_append_singleton c (x ++ g)).symm
    split
    · exact h
    · rw [List.append_assoc]
      exact (List.perm_middle (a := c) (l₁ := x) (l₂ := g)).trans h
  | out =>
    show ((if s = "L" then (x.drop 1, g ++ x.take 1) else (x.dropLast, g ++ x.drop (x.length - 1)) : List Str × List Str).1 ++ (if s = "L" then (x.drop 1, g ++ x.take 1) else (x.dropLast, g ++ x.drop (x.length - 1)) : List Str × List Str).2).Perm ((x ++ g) ++ [])
    rw [List.append_nil]
    split
    · show (x.drop 1 ++ (g ++ x.take 1)).Perm (x ++ g)
      rw [← List.append_assoc]
      refine List.perm_append_comm.trans ?_
      rw [← List.append_assoc, List.take_append_drop]
    · show (x.dropLast ++ (g ++ x.drop (x.length - 1))).Perm (x ++ g)
      rw [List.dropLast_eq_take]
      refine (List.Perm.append_left _ List.perm_append_comm).trans ?_
      rw [← List.append_assoc, List.take_append_drop]
theorem foldR_perm : ∀ (l : List (Ev × Str)) (x g : List Str), ((foldR (x, g) l).1 ++ (foldR (x, g) l).2).Perm ((x ++ g) ++ arrs (l.map (·.1)))
  | [], x, g => by
    show (x ++ g).Perm ((x ++ g) ++ [])
    rw [List.append_nil]
  | (e, s) :: r, x, g => by
    have h := foldR_perm r (stepR (x, g) (e, s)).1 (stepR (x, g) (e, s)).2
    refine h.trans ?_
    have h2 := (stepR_perm x g e s).append_right (arrs (r.map (·.1)))
    refine h2.trans ?_
    rw [List.append_assoc, ← arrs_app]
    exact List.Perm.refl _
theorem zip_fst : ∀ (es : List Ev) (sd : List Str), sd.length = es.length → (es.zip sd).map (·.1) = es
  | [], _, _ => by rw [List.zip_nil_left]; rfl
  | e :: r, [], h => by simp at h
  | e :: r, s :: q, h => by
    show e :: (r.zip q).map (·.1) = _
    rw [zip_fst r q (by simpa using h)]
theorem endR_perm {xs : List Str} {es : List Ev} {sd : List Str} (h : sd.length = es.length) : ((endR xs es sd).1 ++ (endR xs es sd).2).Perm (xs ++ arrs es) := by
  rw [endR_fold h]
  have := foldR_perm (es.zip sd) xs []
  rw [List.append_nil, zip_fst es sd h] at this
  exact this
/-! ### logs in pieces -/
theorem logB_sub : ∀ (es : List Ev) (us vs : List Str) (n : Nat), (∀ u ∈ vs, u ∈ us) → logB us n es = true → logB vs n es = true
  | [], _, _, _, _, _ => rfl
  | .inn c :: r, us, vs, n, hs, h => by
    have h : (if carB c = true ∧ ¬ c ∈ us then logB (c :: us) (n + 1) r else false) = true := h
    show (if carB c = true ∧ ¬ c ∈ vs then logB (c :: vs) (n + 1) r else false) = true
    by_cases q : carB c = true ∧ ¬ c ∈ us
    · rw [if_pos q] at h
      rw [if_pos ⟨q.1, fun z => q.2 (hs c z)⟩]
      refine logB_sub r (c :: us) (c :: vs) (n + 1) (fun u hu => ?_) h
      rcases List.mem_cons.mp hu with e | e
      · rw [e]
        exact List.mem_cons_self
      · exact List.mem_cons_of_mem _ (hs u e)
    · rw [if_neg q] at h
      cases h
  | .out :: r, us, vs, n, hs, h => by
    have h : (if 0 < n then logB us (n - 1) r else false) = true := h
    show (if 0 < n then logB vs (n - 1) r else false) = true
    by_cases q : 0 < n
    · rw [if_pos q] at h ⊢
      exact logB_sub r us vs (n - 1) hs h
    · rw [if_neg q] at h
      cases h
/-- how many are present behind a log -/
def cntE : Nat → List Ev → Nat
  | n, [] => n
  | n, .inn _ :: r => cntE (n + 1) r
  | n, .out :: r => cntE (n - 1) r
theorem logB_drop : ∀ (es : List Ev) (us : List Str) (n c : Nat), logB us n es = true → logB (us ++ arrs (es.take c)) (cntE n (es.take c)) (es.drop c) = true
  | es, us, n, 0, h => by
    show logB (us ++ []) n es = true
    rw [List.append_nil]
    exact h
  | [], us, n, c + 1, h => rfl
  | .inn d :: r, us, n, c + 1, h => by
    have h : (if carB d = true ∧ ¬ d ∈ us then logB (d :: us) (n + 1) r else false) = true := h
    by_cases q : carB d = true ∧ ¬ d ∈ us
    · rw [if_pos q] at h
      refine logB_sub _ _ _ _ (fun u hu => ?_) (logB_drop r (d :: us) (n + 1) c h)
      have hu : u ∈ us ++ (d :: arrs (r.take c)) := hu
      rcases List.mem_append.mp hu with e | e
      · exact List.mem_append_left _ (List.mem_cons_of_mem _ e)
      · rcases List.mem_cons.mp e with e | e
        · rw [e]
          exact List.mem_append_left _ List.mem_cons_self
        · exact List.mem_append_right _ e
    · rw [if_neg q] at h
      cases h
  | .out :: r, us, n, c + 1, h => by
    have h : (if 0 < n then logB us (n - 1) r else false) = true := h
    by_cases q : 0 < n
    · rw [if_pos q] at h
      exact logB_drop r us (n - 1) c h
    · rw [if_neg q] at h
      cases h
theorem cnt_len : ∀ (es : List Ev) (us : List Str) (n : Nat) (x g : List Str) (sd : List Str), logB us n es = true → x.length = n → sd.length = es.length → (foldR (x, g) (es.zip sd)).1.length = cntE n es
  | [], _, n, x, g, sd, _, hx, _ => hx
  | e :: r, us, n, x, g, [], _, _, hs => by simp at hs
  | .inn c :: r, us, n, x, g, s :: q, h, hx, hs => by
    have h : (if carB c = true ∧ ¬ c ∈ us then logB (c :: us) (n + 1) r else false) = true := h
    by_cases z : carB c = true ∧ ¬ c ∈ us
    · rw [if_pos z] at h
      refine cnt_len r (c :: us) (n + 1) _ _ q h ?_ (by simpa using hs)
      show (if s = "L" then c :: x else x ++ [c]).length = n + 1
      split
      · rw [List.length_cons, hx]
      · rw [List.length_append, hx]
        rfl
    · rw [if_neg z] at h
      cases h
  | .out :: r, us, n, x, g, s :: q, h, hx, hs => by
    have h : (if 0 < n then logB us (n - 1) r else false) = true := h
    by_cases z : 0 < n
    · rw [if_pos z] at h
      have key : ∀ p : List Str × List Str, p.1.length = n - 1 → (foldR p (r.zip q)).1.length = cntE (n - 1) r := fun p hp => cnt_len r us (n - 1) p.1 p.2 q h hp (by simpa using hs)
      refine key _ ?_
      show (if s = "L" then (x.drop 1, g ++ x.take 1) else (x.dropLast, g ++ x.drop (x.length - 1)) : List Str × List Str).1.length = n - 1
      split
      · show (x.drop 1).length = _
        rw [List.length_drop, hx]
      · show (x.dropLast).length = _
        rw [List.length_dropLast, hx]
    · rw [if_neg z] at h
      cases h
theorem endR_len {xs : List Str} {es : List Ev} {sd : List Str} (hB : logB xs xs.length es = true) (h : sd.length = es.length) : (endR xs es sd).1.length = cntE xs.length es := by
  rw [endR_fold h]
  exact cnt_len es xs _ xs [] sd hB rfl h
theorem endR_lane {xs : List Str} {es : List Ev} {sd : List Str} (h1 : laneB xs = true) (hB : logB xs xs.length es = true) (hn : (xs ++ arrs es).Nodup) (h : sd.length = es.length) : laneB (endR xs es sd).1 = true := by
  have hp := endR_perm (xs := xs) h
  have nd : ((endR xs es sd).1 ++ (endR xs es sd).2).Nodup := hp.nodup_iff.mpr hn
  unfold laneB
  rw [Bool.and_eq_true]
  refine ⟨List.all_eq_true.mpr fun x hx => ?_, decide_eq_true (List.nodup_append.mp nd).1⟩
  have hm := hp.mem_iff.mp (List.mem_append_left _ hx)
  rcases List.mem_append.mp hm with e | e
  · exact carsOf h1 x e
  · exact logB_cars es xs _ hB x e
/-- no car arrives twice -/
theorem logB_nodup : ∀ (es : List Ev) (us : List Str) (n : Nat), logB us n es = true → us.Nodup → (us ++ arrs es).Nodup
  | [], us, n, _, hu => by
    show (us ++ []).Nodup
    rw [List.append_nil]
    exact hu
  | .inn c :: r, us, n, h, hu => by
    have h : (if carB c = true ∧ ¬ c ∈ us then logB (c :: us) (n + 1) r else false) = true := h
    by_cases q : carB c = true ∧ ¬ c ∈ us
    · rw [if_pos q] at h
      have ih := logB_nodup r (c :: us) (n + 1) h (List.nodup_cons.mpr ⟨q.2, hu⟩)
      exact (List.perm_middle (a := c) (l₁ := us) (l₂ := arrs r)).symm.nodup_iff.mp ih
    · rw [if_neg q] at h
      cases h
  | .out :: r, us, n, h, hu => by
    have h : (if 0 < n then logB us (n - 1) r else false) = true := h
    by_cases q : 0 < n
    · rw [if_pos q] at h
      exact logB_nodup r us (n - 1) h hu
    · rw [if_neg q] at h
      cases h
theorem laneB_nodup {xs : List Str} (h : laneB xs = true) : xs.Nodup := by
  unfold laneB at h
  rw [Bool.and_eq_true] at h
  exact of_decide_eq_true h.2
/-- the second piece is a log for the lane that the first piece leaves -/
theorem piece_log {xs : List Str} {es : List Ev} {sd : List Str} (h1 : laneB xs = true) (hB : logB xs xs.length es = true) (h : sd.length = es.length) (c : Nat) :
    logB (endR xs (es.take c) (sd.take c)).1 (endR xs (es.take c) (sd.take c)).1.length (es.drop c) = true := by
  have h2 : (sd.take c).length = (es.take c).length := by rw [List.length_take, List.length_take, h]
  rw [endR_len (logB_take es xs _ c hB) h2]
  refine logB_sub _ _ _ _ (fun u hu => ?_) (logB_drop es xs _ c hB)
  exact (endR_perm h2).mem_iff.mp (List.mem_append_left _ hu)
theorem piece_lane {xs : List Str} {es : List Ev} {sd : List Str} (h1 : laneB xs = true) (hB : logB xs xs.length es = true) (h : sd.length = es.length) (c : Nat) : laneB (endR xs (es.take c) (sd.take c)).1 = true := by
  have hB2 := logB_take es xs _ c hB
  exact endR_lane h1 hB2 (logB_nodup _ _ _ hB2 (laneB_nodup h1)) (by rw [List.length_take, List.length_take, h])
/-! ### numbers of present cars -/
theorem szs_app : ∀ (a b : List Ev) (us : List Str) (n : Nat), logB us n a = true → szs n (a ++ b) = szs n a ++ (szs (cntE n a : Nat) b).drop 1
  | [], b, us, n, _ => by
    show szs n b = [(n : Int)] ++ (szs (n : Nat) b).drop 1
    cases b with
    | nil => rfl
    | cons e r => cases e <;> rfl
  | .inn c :: r, b, us, n, h => by
    have h : (if carB c = true ∧ ¬ c ∈ us then logB (c :: us) (n + 1) r else false) = true := h
    by_cases q : carB c = true ∧ ¬ c ∈ us
    · rw [if_pos q] at h
      have ih := szs_app r b (c :: us) (n + 1) h
      show (n : Int) :: szs ((n : Int) + 1) (r ++ b) = ((n : Int) :: szs ((n : Int) + 1) r) ++ _
      rw [show ((n : Int) + 1) = ((n + 1 : Nat) : Int) by omega, ih]
      rfl
    · rw [if_neg q] at h
      cases h
  | .out :: r, b, us, n, h => by
    have h : (if 0 < n then logB us (n - 1) r else false) = true := h
    by_cases q : 0 < n
    · rw [if_pos q] at h
      have ih := szs_app r b us (n - 1) h
      show (n : Int) :: szs ((n : Int) - 1) (r ++ b) = ((n : Int) :: szs ((n : Int) - 1) r) ++ _
      rw [show ((n : Int) - 1) = ((n - 1 : Nat) : Int) by omega, ih]
      rfl
    · rw [if_neg q] at h
      cases h
theorem szs_split {xs : List Str} {es : List Ev} {sd : List Str} (hB : logB xs xs.length es = true) (h : sd.length = es.length) (c : Nat) :
    szs xs.length (es.take c) ++ (szs (endR xs (es.take c) (sd.take c)).1.length (es.drop c)).drop 1 = szs xs.length es := by
  have h2 : (sd.take c).length = (es.take c).length := by rw [List.length_take, List.length_take, h]
  have := szs_app (es.take c) (es.drop c) xs xs.length (logB_take es xs _ c hB)
  rw [List.take_append_drop] at this
  rw [this, endR_len (logB_take es xs _ c hB) h2]
theorem szs_last {xs : List Str} {es : List Ev} {sd : List Str} (hB : logB xs xs.length es = true) (h : sd.length = es.length) : ∃ q, (szs xs.length es).map V.int = q ++ [V.int ((endR xs es sd).1.length : Nat)] := by
  have := (szs_at (xs := xs) hB h es.length (Nat.le_refl _)).1
  have hl := szs_len xs.length es
  refine ⟨((szs xs.length es).take es.length).map V.int, ?_⟩
  have e : szs xs.length es = (szs xs.length es).take es.length ++ [((endR xs es sd).1.length : Int)] := by
    conv => lhs; rw [← List.take_append_drop es.length (szs xs.length es)]
    congr 1
    have hlt : es.length < (szs xs.length es).length := by omega
    rw [List.drop_eq_getElem_cons hlt, List.drop_of_length_le (by omega)]
    rw [List.getElem?_eq_getElem hlt] at this
    rw [Option.some.inj this]
  conv => lhs; rw [e]
  rw [List.map_append]
  rfl
/-! ### the mirror -/
def flipS (s : Str) : Str := if s = "L" then "R" else "L"
theorem ne_LR : ¬ (("L" : Str) = "R") := by decide +kernel
theorem stepR_flip (x g : List Str) (e : Ev) (s : Str) (hs : sideB s = true) : stepR (x.reverse, g) (e, flipS s) = ((stepR (x, g) (e, s)).1.reverse, (stepR (x, g) (e, s)).2) := by
  have one : x.reverse.drop (x.reverse.length - 1) = x.take 1 := by
    cases x with
    | nil => rfl
    | cons a r => rw [List.reverse_cons, List.length_append, List.length_singleton, Nat.add_sub_cancel, List.drop_left]; rfl
  have one' : x.reverse.take 1 = x.drop (x.length - 1) := by
    rw [List.take_reverse, show x.length - 1 = x.length - 1 from rfl]
    have : (x.drop (x.length - 1)).length ≤ 1 := by
      rw [List.length_drop]
      omega
    match hq : x.drop (x.length - 1), this with
    | [], _ => rfl
    | [a], _ => rfl
  rcases side_cases hs with rfl | rfl
  · have ef : flipS "L" = "R" := if_pos rfl
    rw [ef]
    cases e with
    | inn c =>
      show ((if ("R" : Str) = "L" then c :: x.reverse else x.reverse ++ [c]), g) = ((if ("L" : Str) = "L" then c :: x else x ++ [c]).reverse, g)
      rw [if_neg ne_RL, if_pos rfl, List.reverse_cons]
    | out =>
      show (if ("R" : Str) = "L" then (x.reverse.drop 1, g ++ x.reverse.take 1) else (x.reverse.dropLast, g ++ x.reverse.drop (x.reverse.length - 1)) : List Str × List Str) = ((if ("L" : Str) = "L" then (x.drop 1, g ++ x.take 1) else (x.dropLast, g ++ x.drop (x.length - 1)) : List Str × List Str).1.reverse, (if ("L" : Str) = "L" then (x.drop 1, g ++ x.take 1) else (x.dropLast, g ++ x.drop (x.length - 1)) : List Str × List Str).2)
      rw [if_neg ne_RL, if_pos rfl, one]
      refine Prod.ext ?_ rfl
      show x.reverse.dropLast = (x.drop 1).reverse
      rw [List.dropLast_reverse, List.drop_one]
  · have ef : flipS "R" = "L" := if_neg ne_RL
    rw [ef]
    cases e with
    | inn c =>
      show ((if ("L" : Str) = "L" then c :: x.reverse else x.reverse ++ [c]), g) = ((if ("R" : Str) = "L" then c :: x else x ++ [c]).reverse, g)
      rw [if_neg ne_RL, if_pos rfl, List.reverse_append]
      rfl
    | out =>
      show (if ("L" : Str) = "L" then (x.reverse.drop 1, g ++ x.reverse.take 1) else (x.reverse.dropLast, g ++ x.reverse.drop (x.reverse.length - 1)) : List Str × List Str) = ((if ("R" : Str) = "L" then (x.drop 1, g ++ x.take 1) else (x.dropLast, g ++ x.drop (x.length - 1)) : List Str × List Str).1.reverse, (if ("R" : Str) = "L" then (x.drop 1, g ++ x.take 1) else (x.dropLast, g ++ x.drop (x.length - 1)) : List Str × List Str).2)
      rw [if_neg ne_RL, if_pos rfl, one']
      refine Prod.ext ?_ rfl
      show x.reverse.drop 1 = x.dropLast.reverse
      rw [List.drop_one, List.tail_reverse]
theorem foldR_flip : ∀ (es : List Ev) (sd : List Str) (x g : List Str), sd.all sideB = true → foldR (x.reverse, g) (es.zip (sd.map flipS)) = ((foldR (x, g) (es.zip sd)).1.reverse, (foldR (x, g) (es.zip sd)).2)
  | [], _, x, g, _ => rfl
  | e :: r, [], x, g, _ => rfl
  | e :: r, s :: q, x, g, h => by
    rw [List.all_cons, Bool.and_eq_true] at h
    show foldR (stepR (x.reverse, g) (e, flipS s)) (r.zip (q.map flipS)) = ((foldR (stepR (x, g) (e, s)) (r.zip q)).1.reverse, (foldR (stepR (x, g) (e, s)) (r.zip q)).2)
    rw [stepR_flip x g e s h.1]
    exact foldR_flip r q _ _ h.2
theorem endR_flip {xs : List Str} {es : List Ev} {sd : List Str} (h : sd.length = es.length) (hs : sd.all sideB = true) : endR xs.reverse es (sd.map flipS) = ((endR xs es sd).1.reverse, (endR xs es sd).2) := by
  rw [endR_fold h, endR_fold (by rw [List.length_map]; exact h)]
  exact foldR_flip es sd xs [] hs
theorem flip_side {s : Str} : sideB (flipS s) = true := by
  unfold flipS
  split <;> decide +kernel
theorem laneB_rev {xs : List Str} (h : laneB xs = true) : laneB xs.reverse = true := by
  unfold laneB
  rw [Bool.and_eq_true]
  exact ⟨List.all_eq_true.mpr fun x hx => carsOf h x (List.mem_reverse.mp hx), decide_eq_true ((List.reverse_perm xs).nodup_iff.mpr (laneB_nodup h))⟩
theorem logB_rev {xs : List Str} {es : List Ev} (h : logB xs xs.length es = true) : logB xs.reverse xs.reverse.length es = true := by
  rw [List.length_reverse]
  exact logB_sub _ _ _ _ (fun u hu => List.mem_reverse.mp hu) h
/-! ### other names -/
def Ev.ren (ρ : Str → Str) : Ev → Ev
  | .inn c => .inn (ρ c)
  | .out => .out
theorem stepR_ren (ρ : Str → Str) (x g : List Str) (e : Ev) (s : Str) : stepR (x.map ρ, g.map ρ) (e.ren ρ, s) = ((stepR (x, g) (e, s)).1.map ρ, (stepR (x, g) (e, s)).2.map ρ) := by
  cases e with
  | inn c =>
    show ((if s = "L" then ρ c :: x.map ρ else x.map ρ ++ [ρ c]), g.map ρ) = ((if s = "L" then c :: x else x ++ [c]).map ρ, g.map ρ)
    split
    · rfl
    · rw [List.map_append]
      rfl
  | out =>
    show (if s = "L" then ((x.map ρ).drop 1, g.map ρ ++ (x.map ρ).take 1) else ((x.map ρ).dropLast, g.map ρ ++ (x.map ρ).drop ((x.map ρ).length - 1)) : List Str × List Str) = ((if s = "L" then (x.drop 1, g ++ x.take 1) else (x.dropLast, g ++ x.drop (x.length - 1)) : List Str × List Str).1.map ρ, (if s = "L" then (x.drop 1, g ++ x.take 1) else (x.dropLast, g ++ x.drop (x.length - 1)) : List Str × List Str).2.map ρ)
    split
    · show ((x.map ρ).drop 1, g.map ρ ++ (x.map ρ).take 1) = ((x.drop 1).map ρ, (g ++ x.take 1).map ρ)
      rw [List.map_append, List.map_drop, List.map_take]
    · show ((x.map ρ).dropLast, g.map ρ ++ (x.map ρ).drop ((x.map ρ).length - 1)) = ((x.dropLast).map ρ, (g ++ x.drop (x.length - 1)).map ρ)
      rw [List.map_append, List.map_drop, List.map_dropLast, List.length_map]
theorem foldR_ren (ρ : Str → Str) : ∀ (es : List Ev) (sd : List Str) (x g : List Str), foldR (x.map ρ, g.map ρ) ((es.map (Ev.ren ρ)).zip sd) = ((foldR (x, g) (es.zip sd)).1.map ρ, (foldR (x, g) (es.zip sd)).2.map ρ)
  | [], _, x, g => rfl
  | e :: r, [], x, g => rfl
  | e :: r, s :: q, x, g => by
    show foldR (stepR (x.map ρ, g.map ρ) (e.ren ρ, s)) ((r.map (Ev.ren ρ)).zip q) = _
    rw [stepR_ren]
    exact foldR_ren ρ r q _ _
theorem endR_ren (ρ : Str → Str) {xs : List Str} {es : List Ev} {sd : List Str} (h : sd.length = es.length) : endR (xs.map ρ) (es.map (Ev.ren ρ)) sd = ((endR xs es sd).1.map ρ, (endR xs es sd).2.map ρ) := by
  rw [endR_fold h, endR_fold (by rw [List.length_map]; exact h)]
  exact foldR_ren ρ es sd xs []
theorem arrs_ren (ρ : Str → Str) : ∀ es : List Ev, arrs (es.map (Ev.ren ρ)) = (arrs es).map ρ
  | [] => rfl
  | .inn c :: r => congrArg (ρ c :: ·) (arrs_ren ρ r)
  | .out :: r => arrs_ren ρ r
theorem logB_ren (ρ : Str → Str) : ∀ (es : List Ev) (us : List Str) (n : Nat), (∀ a ∈ us ++ arrs es, carB (ρ a) = true) → (∀ a ∈ us ++ arrs es, ∀ b ∈ us ++ arrs es, ρ a = ρ b → a = b) → logB us n es = true → logB (us.map ρ) n (es.map (Ev.ren ρ)) = true
  | [], _, _, _, _, _ => rfl
  | .inn c :: r, us, n, hc, hi, h => by
    have h : (if carB c = true ∧ ¬ c ∈ us then logB (c :: us) (n + 1) r else false) = true := h
    show (if carB (ρ c) = true ∧ ¬ ρ c ∈ us.map ρ then logB (ρ c :: us.map ρ) (n + 1) (r.map (Ev.ren ρ)) else false) = true
    have cm : c ∈ us ++ arrs (.inn c :: r) := List.mem_append_right _ (show c ∈ c :: arrs r from List.mem_cons_self)
    have sub : ∀ a, a ∈ (c :: us) ++ arrs r → a ∈ us ++ arrs (.inn c :: r) := fun a ha => by
      rcases List.mem_append.mp ha with e | e
      · rcases List.mem_cons.mp e with e | e
        · rw [e]
          exact cm
        · exact List.mem_append_left _ e
      · exact List.mem_append_right _ (show a ∈ c :: arrs r from List.mem_cons_of_mem _ e)
    by_cases q : carB c = true ∧ ¬ c ∈ us
    · rw [if_pos q] at h
      have hno : ¬ ρ c ∈ us.map ρ := fun z => by
        obtain ⟨d, hd, e⟩ := List.mem_map.mp z
        have := hi d (List.mem_append_left _ hd) c cm e
        rw [this] at hd
        exact q.2 hd
      rw [if_pos ⟨hc c cm, hno⟩]
      exact logB_ren ρ r (c :: us) (n + 1) (fun a ha => hc a (sub a ha)) (fun a ha b hb => hi a (sub a ha) b (sub b hb)) h
    · rw [if_neg q] at h
      cases h
  | .out :: r, us, n, hc, hi, h => by
    have h : (if 0 < n then logB us (n - 1) r else false) = true := h
    show (if 0 < n then logB (us.map ρ) (n - 1) (r.map (Ev.ren ρ)) else false) = true
    by_cases q : 0 < n
    · rw [if_pos q] at h ⊢
      exact logB_ren ρ r us (n - 1) hc hi h
    · rw [if_neg q] at h
      cases h
end Ln


set_option Elab.async false
set_option linter.all false
set_option maxRecDepth 100000
set_option maxHeartbeats 4000000
namespace Ln
open PySem PySem.Spec PyProof.Rows L2 GxR
structure Gd (d : PyData) (dep wt : Nat) : Prop where
  lay : d.canLay0 = true
  dep : d.depth ≤ dep
  wt : d.weight ≤ wt
  iss : d.intsShort 13 = true
  sh : d.showable = true
  nd : d.hasDict = false
structure GdA (ds : List PyData) (dep wt : Nat) : Prop where
  lay : PyData.canLayAll0 ds = true
  dep : PyData.depthAll ds ≤ dep
  wt : PyData.weightAll ds ≤ wt
  iss : PyData.intsShortAll 13 ds = true
  sh : PyData.showableAll ds = true
  nd : PyData.hasDictAll ds = false
theorem GdA.nil {dep : Nat} : GdA [] dep 0 := ⟨rfl, Nat.zero_le _, Nat.le_refl _, rfl, rfl, rfl⟩
theorem GdA.cons {d : PyData} {ds : List PyData} {dep w1 w2 : Nat} (a : Gd d dep w1) (b : GdA ds dep w2) : GdA (d :: ds) dep (w1 + 1 + w2) := by
  refine ⟨?_, ?_, ?_, ?_, ?_, ?_⟩
  · rw [PyData.canLayAll0, a.lay, b.lay]
    rfl
  · have := a.dep
    have := b.dep
    rw [PyData.depthAll]
    omega
  · have := a.wt
    have := b.wt
    rw [PyData.weightAll]
    omega
  · rw [PyData.intsShortAll, a.iss, b.iss]
    rfl
  · rw [PyData.showableAll, a.sh, b.sh]
    rfl
  · rw [PyData.hasDictAll, a.nd, b.nd]
    rfl
theorem GdA.list {ds : List PyData} {dep w : Nat} (a : GdA ds dep w) : Gd (.list ds) (dep + 1) w :=
  ⟨by rw [PyData.canLay0]; exact a.lay, by rw [PyData.depth]; exact Nat.succ_le_succ a.dep, by rw [PyData.weight]; exact a.wt, by rw [PyData.intsShort]; exact a.iss, by rw [PyData.showable]; exact a.sh, by rw [PyData.hasDict]; exact a.nd⟩
theorem GdA.tuple {ds : List PyData} {dep w : Nat} (a : GdA ds dep w) : Gd (.tuple ds) (dep + 1) w :=
  ⟨by rw [PyData.canLay0]; exact a.lay, by rw [PyData.depth]; exact Nat.succ_le_succ a.dep, by rw [PyData.weight]; exact a.wt, by rw [PyData.intsShort]; exact a.iss, by rw [PyData.showable]; exact a.sh, by rw [PyData.hasDict]; exact a.nd⟩
theorem Gd.mono {d : PyData} {a b u v : Nat} (h : Gd d a u) (h1 : a ≤ b) (h2 : u ≤ v) : Gd d b v := ⟨h.lay, Nat.le_trans h.dep h1, Nat.le_trans h.wt h2, h.iss, h.sh, h.nd⟩
theorem GdA.map {α : Type} {f : α → PyData} {dep w : Nat} : ∀ (xs : List α), (∀ x ∈ xs, Gd (f x) dep w) → GdA (xs.map f) dep (xs.length * (w + 1))
  | [], _ => by
    rw [List.length_nil, Nat.zero_mul]
    exact .nil
  | x :: r, h => by
    have a := GdA.cons (h x List.mem_cons_self) (GdA.map r fun y hy => h y (List.mem_cons_of_mem _ hy))
    rw [List.length_cons, Nat.succ_mul, Nat.add_comm]
    exact a
theorem Gd.str {x : Str} (h1 : PyData.strOk x = true) (h2 : x.length ≤ 4) : Gd (.str x) 0 4 :=
  ⟨by rw [PyData.canLay0]; exact h1, by rw [PyData.depth]; exact Nat.le_refl _, by rw [PyData.weight]; exact h2, rfl, rfl, rfl⟩
theorem Gd.shaped {d : PyData} {dep w : Nat} (h : Gd d dep w) (hd : dep ≤ 60) : SeqAt.shaped d = true := by
  unfold SeqAt.shaped
  rw [Bool.and_eq_true]
  have := h.dep
  exact ⟨h.lay, decide_eq_true (by omega)⟩
def strD (xs : List Str) : List PyData := xs.map PyData.str
theorem gd_strs {xs : List Str} (h : ∀ x ∈ xs, carB x = true) (hl : xs.length ≤ 1000) : GdA (strD xs) 0 5000 := by
  have a := GdA.map (f := PyData.str) (dep := 0) (w := 4) xs fun x hx => Gd.str (car_ok (h x hx)) (car_len (h x hx))
  exact ⟨a.lay, a.dep, Nat.le_trans a.wt (by omega), a.iss, a.sh, a.nd⟩
theorem lay_ints : ∀ ns : List Int, PyData.canLayAll0 (ns.map PyData.int) = true
  | [] => rfl
  | n :: r => by
    rw [List.map_cons, PyData.canLayAll0, lay_ints r]
    rfl
theorem dep_ints : ∀ ns : List Int, PyData.depthAll (ns.map PyData.int) ≤ 1
  | [] => by rw [List.map_nil, PyData.depthAll]; omega
  | n :: r => by
    have := dep_ints r
    rw [List.map_cons, PyData.depthAll, PyData.depth]
    omega
theorem lay_list {ds : List PyData} (h : PyData.canLayAll0 ds = true) : (PyData.list ds).canLay0 = true := by rw [PyData.canLay0]; exact h
theorem shaped_ints (ns : List Int) : SeqAt.shaped (.list (ns.map PyData.int)) = true := by
  unfold SeqAt.shaped
  rw [Bool.and_eq_true]
  refine ⟨lay_list (lay_ints ns), decide_eq_true ?_⟩
  have := dep_ints ns
  rw [PyData.depth]
  omega
theorem dp_ints {K : PySem.W.Frag} {H : Hp} : ∀ ns : List Int, DpAll K H (ns.map V.int) (ns.map PyData.int)
  | [] => .nil
  | n :: r => .cons (.int n) (dp_ints r)
/-- the lane and the departed cars, as data -/
def dPair (lane gone : List Str) : PyData := .tuple [.tuple (strD lane), .list (strD gone)]
theorem dp_pair {K : PySem.W.Frag} {H : Hp} {p t d : Addr} {lane gone : List Str} (h1 : SqT K H p [.ref t, .ref d]) (h2 : SqT K H t (lane.map V.str)) (h3 : SqL K H d (gone.map V.str)) : Dp K H (.ref p) (dPair lane gone) :=
  .tup h1 (.cons (.tup h2 (dp_strs lane)) (.cons (.lst h3 (dp_strs gone)) .nil))
theorem gd_pair {lane gone : List Str} (h1 : ∀ x ∈ lane, carB x = true) (h2 : ∀ x ∈ gone, carB x = true) (l1 : lane.length ≤ 1000) (l2 : gone.length ≤ 1000) : Gd (dPair lane gone) 3 30000 := by
  have b2 : Gd (.tuple (strD lane)) 2 10000 := (gd_strs h1 l1).tuple.mono (by decide) (by decide)
  have b3 : Gd (.list (strD gone)) 2 10000 := (gd_strs h2 l2).list.mono (by decide) (by decide)
  exact (GdA.tuple (GdA.cons b2 (GdA.cons b3 GdA.nil))).mono (by decide) (by decide)
end Ln


set_option Elab.async false
set_option linter.all false
set_option maxRecDepth 100000
set_option maxHeartbeats 4000000
namespace Ln
open PySem PySem.Spec PyProof.Rows L2
/-! ### t[::-1] of a tuple -/
theorem fmap_some {α β : Type} {f : α → Option β} {g : α → β} : ∀ {xs : List α}, (∀ x ∈ xs, f x = some (g x)) → xs.filterMap f = xs.map g
  | [], _ => rfl
  | x :: r, h => by rw [List.filterMap_cons_some (h x List.mem_cons_self), fmap_some fun y hy => h y (List.mem_cons_of_mem _ hy), List.map_cons]
theorem pick_back (xs : Array Value) : ((List.range xs.size).filterMap fun (m : Nat) => xs[(((xs.size : Nat) : Int) - 1 + (m : Int) * (-1)).toNat]?).toArray = xs.toList.reverse.toArray := by
  congr 1
  have e : ∀ m ∈ List.range xs.size, xs[(((xs.size : Nat) : Int) - 1 + (m : Int) * (-1)).toNat]? = some (xs.toList.reverse.getD m .none) := fun m hm => by
    have hm := List.mem_range.mp hm
    rw [show (((xs.size : Nat) : Int) - 1 + (m : Int) * (-1)).toNat = xs.size - 1 - m by omega, ← Array.getElem?_toList, List.getD_eq_getElem?_getD, List.getElem?_reverse (by rw [Array.length_toList]; exact hm), Array.length_toList]
    have h2 : xs.size - 1 - m < xs.toList.length := by
      rw [Array.length_toList]
      omega
    rw [List.getElem?_eq_getElem h2]
    rfl
  have e2 : (List.range xs.size).filterMap (fun (m : Nat) => xs[(((xs.size : Nat) : Int) - 1 + (m : Int) * (-1)).toNat]?) = (List.range xs.size).map fun m => xs.toList.reverse.getD m .none := by
    exact fmap_some e
  rw [e2]
  refine List.ext_getElem? fun i => ?_
  by_cases h : i < xs.size
  · have h2 : i < xs.toList.reverse.length := by
      rw [List.length_reverse, Array.length_toList]
      exact h
    rw [List.getElem?_map, List.getElem?_range h, List.getElem?_eq_getElem h2]
    show some (xs.toList.reverse.getD i .none) = _
    rw [List.getD_eq_getElem?_getD, List.getElem?_eq_getElem h2]
    rfl
  · rw [List.getElem?_eq_none (by rw [List.length_map, List.length_range]; omega), List.getElem?_eq_none (by rw [List.length_reverse, Array.length_toList]; omega)]
section
variable {prog : Program} {w : World} {A : Around} {E : Value → Shared → Prop} {s : Shared}
theorem places_back (n : Nat) : Builtin.Slice.slicePlaces ((n : Int) - 1) (-1) (-1) = n := by
  unfold Builtin.Slice.slicePlaces
  rw [if_neg (by decide)]
  by_cases h : 0 < n
  · rw [if_pos (by omega), show (-(-1) : Int) = 1 from rfl, Int.ediv_one]
    omega
  · rw [if_neg (by omega)]
    omega
theorem applied_back {sl : Addr} {vs : Value} {n : Nat} {Q : Int × Int × Nat → Shared → Prop} (hs : s.heap.IsSliceOf sl .none .none vs) (ps : IsPart vs (some (-1))) (h : Q ((n : Int) - 1, -1, n) s) : wpAny (model prog w) A (Builtin.Slice.sliceApplied (.ref sl) (pure (n : Int))) Q E s := by
  obtain ⟨os, hos, hcs, hds⟩ := id hs
  unfold Builtin.Slice.sliceApplied Builtin.Slice.sliceFields
  refine wpAny_bind (wpAny_bind (wpAny_field hos hds (x := .none) rfl (wpAny_bind (wpAny_field hos hds (x := .none) rfl (wpAny_bind (wpAny_field hos hds (x := vs) rfl (wpAny_pure ?_)))))))
  refine wpAny_bind (HT.slicePart_ ps ?_)
  show wpAny _ _ (if ((-1 : Int) == 0) = true then _ else _) _ _ s
  rw [if_neg (by decide)]
  refine wpAny_bind (slicePart_none (wpAny_bind (slicePart_none (wpAny_bind (wpAny_pure ?_)))))
  show wpAny _ _ (pure ((n : Int) - 1, (-1 : Int), Builtin.Slice.slicePlaces ((n : Int) - 1) (-1) (-1))) _ _ s
  rw [places_back]
  exact wpAny_pure h
theorem getItem_tuple_back {t sl : Addr} {its : Array Value} {vs : Value} {Q : Value → Shared → Prop} (ht : IsTup s.heap t its) (hs : s.heap.IsSliceOf sl .none .none vs) (ps : IsPart vs (some (-1)))
    (h : Q (.ref s.heap.objs.size) { s with heap := s.heap.push { cls := .type "tuple", data := .seq its.toList.reverse.toArray } }) (hsz : its.size ≤ sizeLine) : wpAny (model prog w) A (getItem (.ref t) (.ref sl)) Q E s := by
  have hk : sizeOk (.seq its.toList.reverse.toArray) := by
    show its.toList.reverse.toArray.size ≤ sizeLine
    rw [List.size_toArray, List.length_reverse, Array.length_toList]
    exact hsz
  obtain ⟨os, hos, hcs, hds⟩ := id hs
  have hTs : s.TypeIs (.ref sl) "slice" := ⟨os, hos, hcs⟩
  unfold getItem
  try with_reducible refine wpAny_holding ?_
  first | refine wpAny_bind (wpAny_pure ?_) | skip
  refine wpAny_bind (wpAny_sequenceKey ht.typeIs (by decide) (wpAny_bind (wpAny_callSpecial?_slot (name := Str.ofString "__getitem__") ht.typeIs PyProof.Rows.slot_tuple_getitem (wpAny_call_entry PyProof.Rows.slot_tuple_getitem ht.typeIs entry_tuple_getitem ?_ (args_tuple_getitem _ _)))))
  show wpAny _ _ (Builtin.Tuple.tupleItemsOf (.ref t) >>= _) _ _ s
  refine wpAny_bind (tupleItemsOf_ ht (wpAny_bind (wpAny_typeOf hTs ?_)))
  rw [if_pos (by decide)]
  refine wpAny_bind (applied_back hs ps ?_)
  have hno : ¬ ((((its.size : Nat) : Int) - 1 == 0 && (-1 : Int) == 1 && its.size == its.size) = true) := fun q => by
    rw [Bool.and_eq_true, Bool.and_eq_true] at q
    exact absurd q.1.2 (by decide)
  show wpAny _ _ (if (((its.size : Nat) : Int) - 1 == 0 && (-1 : Int) == 1 && its.size == its.size) = true then _ else _) _ _ s
  rw [if_neg hno, pick_back]
  first
    | exact wpAny_bind (m := Builtin.Tuple.tupleExact _) (wpAny_newObj_type (wpAny_pure ⟨_, rfl, wpAny_pure h⟩) hk)
    | exact wpAny_bind (m := Builtin.Tuple.tupleExact _) (wpAny_newObj_type (wpAny_bind (wpAny_pure (wpAny_pure ⟨_, rfl, wpAny_pure h⟩))) hk)
    | exact wpAny_bind (wpAny_bind (m := Builtin.Tuple.tupleExact _) (wpAny_newObj_type (wpAny_pure (wpAny_pure ⟨_, rfl, wpAny_pure h⟩)) hk))
    | exact wpAny_bind (wpAny_bind (m := Builtin.Tuple.tupleExact _) (wpAny_newObj_type (wpAny_pure ⟨_, rfl, wpAny_pure h⟩) hk))
end
section
variable {X : Cx}
def tRevT (K : PySem.W.Frag) (te : TE) : TE := fun σ H Q => te σ H fun x H1 => ∃ a xs, x = .ref a ∧ SqT K H1 a xs ∧ ∀ p, H1 p = none → Q (.ref p) (upd H1 p (.tup xs.reverse))
theorem pe_revT {e : Expr} {te : TE} {k : Nat} {p1 p2 p3 pos : Pos} (he : PE X e te) : PE X (.Subscript e (.Slice none none (some (.UnaryOp .USub (.Constant (.int 1) k p1) p2)) p3) pos) (tRevT X.K te) := by
  refine ⟨fun pins s σ H Q I h => Subscript_ (thn (he.run pins s σ H _ I h) fun v s1 ⟨x, H1, I1, r1, q1⟩ => ?_)⟩
  obtain ⟨a, xs, rfl, hx, q⟩ := q1
  cases r1
  have hst : PO X (some (.UnaryOp .USub (.Constant (.int 1) k p1) p2)) (tPart (tUn (rU fun i => .int (-i)) (tC (.int 1)))) := po_some (pe_un un_neg pe_int)
  refine wpAny_Slice ?_
  rw [evalPart_none]
  refine wpAny_pure (wpAny_pure ?_)
  refine thn (hst.run pins s1 σ H1 (fun o H4 => o = some (-1) ∧ H4 = H1) I1 ⟨1, rfl, -1, rfl, rfl, rfl⟩) fun vs s4 ⟨o, H4, I4, ps, eo, e4⟩ => ?_
  subst eo e4
  have I5 : Inv X pins σ H4 { s4 with heap := s4.heap.push { cls := .type "slice", data := .fields #[.none, .none, vs] } } := I4.kept (t' := s4.toks) fun b ob q => Heap.get?_push_of_some _ q
  obtain ⟨its, r, ht, hz⟩ := I5.tuple hx
  show wpAny (model X.prog X.w) X.A (subscriptTail e (.Slice none none (some (.UnaryOp .USub (.Constant (.int 1) k p1) p2)) p3) (.ref a) (.ref s4.heap.objs.size)) (EP X pins σ Q) X.xe { s4 with heap := s4.heap.push { cls := .type "slice", data := .fields #[.none, .none, vs] } }
  refine tail_any (ops := [.ref a, .ref s4.heap.objs.size]) ht.typeIs (PyProof.Rows.slot_tuple_getitem.lookup) ?_ (by with_unfolding_all rfl)
  refine getItem_tuple_back ht (Heap.IsSliceOf.new _ .none .none vs) ps ?_ (by rw [List.size_toArray, ← r.length]; exact hz)
  refine ⟨.ref _, _, I5.laid (t' := s4.toks) (o := .tup xs.reverse) (fun b ob q => Heap.get?_push_of_some _ q) (Nat.le_refl _) ?_, rfl, q _ (I5.hok.fresh (Nat.le_refl _))⟩
  refine ⟨by rw [List.length_reverse]; exact hz, its.reverse, r.reverse, ?_⟩
  exact ⟨_, Heap.get?_push_size _ rfl, rfl, 0, rfl⟩
end
end Ln


set_option Elab.async false
set_option linter.all false
set_option maxRecDepth 100000
set_option maxHeartbeats 4000000
namespace Ln
open PySem PySem.Spec PyProof.Rows L2
/-! ### sorted(xs), texts, any number of them -/
section
variable {prog : Program} {w : World} {A : Around} {s : Shared}
def txtOf : Value → Str
  | .str x _ => x
  | _ => ""
def ltTxt (v u : Value) : Bool := decide ((txtOf v).cps.toList < (txtOf u).cps.toList)
theorem swo_txt : SrtO.Swo ltTxt := by
  refine ⟨fun x y h => ?_, fun x y z h1 h2 => ?_⟩
  · exact decide_eq_false fun z => List.lt_asymm (of_decide_eq_true h) z
  · have a := of_decide_eq_false h1
    have b := of_decide_eq_false h2
    exact decide_eq_false fun q => a (List.lt_of_le_of_lt (List.not_lt.mp b) q)
theorem strs_mem : ∀ {vs : List Value} {ns : List Str}, StrsAre vs ns → ∀ v ∈ vs, ∃ x t, v = Value.str x t
  | _, _, .nil, v, h => absurd h (by simp)
  | _, _, .cons n t r, v, h => by
    rcases List.mem_cons.mp h with e | q
    · exact ⟨n, t, e⟩
    · exact strs_mem r v q
theorem strs_txt : ∀ {vs : List Value}, (∀ v ∈ vs, ∃ x t, v = Value.str x t) → StrsAre vs (vs.map txtOf)
  | [], _ => .nil
  | v :: vs, h => by
    obtain ⟨x, t, rfl⟩ := h v List.mem_cons_self
    exact .cons x t (strs_txt fun u hu => h u (List.mem_cons_of_mem _ hu))
theorem txt_strs : ∀ {vs : List Value} {ns : List Str}, StrsAre vs ns → vs.map txtOf = ns
  | _, _, .nil => rfl
  | _, _, .cons n t r => congrArg (n :: ·) (txt_strs r)
theorem strs_sortable {a : Addr} {vs : List Value} {ns : List Str} (hI : StrsAre vs ns) (h2 : 2 ≤ vs.length) : SrtO.SortableO prog w A s a vs ltTxt := by
  intro h' _
  refine ⟨oneType', fun Q E hq => ?_, fun p q hm hm' => ?_⟩
  · match vs, hI, h2 with
    | v1 :: v2 :: rest, hI, _ =>
      rw [keyKind_strs hI]
      exact wpAny_pure hq
    | [], _, h => exact absurd h (by decide)
    | [v], _, h => exact absurd h (by simp)
  · obtain ⟨x, t, e⟩ := strs_mem hI _ hm
    obtain ⟨y, u, e'⟩ := strs_mem hI _ hm'
    show wpAny (model prog w) A (keyLt' oneType' p.1 q.1) (fun r s' => s' = _ ∧ r = ltTxt p.1 q.1) (fun _ _ => False) _
    rw [e, e', keyLt'_oneType]
    exact oneLt_str ⟨rfl, rfl⟩
end
/-- no text behind is less -/
def upS (ys : List Str) : Prop := ys.Pairwise fun x y => ¬ y.cps.toList < x.cps.toList
def rSortedT (K : PySem.W.Frag) : List V → Hp → VK → Prop := fun vs H Q => ∃ (a : Addr) (xs : List Str), vs = [V.ref a] ∧ SqL K H a (xs.map V.str) ∧ ∀ (ys : List Str) (p : Addr), ys.Perm xs → upS ys → H p = none → Q (.ref p) (upd H p (.lst (ys.map V.str)))
theorem cr_sortedTx {X : Cx} : CallR X (.builtin "sorted") (rSortedT X.K) := by
  intro pins s σ H vs us Q I r h
  obtain ⟨a, ns, rfl, hs, q⟩ := h
  obtain ⟨its, rv, hl, hz⟩ := I.list hs
  rw [Vals.ref1 r]
  have hi := rv.strs
  refine SrtO.sorted_ord swo_txt hl.isList (by rw [← rv.length]; exact hz) (fun h2 h₁ a' _ _ => strs_sortable hi h2) fun out h1 h2 => ?_
  have k1 : StrsAre out (out.map txtOf) := strs_txt fun v hv => strs_mem hi v (h2.perm.mem_iff.mp hv)
  have k2 : (out.map txtOf).Perm ns := by
    have q := h2.perm.map txtOf
    rw [txt_strs hi] at q
    exact q
  have k3 : upS (out.map txtOf) := List.pairwise_map.mpr (h1.imp fun {x y} h => of_decide_eq_false h)
  obtain ⟨ep, hp⟩ := PyProof.Rows.sortedAll_at s.heap its out.toArray
  have hn : ((out.map txtOf).map V.str).length ≤ sizeLine := by
    rw [List.length_map, k2.length_eq]
    rw [List.length_map] at hz
    exact hz
  exact ⟨.ref _, upd H (s.heap.objs.size + 1) (.lst ((out.map txtOf).map V.str)), I.laid (t' := s.toks) (fun _ _ => PyProof.Rows.sortedAll_old) (Nat.le_succ _) ⟨hn, out, ep, vals_of_strs k1, hp⟩, rfl, q _ _ k2 k3 (I.hok.fresh (Nat.le_succ _))⟩
theorem upS_eq : ∀ {xs ys : List Str}, xs.Perm ys → upS xs → upS ys → xs = ys := by
  intro xs ys h h1 h2
  refine List.Perm.eq_of_pairwise ?_ h1 h2 h
  intro a b _ _ h3 h4
  have e := List.le_antisymm (List.not_lt.mp h4) (List.not_lt.mp h3)
  cases a
  cases b
  exact (congrArg Str.mk (Array.toList_inj.mp e)).symm
end Ln


set_option Elab.async false
set_option linter.all false
set_option maxRecDepth 100000
set_option maxHeartbeats 4000000
namespace Ln
open PySem PySem.Spec PyProof.Rows
/-! ### list(zip(a, b)) of two lists -/
theorem zip_no_len : typeLookup (.type "zip") "__len__" = pure none := by rw [typeLookup_type, builtinLookup_eq_fast]; kernel_rfl
theorem zip_no_hint : typeLookup (.type "zip") "__length_hint__" = pure none := by rw [typeLookup_type, builtinLookup_eq_fast]; kernel_rfl
/-- the zip at N + 4 behind i turns -/
structure ZlSt (N l1 l2 : Addr) (xs ys : Array Value) (h : Heap) (i : Nat) : Prop where
  ti : IsPair h (N + 2) (.ref N) (.ref (N + 1))
  i1 : h.IsListIter N l1 i
  i2 : h.IsListIter (N + 1) l2 i
  a1 : h.IsList l1 xs
  a2 : h.IsList l2 ys
  zp : (IsZip h (N + 4) (N + 2) (N + 3) .none ∧ ∃ a b, IsPair h (N + 3) a b) ∨ ∃ (T : Nat) (f : Bool) (oT : Obj), IsZipHeld h (N + 4) (N + 2) (N + 3) T f ∧ h.get? T = some oT ∧ N + 5 < T
/-- the pairs that were handed out -/
structure ZlG (N : Addr) (xs ys : Array Value) (h : Heap) (as : List Addr) : Prop where
  rise : as.Pairwise (· < ·)
  above : ∀ a ∈ as, (N + 5 : Nat) < a
  pairs : ∀ (j : Nat) (a : Addr), as[j]? = some a → ∃ x y, xs[j]? = some x ∧ ys[j]? = some y ∧ h.get? a = some { cls := .type "tuple", data := .seq #[x, y] }
theorem ZlG.lt {N : Addr} {xs ys : Array Value} {h : Heap} {as : List Addr} (g : ZlG N xs ys h as) {a : Addr} (ha : a ∈ as) : a < h.objs.size := by
  obtain ⟨j, hj⟩ := List.mem_iff_getElem?.mp ha
  obtain ⟨_, _, _, _, e⟩ := g.pairs j a hj
  exact Heap.lt_size e
section
variable {prog : Program} {w : World} {A : Around} {E : Value → Shared → Prop} {s : Shared} {R : Result → Shared → Prop} {N l1 l2 : Nat} {xs ys : Array Value}
theorem ZlSt.up {h h' : Heap} {i : Nat} (q1 : l1 < N) (q2 : l2 < N) (st : ZlSt N l1 l2 xs ys h i) (k : ∀ b o, b ≠ (N + 5 : Nat) → h.get? b = some o → h'.get? b = some o) : ZlSt N l1 l2 xs ys h' i := by
  have k' : ∀ b o, (b : Nat) < N + 5 → h.get? b = some o → h'.get? b = some o := fun b o hb e => k b o (Nat.ne_of_lt hb) e
  refine ⟨k' _ _ (by omega) st.ti, st.i1.at fun o e => k' _ o (by omega) e, st.i2.at fun o e => k' _ o (by omega) e, st.a1.at fun o e => k' _ o (by omega) e, st.a2.at fun o e => k' _ o (by omega) e, ?_⟩
  rcases st.zp with ⟨z, a, b, t⟩ | ⟨T, f, oT, z, t, hT⟩
  · exact .inl ⟨k' _ _ (by omega) z, a, b, k' _ _ (by omega) t⟩
  · exact .inr ⟨T, f, oT, k' _ _ (by omega) z, k _ _ (Nat.ne_of_gt hT) t, hT⟩
theorem zl_item (q1 : l1 < N) (q2 : l2 < N) {i : Nat} {x y : Value} {Q : Option Value → Shared → Prop} (st : ZlSt N l1 l2 xs ys s.heap i) (hN : N + 5 < s.heap.objs.size) (hx : xs[i]? = some x) (hy : ys[i]? = some y)
    (hQ : ∀ h', ZlSt N l1 l2 xs ys h' (i + 1) → h'.get? s.heap.objs.size = some { cls := .type "tuple", data := .seq #[x, y] } → (∀ b o, (b : Nat) < N ∨ N + 5 ≤ b → s.heap.get? b = some o → h'.get? b = some o) → Q (some (.ref s.heap.objs.size)) { s with heap := h' }) :
    wpAny (model prog w) A (pyNext (.ref (N + 4 : Nat))) Q E s := by
  have D : ZipApart (N + 4) (N + 2) (N + 3) N (N + 1) l1 l2 := PySem.W.ktu_apart _ _ _ q1 q2
  have fin : ∀ h', h'.IsListIter N l1 (i + 1) → h'.IsListIter (N + 1) l2 (i + 1) → (∀ b o, (b : Nat) ≠ N + 4 → b ≠ N + 3 → b ≠ N → b ≠ N + 1 → s.heap.get? b = some o → h'.get? b = some o) → (∃ (T : Nat) (f : Bool) (oT : Obj), IsZipHeld h' (N + 4) (N + 2) (N + 3) T f ∧ h'.get? T = some oT ∧ N + 5 < T) → ZlSt N l1 l2 xs ys h' (i + 1) := fun h' a3 a4 hk hz =>
    ⟨hk _ _ (by omega) (by omega) (by omega) (by omega) st.ti, a3, a4, st.a1.at fun o e => hk _ o (by omega) (by omega) (by omega) (by omega) e, st.a2.at fun o e => hk _ o (by omega) (by omega) (by omega) (by omega) e, .inr hz⟩
  rcases st.zp with ⟨hz, a, b, hTO⟩ | ⟨T, f, oT, hz, hT, hTN⟩
  · refine wpAny_pyNext_zip_item D hz st.ti hTO st.i1 st.i2 st.a1 st.a2 hx hy fun h' a1 a2 a3 a4 a5 a6 hk => ?_
    have hk' : ∀ b o, (b : Nat) ≠ N + 4 → b ≠ N + 3 → b ≠ N → b ≠ N + 1 → s.heap.get? b = some o → h'.get? b = some o := fun b o c1 c2 c3 c4 e => hk b o c1 c2 c3 c4 e
    exact hQ h' (fin h' a3 a4 hk' ⟨s.heap.objs.size, false, _, a1, a5, hN⟩) a5 fun b o hb e => hk' b o (by omega) (by omega) (by omega) (by omega) e
  · have hTN' : (N : Nat) + 5 < (T : Nat) := hTN
    refine wpAny_pyNext_zip_item_held D hz hT st.ti st.i1 st.i2 st.a1 st.a2 hx hy fun h' a1 a3 a4 a5 a6 hk => ?_
    have hk' : ∀ b o, (b : Nat) ≠ N + 4 → b ≠ N + 3 → b ≠ N → b ≠ N + 1 → s.heap.get? b = some o → h'.get? b = some o := fun b o c1 c2 c3 c4 e => hk b o c1 c3 c4 e
    exact hQ h' (fin h' a3 a4 hk' ⟨T, true, oT, a1, hk' T _ (by omega) (by omega) (by omega) (by omega) hT, hTN⟩) a5 fun b o hb e => hk' b o (by omega) (by omega) (by omega) (by omega) e
theorem zl_end (hh : A.handled = none) (q1 : l1 < N) (q2 : l2 < N) {i : Nat} {Q : Option Value → Shared → Prop} (st : ZlSt N l1 l2 xs ys s.heap i) (hi : xs.size ≤ i)
    (hQ : ∀ h', (∀ b o, (b : Nat) < N ∨ N + 5 ≤ b → s.heap.get? b = some o → h'.get? b = some o) → Q none { s with heap := h' }) : wpAny (model prog w) A (pyNext (.ref (N + 4 : Nat))) Q E s := by
  have D : ZipApart (N + 4) (N + 2) (N + 3) N (N + 1) l1 l2 := PySem.W.ktu_apart _ _ _ q1 q2
  have hend : xs[i]? = none ∨ ys[i]? = none := .inl (Array.getElem?_eq_none hi)
  rcases st.zp with ⟨hz, a, b, hTO⟩ | ⟨T, f, oT, hz, hT, hTN⟩
  · exact wpAny_pyNext_zip_end hh D hz st.ti hTO st.i1 st.i2 st.a1 st.a2 hend fun h' hk => hQ h' fun b o hb e => hk b o (show (b : Nat) ≠ N + 4 by omega) (show (b : Nat) ≠ N + 3 by omega) (show (b : Nat) ≠ N by omega) (show (b : Nat) ≠ N + 1 by omega) e
  · exact wpAny_pyNext_zip_end_held hh D hz hT st.ti st.i1 st.i2 st.a1 st.a2 hend fun h' hk => hQ h' fun b o hb e => hk b o (show (b : Nat) ≠ N + 4 by omega) (show (b : Nat) ≠ N by omega) (show (b : Nat) ≠ N + 1 by omega) e
/-- list.extend's own loop over it, the list at N + 5 -/
theorem zl_loop (hh : A.handled = none) (q1 : l1 < N) (q2 : l2 < N) (hxy : xs.size = ys.size) (hn : xs.size ≤ sizeLine) (res : Value) {h₁ : Heap}
    (hR : ∀ h' acc c as, (∀ b o, (b : Nat) < N → h₁.get? b = some o → h'.get? b = some o) → h'.get? (N + 5 : Nat) = some { cls := .type "list", dict := none, data := .seq acc c, slots := #[] } → as.length = xs.size → ZlG N xs ys h' as → acc.toList = as.map Value.ref → R (.ok (.ret res)) { s with heap := h' }) :
    ∀ (k i : Nat) (h : Heap) (c : Nat) (acc : Array Value) (as : List Addr), xs.size - i = k → i ≤ xs.size → ZlSt N l1 l2 xs ys h i → (∀ b o, (b : Nat) < N → h₁.get? b = some o → h.get? b = some o) →
      h.get? (N + 5 : Nat) = some { cls := .type "list", dict := none, data := .seq acc c, slots := #[] } → acc.toList = as.map Value.ref → as.length = i → ZlG N xs ys h as →
      codeAny (model prog w) A (.builtin "list.extend.loop" ⟨[.ref (N + 5 : Nat), .ref (N + 4 : Nat), res], []⟩) R { s with heap := h } := by
  intro k
  induction k with
  | zero =>
    intro i h c acc as hk hi st hkeep hS hacc hal hG
    refine codeAny_builtin PySem.F.entry_extend_loop ?_
    rw [Around.under_plainId PySem.F.plain_extend_loop _]
    show wpAny _ A.in1 (pyNext (.ref (N + 4 : Nat)) >>= _) _ _ _
    refine wpAny_bind (zl_end (s := { s with heap := h }) (A := A.in1) hh q1 q2 st (by omega) fun h' he => ?_)
    refine wpAny_pure (hR h' acc c as (fun b o h1 e => he b o (.inl h1) (hkeep b o h1 e)) (he _ _ (.inr (Nat.le_refl _)) hS) (by omega) ⟨hG.rise, hG.above, fun j a hj => ?_⟩ hacc)
    obtain ⟨x, y, e1, e2, e3⟩ := hG.pairs j a hj
    exact ⟨x, y, e1, e2, he a _ (.inr (Nat.le_of_lt (hG.above a (List.mem_of_getElem? hj)))) e3⟩
  | succ k ih =>
    intro i h c acc as hk hi st hkeep hS hacc hal hG
    have hlt : i < xs.size := by omega
    have hx : xs[i]? = some xs[i] := Array.getElem?_eq_getElem hlt
    have hlt2 : i < ys.size := by omega
    have hy : ys[i]? = some ys[i] := Array.getElem?_eq_getElem hlt2
    have hsz : acc.size = i := by rw [← Array.length_toList, hacc, List.length_map, hal]
    have hSl : (N + 5 : Nat) < h.objs.size := Heap.lt_size hS
    refine codeAny_builtin PySem.F.entry_extend_loop ?_
    rw [Around.under_plainId PySem.F.plain_extend_loop _]
    show wpAny _ A.in1 (pyNext (.ref (N + 4 : Nat)) >>= _) _ _ _
    refine wpAny_bind (zl_item (s := { s with heap := h }) q1 q2 st hSl hx hy fun h' st' ht hkp => ?_)
    dsimp only at ht hkp ⊢
    have hS' := hkp _ _ (.inr (Nat.le_refl _)) hS
    have up : ∀ b o, b ≠ (N + 5 : Nat) → h'.get? b = some o → (h'.update (N + 5 : Nat) (Obj.mapSeq (·.push (Value.ref h.objs.size)))).get? b = some o := fun b o hb e => (Heap.get?_update_other _ _ (Ne.symm hb)).trans e
    show wpAny _ A.in1 (updateSeq (N + 5 : Nat) (·.push (Value.ref h.objs.size)) >>= _) _ _ _
    refine wpAny_bind (wpAny_updateSeq hS' rfl (wpAny_pure ⟨plainId_quiet PySem.F.plain_extend_loop _, ih (i + 1) _ _ (acc.push (Value.ref h.objs.size)) (as ++ [h.objs.size]) (by omega) hlt (st'.up q1 q2 up)
      (fun b o h1 e => up b o (Nat.ne_of_lt (by omega)) (hkp b o (.inl h1) (hkeep b o h1 e))) (Heap.get?_update_self _ hS' rfl) (by rw [Array.toList_push, hacc, List.map_append]; rfl) (by rw [List.length_append, hal]; rfl) ⟨?_, ?_, ?_⟩⟩) (by rw [hsz]; omega) (by show (acc.push (Value.ref h.objs.size)).size ≤ sizeLine + 1; rw [Array.size_push, hsz]; omega))
    · refine List.pairwise_append.mpr ⟨hG.rise, List.pairwise_singleton _ _, fun a ha b hb => ?_⟩
      rw [List.mem_singleton.mp hb]
      exact hG.lt ha
    · intro a ha
      rcases List.mem_append.mp ha with ha | ha
      · exact hG.above a ha
      · rw [List.mem_singleton.mp ha]
        exact hSl
    · intro j b hj
      rcases Nat.lt_trichotomy j as.length with h1 | h1 | h1
      · rw [List.getElem?_append_left h1] at hj
        obtain ⟨x, y, e1, e2, e3⟩ := hG.pairs j b hj
        have hb := hG.above b (List.mem_of_getElem? hj)
        exact ⟨x, y, e1, e2, up b _ (Nat.ne_of_gt hb) (hkp b _ (.inr (Nat.le_of_lt hb)) e3)⟩
      · subst h1
        have hb : h.objs.size = b := by simpa using hj
        subst hb
        exact ⟨_, _, by rw [hal]; exact hx, by rw [hal]; exact hy, up _ _ (Nat.ne_of_gt hSl) ht⟩
      · rw [List.getElem?_eq_none (by rw [List.length_append, List.length_singleton]; omega)] at hj
        cases hj
theorem zl_extend (hh : A.handled = none) (q1 : l1 < N) (q2 : l2 < N) (hxy : xs.size = ys.size) (hn : xs.size ≤ sizeLine) (st : ZlSt N l1 l2 xs ys s.heap 0) (hz : IsZip s.heap (N + 4) (N + 2) (N + 3) .none) (res : Value) (c₀ : Nat)
    (hS : s.heap.get? (N + 5 : Nat) = some { cls := .type "list", data := .seq #[] c₀ })
    (hR : ∀ h' acc c as, (∀ b o, (b : Nat) < N → s.heap.get? b = some o → h'.get? b = some o) → h'.get? (N + 5 : Nat) = some { cls := .type "list", dict := none, data := .seq acc c, slots := #[] } → as.length = xs.size → ZlG N xs ys h' as → acc.toList = as.map Value.ref → R (.ok (.ret res)) { s with heap := h' }) :
    wpAny (model prog w) A.in1 (Builtin.List.listExtendWith (.ref (N + 5 : Nat)) (.ref (N + 4 : Nat)) res)
      (fun fin s' => match fin with | .done f => R (.ok f) s' | .again c' => c'.quiet = true ∧ codeAny (model prog w) A c' R s') (fun e s' => R (.error e) s') s := by
  have hT : s.TypeIs (.ref (N + 4 : Nat)) "zip" := ⟨_, hz, rfl⟩
  unfold Builtin.List.listExtendWith
  refine wpAny_bind (wpAny_typeOf hT ?_)
  have h1 : Builtin.List.listSameRef (.ref (N + 5 : Nat)) (.ref (N + 4 : Nat)) = false := by
    unfold Builtin.List.listSameRef
    exact beq_eq_false_iff_ne.mpr (show (N + 5 : Nat) ≠ N + 4 by omega)
  have h2 : (Value.type "zip" == Value.type "list") = false := by decide
  have h3 : (Value.type "zip" == Value.type "tuple") = false := by decide
  simp only [h1, h2, h3, Bool.or_false, Bool.false_eq_true, if_false]
  refine wpAny_bind (wpAny_pyIter_zip hz (wpAny_bind (wpAny_holding ?_)))
  unfold Builtin.List.listLengthHint
  refine wpAny_bind (wpAny_specialOf hT zip_no_len ?_)
  show wpAny _ A.in1 (specialOf (Value.ref (N + 4 : Nat)) (Str.ofString "__length_hint__") >>= _) _ _ _
  refine wpAny_bind (wpAny_specialOf hT zip_no_hint (wpAny_pure ?_))
  show wpAny _ A.in1 (rule "list.extend.makes-room" >>= fun _ => Builtin.List.listTouch (.ref (N + 5 : Nat)) >>= fun _ => again (.builtin "list.extend.loop" ⟨[.ref (N + 5 : Nat), .ref (N + 4 : Nat), res], []⟩)) _ _ _
  refine wpAny_bind (wpAny_rule (wpAny_bind ?_))
  show wpAny _ A.in1 (updateSeq (N + 5 : Nat) (·.push .none) >>= fun _ => updateSeq (N + 5 : Nat) (·.pop)) _ _ _
  refine wpAny_bind (wpAny_updateSeq hS rfl ?_)
  have hS₂ := Heap.get?_update_self (Obj.mapSeq (·.push Value.none)) hS rfl
  refine wpAny_updateSeq (hz := by seq_fits) hS₂ rfl ?_
  have hS₃ := Heap.get?_update_self (Obj.mapSeq (·.pop)) hS₂ rfl
  have oth : ∀ b o, b ≠ (N + 5 : Nat) → s.heap.get? b = some o → ((s.heap.update (N + 5 : Nat) (Obj.mapSeq (·.push Value.none))).update (N + 5 : Nat) (Obj.mapSeq (·.pop))).get? b = some o := fun b o hb e => (Heap.get?_update_other _ _ (Ne.symm hb)).trans ((Heap.get?_update_other _ _ (Ne.symm hb)).trans e)
  exact wpAny_pure ⟨plainId_quiet PySem.F.plain_extend_loop _, zl_loop (s := s) (h₁ := s.heap) hh q1 q2 hxy hn res hR xs.size 0 _ _ #[] [] (Nat.sub_zero _) (Nat.zero_le _) (st.up q1 q2 oth) (fun b o hb e => oth b o (Nat.ne_of_lt (by omega)) e) hS₃ rfl rfl ⟨List.Pairwise.nil, (fun _ ha => nomatch ha), (fun j a hj => by simp at hj)⟩⟩
theorem zl_call {Q : Value → Shared → Prop} (hh : A.handled = none) (q1 : l1 < N) (q2 : l2 < N) (hxy : xs.size = ys.size) (hn : xs.size ≤ sizeLine) (st : ZlSt N l1 l2 xs ys s.heap 0) (hz : IsZip s.heap (N + 4) (N + 2) (N + 3) .none) (hs : s.heap.objs.size = N + 5)
    (hQ : ∀ h' acc c as, (∀ b o, (b : Nat) < N → s.heap.get? b = some o → h'.get? b = some o) → h'.get? (N + 5 : Nat) = some { cls := .type "list", dict := none, data := .seq acc c, slots := #[] } → as.length = xs.size → ZlG N xs ys h' as → acc.toList = as.map Value.ref → Q (.ref (N + 5 : Nat)) { s with heap := h' }) :
    wpAny (model prog w) A (call (.type "list") [.ref (N + 4 : Nat)]) Q E s := by
  refine callType_codes (Q₁ := fun obj s₁ => obj = .ref s.heap.objs.size ∧ s₁ = { s with heap := s.heap.push { cls := .type "list", data := .seq #[] } }) PySem.F.called_list (PySem.F.typeCall_list_1 _) PySem.F.entry_list_init (code_list_new _ ⟨rfl, rfl⟩) fun obj s₁ h₁ => ?_
  obtain ⟨rfl, rfl⟩ := h₁
  have hS : (s.heap.push { cls := .type "list", data := .seq #[] }).get? s.heap.objs.size = some { cls := .type "list", data := .seq #[] } := Heap.get?_push_size _ rfl
  refine ⟨⟨_, hS, rfl⟩, PySem.F.args_list_init_2 _ _, ?_⟩
  rw [hs] at hS ⊢
  have gk : ∀ b o, s.heap.get? b = some o → (s.heap.push { cls := .type "list", data := .seq #[] }).get? b = some o := fun b o e => Heap.get?_push_of_some _ e
  show wpAny _ _ (do let old ← Builtin.List.listItems (.ref (N + 5 : Nat)); Builtin.List.listUpdate (.ref (N + 5 : Nat)) (fun _ => #[]); letGo old.toList.reverse; Builtin.List.listExtendWith (.ref (N + 5 : Nat)) (.ref (N + 4 : Nat)) .none) _ _ _
  refine wpAny_bind ?_
  unfold Builtin.List.listItems
  refine wpAny_bind (wpAny_seqItems hS rfl (wpAny_pure ?_))
  show wpAny _ _ (updateSeq (N + 5 : Nat) (fun _ => #[]) >>= fun _ => letGo (#[] : Array Value).toList.reverse >>= fun _ => Builtin.List.listExtendWith (.ref (N + 5 : Nat)) (.ref (N + 4 : Nat)) .none) _ _ _
  refine wpAny_bind (wpAny_updateSeq hS rfl ?_)
  have hS₂ := Heap.get?_update_self (Obj.mapSeq (fun _ => (#[] : Array Value))) hS rfl
  have oth : ∀ b o, b ≠ (N + 5 : Nat) → s.heap.get? b = some o → ((s.heap.push { cls := .type "list", data := .seq #[] }).update (N + 5 : Nat) (Obj.mapSeq (fun _ => (#[] : Array Value)))).get? b = some o := fun b o hb e => (Heap.get?_update_other _ _ (Ne.symm hb)).trans (gk b o e)
  refine wpAny_bind (wpAny_letGo ?_)
  refine zl_extend (A := A.in1) (s := { s with heap := (s.heap.push { cls := .type "list", data := .seq #[] }).update (N + 5 : Nat) (Obj.mapSeq (fun _ => (#[] : Array Value))) }) hh q1 q2 hxy hn (st.up q1 q2 oth) (oth _ _ (show (N + 4 : Nat) ≠ N + 5 by omega) hz) .none _ hS₂ fun h' acc c as hk hS' hl hG hacc => ?_
  exact ⟨rfl, hQ h' acc c as (fun b o hb e => hk b o hb (oth b o (Nat.ne_of_lt (by omega)) e)) hS' hl hG hacc⟩
end
section
open L2 LiI
variable {X : Cx}
theorem zl_laid {pins : List (Addr × Obj)} {σ : L2.St} {H : Hp} {s : Shared} {h' : Heap} {kvs : List (L2.Key × V)} {us ws : List Value} {acc : Array Value} {c : Nat} {as : List Addr} (I : L2.Inv X pins σ H s) (hz : kvs.length ≤ sizeLine) (rk : L2.Vals (kvs.map fun q => kV q.1) us) (rw' : L2.Vals (kvs.map (·.2)) ws)
    (hk : ∀ b o, (b : Nat) < s.heap.objs.size → s.heap.get? b = some o → h'.get? b = some o) (hS : h'.get? (s.heap.objs.size + 5 : Nat) = some { cls := .type "list", dict := none, data := .seq acc c, slots := #[] }) (hl : as.length = kvs.length) (hG : ZlG s.heap.objs.size us.toArray ws.toArray h' as) (hacc : acc.toList = as.map Value.ref) :
    ∃ H' : Hp, (∀ b o, H b = some o → H' b = some o) ∧ H (s.heap.objs.size + 5 : Nat) = none ∧ (∀ t ∈ as, H t = none) ∧ (s.heap.objs.size + 5 : Nat) ∉ as ∧ H' (s.heap.objs.size + 5 : Nat) = some (.lst (as.map V.ref)) ∧ Paired (fun (t : Addr) (q : L2.Key × V) => H' t = some (.tup [kV q.1, q.2])) as kvs ∧ L2.Inv X pins σ H' { s with heap := h' } := by
  generalize hSS : (s.heap.objs.size + 5 : Nat) = S at *
  have hSge : (s.heap.objs.size : Nat) ≤ S := by omega
  have above : ∀ a ∈ as, (S : Nat) < a := fun a ha => by
    have := hG.above a ha
    rw [← hSS]
    exact this
  have hSn : (S : Addr) ∉ as := fun z => Nat.lt_irrefl _ (above _ z)
  have nd : as.Nodup := List.Pairwise.imp (fun {a b} (h : a < b) => Nat.ne_of_lt h) hG.rise
  have new : ∀ t ∈ as, H t = none := fun t ht => I.hok.fresh (Nat.le_trans hSge (Nat.le_of_lt (above t ht)))
  have newS : H (S : Addr) = none := I.hok.fresh hSge
  have atP := putT_at as kvs (L2.upd H S (.lst (as.map V.ref))) hl nd
  have off : ∀ b, b ∉ as → b ≠ S → putT (L2.upd H S (.lst (as.map V.ref))) as kvs b = H b := fun b h1 h2 => by rw [putT_off as kvs _ h1, upd_ne h2]
  have low : ∀ b o, s.heap.get? b = some o → b ∉ as ∧ b ≠ S := fun b o e => ⟨fun z => absurd (Heap.lt_size e) (Nat.not_lt.mpr (Nat.le_trans hSge (Nat.le_of_lt (above b z)))), Nat.ne_of_lt (Nat.lt_of_lt_of_le (Heap.lt_size e) hSge)⟩
  have hk2 : ∀ b o, s.heap.get? b = some o → h'.get? b = some o := fun b o e => hk b o (Heap.lt_size e) e
  have kp : ∀ b u, H b = some u → (putT (L2.upd H S (.lst (as.map V.ref))) as kvs) b = some u := fun b u e => by
    rw [off b (fun z => by rw [new b z] at e; cases e) (fun z => by rw [z, newS] at e; cases e)]
    exact e
  have eS : putT (L2.upd H S (.lst (as.map V.ref))) as kvs S = some (.lst (as.map V.ref)) := by rw [putT_off as kvs _ hSn, upd_same]
  refine ⟨putT (L2.upd H S (.lst (as.map V.ref))) as kvs, kp, newS, new, hSn, eS, atP, ?_⟩
  refine I.call' (ch := []) rfl ⟨fun b o q _ _ _ => hk2 b o q, fun b o q _ _ _ => ⟨o.slots, hk2 b o q⟩, fun b o q n _ => ?_, fun b o q _ => ⟨o, hk2 b o q⟩, fun b xs q => kp b _ q, fun b o u q => kp b _ q, fun b ps q => ⟨#[], by rw [kp b _ q]; simp⟩⟩ (fun b u q => ?_) I.bare fun b z => by simp at z
  · obtain ⟨z1, z2⟩ := low b o q
    rw [off b z1 z2]
    exact n
  · by_cases hb : b ∈ as
    · obtain ⟨j, pk, e1, e2, e3⟩ := paired_ix atP hb
      rw [e3] at q
      obtain rfl := Option.some.inj q
      obtain ⟨x, y, f1, f2, f3⟩ := hG.pairs j b e1
      obtain ⟨u1, g1, r1⟩ := paired_get rk (i := j) (x := kV pk.1) (by rw [List.getElem?_map, e2]; rfl)
      obtain ⟨u2, g2, r2⟩ := paired_get rw' (i := j) (x := pk.2) (by rw [List.getElem?_map, e2]; rfl)
      have x1 : us[j]? = some x := by simpa using f1
      have x2 : ws[j]? = some y := by simpa using f2
      rw [x1] at g1
      rw [x2] at g2
      obtain rfl := Option.some.inj g1
      obtain rfl := Option.some.inj g2
      exact ⟨by show 2 ≤ sizeLine; decide, [x, y], .cons r1 (.cons r2 .nil), ⟨_, f3, rfl, _, rfl⟩⟩
    · by_cases hb2 : b = S
      · rw [hb2, eS] at q
        obtain rfl := Option.some.inj q
        rw [hb2]
        refine ⟨by rw [List.length_map]; omega, acc.toList, c, by rw [hacc]; exact vals_refs as, ?_⟩
        rw [Array.toArray_toList]
        exact hS
      · rw [off b hb hb2] at q
        exact (I.hok b u q).stay (fun d v _ y => hk2 d v y) (fun d y => kp d _ y) fun d xs y => kp d _ y
def tListZip (K : PySem.W.Frag) (ta : TA) : TE := fun σ H Q => ta σ H fun vs H1 => ∃ (a b : Addr) (kvs : List (L2.Key × V)), vs = [.ref a, .ref b] ∧ SqL K H1 a (kvs.map fun q => kV q.1) ∧ SqL K H1 b (kvs.map (·.2)) ∧
  ∀ (H' : Hp) (p : Addr) (ts : List Addr), (∀ b o, H1 b = some o → H' b = some o) → H1 p = none → (∀ t ∈ ts, H1 t = none) → p ∉ ts → H' p = some (.lst (ts.map V.ref)) → Paired (fun (t : Addr) (q : L2.Key × V) => H' t = some (.tup [kV q.1, q.2])) ts kvs → Q (.ref p) H'
theorem pe_listZip {e e2 : Expr} {ta : TA} {p p2 pos pos2 : Pos} (hc : X.calm = true) (hg : Gl X "list") (hm : X.mg "list" = none) (hg2 : Gl X "zip") (hm2 : X.mg "zip" = none) (ha : PA X [e, e2] ta)
    (hs : starEach [e, e2] X.env = (false, eval e X.env) :: starEach [e2] X.env := by rfl) (hpl : (backTo pos2 (starEach [e2] X.env)).any (·.1) = false := by rfl)
    (hs2 : starEach [.Call (.Name "zip" p2) [e, e2] [] pos2] X.env = (false, eval (.Call (.Name "zip" p2) [e, e2] [] pos2) X.env) :: starEach [] X.env := by rfl) :
    PE X (.Call (.Name "list" p) [.Call (.Name "zip" p2) [e, e2] [] pos2] [] pos) (tListZip X.K ta) := by
  have hv : bootBuiltins "list" = some (.type "list") := by decide +kernel
  refine ⟨fun pins s σ H Q I h => wpAny_Call_Name_kw (ld_blt I hg hm hv ?_)⟩
  refine PyProof.Rows.callWith_type1 ?_ hs2 rfl
  rw [hs2]
  show wpAny _ _ (spliced ((false, eval (.Call (.Name "zip" p2) [e, e2] [] pos2) X.env) :: backTo pos (starEach [] X.env))) _ _ s
  refine Calls.spliced_cons ?_
  refine wpAny_Call_Name_kw (ld_blt I hg2 hm2 PyProof.Rows.boot_zip (PyProof.Rows.callWith_type1 (thn (ha.run pos2 pins s σ H _ I h) fun us s1 ⟨vs, H1, I1, r1, q1⟩ => ?_) hs hpl))
  obtain ⟨a, b, kvs, rfl, hqx, hqy, q⟩ := q1
  cases r1 with
  | cons r rr =>
    cases rr with
    | cons r' rr =>
      cases rr
      cases r
      cases r'
      obtain ⟨its, rv, p1, z1⟩ := I1.list hqx
      obtain ⟨its2, rv2, p2', z2⟩ := I1.list hqy
      have la : a < s1.heap.objs.size := p1.lt
      have lb : b < s1.heap.objs.size := p2'.lt
      have n1 := rv.length
      have n2 := rv2.length
      rw [List.length_map] at n1 n2 z1
      refine call_zip_2 p1.isList p2'.isList fun h' hz hTI hTO h1 h2 hsz hk => ?_
      refine Calls.spliced_nil ?_
      have st : ZlSt s1.heap.objs.size a b its.toArray its2.toArray h' 0 := ⟨hTI, h1, h2, p1.isList.at fun o e => hk _ o e, p2'.isList.at fun o e => hk _ o e, .inl ⟨hz, _, _, hTO⟩⟩
      refine zl_call (s := { s1 with heap := h' }) (I1.ok.hd hc) la lb (by rw [List.size_toArray, List.size_toArray]; omega) (by rw [List.size_toArray]; omega) st hz hsz fun h2' acc c as hk2 hS hl hG hacc => ?_
      rw [List.size_toArray] at hl
      obtain ⟨H', k1, k2, k3, k4, k5, k6, J⟩ := zl_laid (s := s1) (h' := h2') I1 z1 rv rv2 (fun b o hb e => hk2 b o hb (hk b o e)) hS (by omega) hG hacc
      exact ⟨.ref _, H', J, rfl, q H' _ as k1 k2 k3 k4 k5 k6⟩
end
end Ln


set_option Elab.async false
set_option linter.all false
set_option maxRecDepth 100000
set_option maxHeartbeats 4000000
namespace Ln
open PySem PySem.Spec PyProof.Rows L2 GxR
theorem scRen : FnScope ["names", "happened", "event"] ["names", "happened"] (defScope sRen) := ⟨rfl, rfl, rfl, by decide +kernel, rfl, by decide +kernel, by decide +kernel⟩
theorem scPcs : FnScope ["initial", "happened", "moves", "cut", "final", "gone", "first", "second", "order", "late", "event"] ["initial", "happened", "moves", "cut"] (defScope sPcs) := ⟨rfl, rfl, rfl, by decide +kernel, rfl, by decide +kernel, by decide +kernel⟩
theorem scLaw4 : FnScope ["script", "k", "source", "turn", "fleet", "initial", "happened", "moves", "final", "gone", "other", "names", "told", "event", "move_v", "one"] ["script"] (defScope sLaw) := ⟨rfl, rfl, rfl, by decide +kernel, rfl, by decide +kernel, by decide +kernel⟩
theorem pair_app {α β : Type} {F : α → β → Prop} : ∀ {xs xs' : List α} {ys ys' : List β}, Paired F xs ys → Paired F xs' ys' → Paired F (xs ++ xs') (ys ++ ys')
  | _, _, _, _, .nil, h => h
  | _, _, _, _, .cons a b, h => .cons a (pair_app b h)
section
variable {P : Program} {w : World} {K : PySem.W.Frag} {mg : Str → Option Value} {base : Heap} {Ps : List Addr}
def spRen (K : PySem.W.Frag) : Sp := fun vs H Q _ => ∃ (d l : Addr) (kvs : List (L2.Key × V)) (as : List Addr) (es : List Ev) (ρ : Str → Str), vs = [.ref d, .ref l] ∧ H d = some (.dK kvs) ∧ (∀ c ∈ arrs es, valV kvs (Sum.inr c) = some (.str (ρ c))) ∧ SqL K H l (as.map V.ref) ∧ EvsAt K H as es ∧ es.length ≤ 400 ∧
  ∀ (H' : Hp) (p : Addr) (bs : List Addr), L2.Same H H' → H p = none → H' p = some (.lst (bs.map V.ref)) → EvsAt K H' bs (es.map (Ev.ren ρ)) → Q (.ref p) H'
theorem ok_ren {f : Addr} {fd : FuncData} (F : Fun K "_law_renamed" "_law_renamed" sRen f fd) : FnOk P w K mg base CX0 1 f fd ["names", "happened"] (spRen K) := by
  refine F.ok scRen (fun vs H Q E h => ?_) (fun cdv A outer s H vs Q E hr h => ?_)
  · obtain ⟨d, l, kvs, as, es, ρ, rfl, _⟩ := h
    rfl
  · obtain ⟨d, l, kvs, as, es, ρ, rfl, hd, hρ, hL, hE, hfew, q⟩ := h
    have hu0 : A.units + 3 + 64 < cLine := hr.units
    have hu : A.units + 3 + 1 < cLine := by omega
    refine ⟨_, pss_one (ps_ret (pe_lc (own := [("event", 2)]) (g := gName 2) (tt := tYes)
        (te := tIf (tTest (tOp rEq (tOp (rIxT K) (tVar 2) (tC (.int 0))) (tC (.str "in")))) (tTup (tCons (tC (.str "in")) (tCons (tDGet (tVar 0) (tOp (rIxT K) (tVar 2) (tC (.int 1)))) tNil))) (tVar 2))
        (by rfl) scRen.nd (pi_list (pv 1)) (blkOk_by (own := [("event", 2)]) (N := ["names", "happened", "event"]) (sc := defScope sRen) (by decide +kernel))
        (fun _ _ _ _ _ => pg_name (i := 2) scRen.nd rfl (Or.inl rfl)) (fun _ _ _ _ _ => pts_nil)
        (fun _ _ _ _ _ => pe_ifExp (pt_cmpR op_eq (pe_ix ix_tup (pv 2) pe_int (fun _ _ => rfl)) pe_str (nomark _)) (pe_tup (pa_cons pe_str (pa_cons (pe_dget hu (pv 0) (pe_ix ix_tup (pv 2) pe_int (fun _ _ => rfl)) (fun _ _ => rfl)) pa_nil))) (pv 2)))), ?_⟩
    refine ⟨.ref l, rfl, l, rfl, ⟨_, hL⟩, fun D hD => ?_⟩
    have hlen := Paired.length hE
    refine lc_list (K := K) (a := l) (xs := as.map V.ref) (fun i H' => ∃ bs : List Addr, L2.Same H H' ∧ i ≤ es.length ∧ H' D = some (.lst (bs.map V.ref)) ∧ bs.length = i ∧ EvsAt K H' bs ((es.take i).map (Ev.ren ρ))) ?_ ?_ ?_ ?_
    · exact ⟨[], Same.new (L2.Same.refl H) hD, Nat.zero_le _, upd_same, rfl, .nil⟩
    · rintro i H' _ ⟨bs, sm, _⟩
      exact sm.seq hL
    · rintro i y H' hi ⟨bs, sm, hie, hD', hbl, hbs⟩
      have hlt : i < es.length := by
        have h1 := (List.getElem?_eq_some_iff.mp hi).1
        rw [List.length_map] at h1
        omega
      have hev : es[i]? = some es[i] := List.getElem?_eq_getElem hlt
      obtain ⟨b, hb, hbt0⟩ := pair_at hE i _ hev
      have hbt := Same.seqT sm hbt0
      have hy : y = .ref b := by
        rw [List.getElem?_map, hb] at hi
        exact (Option.some.inj hi).symm
      subst hy
      have htake : (es.take (i + 1)).map (Ev.ren ρ) = (es.take i).map (Ev.ren ρ) ++ [(es[i]).ren ρ] := by rw [List.take_add_one, hev, List.map_append]; rfl
      have push : ∀ (H2 : Hp) (b2 : Addr), L2.Same H' H2 → H2 D = some (.lst (bs.map V.ref)) → (∀ b o, b ≠ D → H' b = some o → H2 b = some o) → SqT K H2 b2 ((es[i]).ren ρ).vals →
          ∃ acc, H2 D = some (.lst acc) ∧ acc.length < sizeLine ∧ ∃ bs : List Addr, L2.Same H (upd H2 D (.lst (acc ++ [.ref b2]))) ∧ i + 1 ≤ es.length ∧ (upd H2 D (.lst (acc ++ [.ref b2]))) D = some (.lst (bs.map V.ref)) ∧ bs.length = i + 1 ∧ EvsAt K (upd H2 D (.lst (acc ++ [.ref b2]))) bs ((es.take (i + 1)).map (Ev.ren ρ)) := by
        intro H2 b2 sm2 h2D _ hsq
        have keepT : ∀ (a : Addr) (zs : List V), SqT K H2 a zs → SqT K (upd H2 D (.lst (bs.map V.ref ++ [.ref b2]))) a zs := fun a zs hz => by
          rcases hz with (e | ⟨ob, e⟩) | e
          · exact .inl (.inl (by rw [upd_ne (fun z => by rw [z, h2D] at e; cases e)]; exact e))
          · exact .inl (.inr ⟨ob, by rw [upd_ne (fun z => by rw [z, h2D] at e; cases e)]; exact e⟩)
          · exact .inr e
        refine ⟨_, h2D, by rw [List.length_map]; exact small1000 (by omega), bs ++ [b2], Same.new (sm.trans sm2) hD, hlt, ?_, by rw [List.length_append, hbl]; rfl, ?_⟩
        · rw [upd_same, List.map_append]
          rfl
        · rw [htake]
          refine pair_app (Paired.imp hbs fun a e h => keepT a _ (Same.seqT sm2 h)) (.cons (keepT _ _ hsq) .nil)
      refine ⟨rfl, ?_⟩
      unfold tYes
      refine iteT ?_
      cases hE2 : es[i] with
      | inn c =>
        rw [hE2] at hbt
        refine ⟨.ref b, rfl, b, _, 0, .str "in", rfl, rfl, hbt, atI_nat (j := 0) rfl, rfl, _, rfl, ?_⟩
        rw [decide_eq_true (rfl : V.str "in" = V.str "in")]
        have hc : c ∈ arrs es := mem_arrs (by rw [← hE2]; exact List.getElem_mem hlt)
        refine iteT ⟨.ref d, rfl, .ref b, rfl, b, _, 1, .str c, rfl, rfl, hbt, atI_nat (j := 1) rfl, d, .str (ρ c), rfl, ?_, by show 2 ≤ sizeLine; decide, fun t ht => ?_⟩
        · have g := DGet.k (k := Sum.inr c) (sm _ _ hd)
          rw [hρ c hc] at g
          exact g
        · have hDt : D ≠ t := ne_of_none hD' ht
          refine push _ t (Same.new (L2.Same.refl H') ht) (by rw [upd_ne hDt]; exact hD') (fun b o hb e => by rw [upd_ne (ne_of_none e ht)]; exact e) ?_
          rw [hE2]
          exact SqT.of upd_same
      | out =>
        rw [hE2] at hbt
        refine ⟨.ref b, rfl, b, _, 0, .str "out", rfl, rfl, hbt, atI_nat (j := 0) rfl, rfl, _, rfl, ?_⟩
        rw [decide_eq_false (fun z => ne_oi (V.str.inj z))]
        refine iteF ⟨.ref b, rfl, ?_⟩
        refine push _ b (L2.Same.refl H') hD' (fun b o hb e => e) ?_
        rw [hE2]
        exact hbt
    · rintro H' ⟨bs, sm, hie, hD', hbl, hbs⟩
      rw [List.length_map, hlen, List.take_length] at hbs
      exact q _ D bs sm hD hD' hbs
end
end Ln


set_option Elab.async false
set_option linter.all false
set_option maxRecDepth 100000
set_option maxHeartbeats 8000000
namespace Ln
open PySem PySem.Spec PyProof.Rows L2 GxR
theorem pair_take {α β : Type} {F : α → β → Prop} : ∀ {xs : List α} {ys : List β} (j : Nat), Paired F xs ys → Paired F (xs.take j) (ys.take j)
  | _, _, 0, _ => .nil
  | _, _, j + 1, .nil => .nil
  | _, _, j + 1, .cons h t => .cons h (pair_take j t)
theorem pair_drop {α β : Type} {F : α → β → Prop} : ∀ {xs : List α} {ys : List β} (j : Nat), Paired F xs ys → Paired F (xs.drop j) (ys.drop j)
  | _, _, 0, h => h
  | _, _, j + 1, .nil => .nil
  | _, _, j + 1, .cons h t => pair_drop j t
/-- the first piece of a history -/
theorem HistAt.left {K : PySem.W.Frag} {H : Hp} {a l m L M : Addr} {xs : List Str} {as : List Addr} {es : List Ev} {sd : List Str} (h : HistAt K H a l m xs as es sd) (c : Nat) (hL : H L = some (.lst ((as.take c).map V.ref))) (hM : H M = some (.lst ((sd.take c).map V.str))) :
    HistAt K H a L M xs (as.take c) (es.take c) (sd.take c) :=
  ⟨h.lane, h.laneB, ⟨SqL.of hL, pair_take c h.log.evs, by rw [List.length_take]; exact Nat.le_trans (Nat.min_le_right _ _) h.log.few, fun d hd => h.log.sz d (List.mem_of_mem_take hd)⟩, logB_take _ _ _ _ h.logB, SqL.of hM, by rw [List.length_take, List.length_take, h.len], List.all_eq_true.mpr fun x hx => List.all_eq_true.mp h.sides x (List.mem_of_mem_take hx)⟩
theorem lane_few {xs : List Str} {es : List Ev} {sd : List Str} : (endR xs es sd).1.length ≤ xs.length + es.length := (atR_le _).1
/-- its second piece, from the lane that the first leaves -/
theorem HistAt.right {K : PySem.W.Frag} {H : Hp} {a l m t L M : Addr} {xs : List Str} {as : List Addr} {es : List Ev} {sd : List Str} (h : HistAt K H a l m xs as es sd) (hf : xs.length + es.length ≤ 400) (c : Nat) (hT : H t = some (.tup ((endR xs (es.take c) (sd.take c)).1.map V.str)))
    (hL : H L = some (.lst ((as.drop c).map V.ref))) (hM : H M = some (.lst ((sd.drop c).map V.str))) : HistAt K H t L M (endR xs (es.take c) (sd.take c)).1 (as.drop c) (es.drop c) (sd.drop c) := by
  have hlane := piece_lane h.laneB h.logB h.len c
  have hle := lane_few (xs := xs) (es := es.take c) (sd := sd.take c)
  have ht : (es.take c).length ≤ es.length := by rw [List.length_take]; exact Nat.min_le_right _ _
  exact ⟨⟨SqT.of hT, by omega, fun x hx => car_sz (carsOf hlane x hx)⟩, hlane, ⟨SqL.of hL, pair_drop c h.log.evs, by rw [List.length_drop]; omega, fun d hd => h.log.sz d (List.mem_of_mem_drop hd)⟩, piece_log h.laneB h.logB h.len c, SqL.of hM, by rw [List.length_drop, List.length_drop, h.len], List.all_eq_true.mpr fun x hx => List.all_eq_true.mp h.sides x (List.mem_of_mem_drop hx)⟩
section
variable {P : Program} {w : World} {K : PySem.W.Frag} {mg : Str → Option Value} {base : Heap} {Ps : List Addr}
def spPcs (K : PySem.W.Frag) (Ps : List Addr) : Sp := fun vs H Q _ => ∃ (a l m : Addr) (c : Nat) (xs : List Str) (as : List Addr) (es : List Ev) (sd : List Str), vs = [.ref a, .ref l, .ref m, .int (c : Nat)] ∧ HistAt K H a l m xs as es sd ∧ xs.length + es.length ≤ 400 ∧ c ≤ es.length ∧ Tabs Ps H ∧ ∀ H', Kp Ps H H' → Q (.bl true) H'
theorem ok_pcs {f fZ fN fR : Addr} {fd fdZ fdN fdR : FuncData} (F : Fun K "_law_pieces_right" "_law_pieces_right" sPcs f fd) (B : Bi mg) (Bs : mg "sorted" = none)
    (GZ : FnOk P w K mg base CX0 8 fZ fdZ ["start", "log"] (spSizes K Ps)) (mgZ : mg "sizes" = some (.ref fZ)) (kZ : PySem.W.keepIn K (.ref fZ) = true) (bZ : Binds K fdZ ["start", "log"] [])
    (GN : FnOk P w K mg base CX0 8 fN fdN ["start", "log"] (spNumbers K Ps)) (mgN : mg "numbers" = some (.ref fN)) (kN : PySem.W.keepIn K (.ref fN) = true) (bN : Binds K fdN ["start", "log"] [])
    (GR : FnOk P w K mg base CX0 8 fR fdR ["start", "log", "sides"] (spReplay K Ps)) (mgR : mg "replay" = some (.ref fR)) (kR : PySem.W.keepIn K (.ref fR) = true) (bR : Binds K fdR ["start", "log", "sides"] []) :
    FnOk P w K mg base CX0 9 f fd ["initial", "happened", "moves", "cut"] (spPcs K Ps) := by
  refine F.ok scPcs (fun vs H Q E h => ?_) (fun cdv A outer s H vs Q E hr h => ?_)
  · obtain ⟨a, l, m, c, xs, as, es, sd, rfl, _⟩ := h
    rfl
  · obtain ⟨a, l, m, c, xs, as, es, sd, rfl, hh, hf, hc, hT, q⟩ := h
    have hu : A.units + 3 + 64 < cLine := hr.units
    refine ⟨_, pss_cons (ps_asg (pe_call GR hr (by rfl) mgR kR bR .nil pass0 (pa_cons (pv 0) (pa_cons (pv 1) (pa_cons (pv 2) pa_nil)))) (pg_tup (by rfl) (pgs_cons (pg_name (i := 4) scPcs.nd rfl (.inl rfl)) (pgs_cons (pg_name (i := 5) scPcs.nd rfl (.inl rfl)) pgs_nil))))
      (pss_cons (ps_set (i := 6) scPcs.nd rfl (.inl rfl) (pe_call GR hr (by rfl) mgR kR bR .nil pass0 (pa_cons (pv 0) (pa_cons (pe_slice sl_list (pv 1) po_none (po_some (pv 3))) (pa_cons (pe_slice sl_list (pv 2) po_none (po_some (pv 3))) pa_nil)))))
      (pss_cons (ps_set (i := 7) scPcs.nd rfl (.inl rfl) (pe_call GR hr (by rfl) mgR kR bR .nil pass0 (pa_cons (pe_ix ix_tup (pv 6) pe_int (fun _ _ => rfl)) (pa_cons (pe_slice sl_list (pv 1) (po_some (pv 3)) po_none) (pa_cons (pe_slice sl_list (pv 2) (po_some (pv 3)) po_none) pa_nil)))))
      (pss_cons (ps_if (pt_cmpR (op_neD hu) (pe_tup (pa_cons (pe_ix ix_tup (pv 7) pe_int (fun _ _ => rfl)) (pa_cons (pe_op op_cat (pe_ix ix_tup (pv 6) pe_int (fun _ _ => rfl)) (pe_ix ix_tup (pv 7) pe_int (fun _ _ => rfl))) pa_nil))) (pe_tup (pa_cons (pv 4) (pa_cons (pv 5) pa_nil))) (nomark _)) (pss_one (ps_ret pe_bl)) pss_nil)
      (pss_cons (ps_if (pt_cmpR (op_neD hu) (pe_op op_cat (pe_call GZ hr (by rfl) mgZ kZ bZ .nil pass0 (pa_cons (pv 0) (pa_cons (pe_slice sl_list (pv 1) po_none (po_some (pv 3))) pa_nil))) (pe_slice sl_list (pe_call GZ hr (by rfl) mgZ kZ bZ .nil pass0 (pa_cons (pe_ix ix_tup (pv 6) pe_int (fun _ _ => rfl)) (pa_cons (pe_slice sl_list (pv 1) (po_some (pv 3)) po_none) pa_nil))) (po_some pe_int) po_none))
          (pe_call GZ hr (by rfl) mgZ kZ bZ .nil pass0 (pa_cons (pv 0) (pa_cons (pv 1) pa_nil))) (nomark _)) (pss_one (ps_ret pe_bl)) pss_nil)
      (pss_cons (ps_set (i := 8) scPcs.nd rfl (.inl rfl) (pe_call GN hr (by rfl) mgN kN bN .nil pass0 (pa_cons (pv 0) (pa_cons (pv 1) pa_nil))))
      (pss_cons (ps_if (PW.pt (pw_or (pt_cmpR (op_neD hu) (pe_callB cr_sortedTx (by rfl) Bs (by decide +kernel) (pa_cons (pe_op op_cat (pe_callTy call_list_of (by rfl) B.lst (by decide +kernel) (pa_cons (pv 4) pa_nil)) (pv 5)) pa_nil)) (pe_callB cr_sortedTx (by rfl) Bs (by decide +kernel) (pa_cons (pv 8) pa_nil)) (nomark _))
          (pw_or1 (pt_cmpR op_ne (pe_callB call_len_seq (by rfl) B.len PySem.boot_len (pa_cons (pv 4) pa_nil)) (pe_ix ix_list (pe_call GZ hr (by rfl) mgZ kZ bZ .nil pass0 (pa_cons (pv 0) (pa_cons (pv 1) pa_nil))) (pe_un un_neg pe_int) (fun _ _ => rfl)) (nomark _))))) (pss_one (ps_ret pe_bl)) pss_nil)
      (pss_cons (ps_setLc (i := 9) (own := [("event", 10)]) (g := gName 10) (tt := tTest (tOp rEq (tOp (rIxT K) (tVar 10) (tC (.int 0))) (tC (.str "in")))) (te := tOp (rIxT K) (tVar 10) (tC (.int 1))) (by rfl) scPcs.nd rfl rfl (sw_true rfl rfl rfl (by decide +kernel)) (pi_list (pe_slice sl_list (pv 1) (po_some (pv 3)) po_none))
        (blkOk_by (own := [("event", 10)]) (N := ["initial", "happened", "moves", "cut", "final", "gone", "first", "second", "order", "late", "event"]) (sc := defScope sPcs) (by decide +kernel))
        (fun _ _ _ _ _ => pg_name (i := 10) scPcs.nd rfl (Or.inl rfl)) (fun _ _ _ _ _ => pts_one (pt_cmpR op_eq (pe_ix (r := rIxT K) ix_tup (pv 10) pe_int (fun _ _ => rfl)) pe_str (nomark _))) (fun _ _ _ _ _ => pe_ix (r := rIxT K) ix_tup (pv 10) pe_int (fun _ _ => rfl)))
      (pss_one (ps_ret (pe_cmpR (op_eqD hu) (pe_op op_cat (pe_call GN hr (by rfl) mgN kN bN .nil pass0 (pa_cons (pv 0) (pa_cons (pe_slice sl_list (pv 1) po_none (po_some (pv 3))) pa_nil))) (pv 9)) (pv 8) (nomark _))))))))))), ?_⟩
    have few2 := hh.log.few
    have hsl := hh.len
    have hlen := Paired.length hh.log.evs
    have hsdl : (as.map V.ref).length = es.length := by rw [List.length_map]; exact hlen
    -- the whole
    refine ⟨.ref a, rfl, .ref l, rfl, .ref m, rfl, a, l, m, xs, as, es, sd, rfl, hh.lane, hh.laneB, hh.log, hh.logB, hh.mv, hh.len, hh.sides, hT, fun H1 p t d k1 p0 t0 d0 p1 t1 d1 => ?_⟩
    refine ⟨p, [.ref t, .ref d], rfl, SqT.of p1, rfl, _, _, rfl, _, _, rfl, rfl, ?_⟩
    have T1 := k1.tab
    have hh1 := hh.kp k1 hT
    -- the first piece
    refine ⟨.ref a, rfl, .ref l, rfl, _, rfl, _, rfl, l, _, rfl, hh1.log.at_, fun L1 hL1 => ?_⟩
    rw [cut_take, ← List.map_take]
    have kL1 : Kp Ps H1 (upd H1 L1 (.lst ((as.take c).map V.ref))) := Kp.new T1 hL1
    have eL1 : (upd H1 L1 (.lst ((as.take c).map V.ref))) L1 = some (.lst ((as.take c).map V.ref)) := upd_same
    generalize upd H1 L1 (.lst ((as.take c).map V.ref)) = H2 at kL1 eL1 ⊢
    have T2 := kL1.tab
    have hh2 := hh1.kp kL1 T1
    refine ⟨.ref m, rfl, _, rfl, _, rfl, m, _, rfl, hh2.mv, fun M1 hM1 => ?_⟩
    rw [cut_take, ← List.map_take]
    have kM1 : Kp Ps H2 (upd H2 M1 (.lst ((sd.take c).map V.str))) := Kp.new T2 hM1
    have eM1 : (upd H2 M1 (.lst ((sd.take c).map V.str))) M1 = some (.lst ((sd.take c).map V.str)) := upd_same
    have eL1' := kM1.lst T2 eL1
    generalize upd H2 M1 (.lst ((sd.take c).map V.str)) = H3 at kM1 eM1 eL1' ⊢
    have T3 := kM1.tab
    have hh3 := hh2.kp kM1 T2
    have hA := hh3.left c eL1' eM1
    refine ⟨a, L1, M1, xs, _, _, _, rfl, hA.lane, hA.laneB, hA.log, hA.logB, hA.mv, hA.len, hA.sides, T3, fun H4 p2 t2 d2 k4 p20 t20 d20 p21 t21 d21 => ?_⟩
    have T4 := k4.tab
    have hh4 := hh3.kp k4 T3
    -- the second piece
    refine ⟨.ref p2, rfl, p2, _, 0, .ref t2, rfl, rfl, SqT.of p21, atI_nat (j := 0) rfl, ?_⟩
    refine ⟨.ref l, rfl, _, rfl, _, rfl, l, _, rfl, hh4.log.at_, fun L2' hL2 => ?_⟩
    rw [cut_drop (by rw [hsdl]; exact hc), ← List.map_drop]
    have kL2 : Kp Ps H4 (upd H4 L2' (.lst ((as.drop c).map V.ref))) := Kp.new T4 hL2
    have eL2 : (upd H4 L2' (.lst ((as.drop c).map V.ref))) L2' = some (.lst ((as.drop c).map V.ref)) := upd_same
    generalize upd H4 L2' (.lst ((as.drop c).map V.ref)) = H5 at kL2 eL2 ⊢
    have T5 := kL2.tab
    have hh5 := hh4.kp kL2 T4
    refine ⟨.ref m, rfl, _, rfl, _, rfl, m, _, rfl, hh5.mv, fun M2 hM2 => ?_⟩
    rw [cut_drop (by rw [List.length_map]; omega), ← List.map_drop]
    have kM2 : Kp Ps H5 (upd H5 M2 (.lst ((sd.drop c).map V.str))) := Kp.new T5 hM2
    have eM2 : (upd H5 M2 (.lst ((sd.drop c).map V.str))) M2 = some (.lst ((sd.drop c).map V.str)) := upd_same
    have eL2' := kM2.lst T5 eL2
    generalize upd H5 M2 (.lst ((sd.drop c).map V.str)) = H6 at kM2 eM2 eL2' ⊢
    have T6 := kM2.tab
    have k46 : Kp Ps H4 H6 := kL2.trans kM2
    have hh6 := hh4.kp k46 T4
    have hB := hh6.right hf c (k46.tup T4 t21) eL2' eM2
    refine ⟨t2, L2', M2, _, _, _, _, rfl, hB.lane, hB.laneB, hB.log, hB.logB, hB.mv, hB.len, hB.sides, T6, fun H7 p3 t3 d3 k7 p30 t30 d30 p31 t31 d31 => ?_⟩
    have T7 := k7.tab
    have k47 : Kp Ps H4 H7 := k46.trans k7
    have hh7 := hh4.kp k47 T4
    -- where all ends
    have hsp := endR_split (xs := xs) hsl c
    have e1 : (endR xs es sd).1 = (endR (endR xs (es.take c) (sd.take c)).1 (es.drop c) (sd.drop c)).1 := by
      have := congrArg Prod.fst hsp
      exact this
    have e2 : (endR xs es sd).2 = (endR xs (es.take c) (sd.take c)).2 ++ (endR (endR xs (es.take c) (sd.take c)).1 (es.drop c) (sd.drop c)).2 := by
      have := congrArg Prod.snd hsp
      exact this
    have k17 : Kp Ps H1 H7 := ((kL1.trans kM1).trans k4).trans k47
    have p27 := k47.tup T4 p21
    have t27 := k47.tup T4 t21
    have d27 := k47.lst T4 d21
    have t7 := k17.tup T1 t1
    have d7 := k17.lst T1 d1
    have hl1 : (endR xs es sd).1.length ≤ 1000 := by
      have := lane_few (xs := xs) (es := es) (sd := sd)
      omega
    have hl2 : (endR xs es sd).2.length ≤ 1000 := by
      have := (atR_le (xs := xs) (es := es) (sd := sd) es.length).2
      show (atR xs es sd es.length).2.length ≤ 1000
      omega
    have hcs : ∀ x, x ∈ (endR xs es sd).1 ∨ x ∈ (endR xs es sd).2 → carB x = true := fun x hx => by
      rcases atR_mem _ x hx with e | e
      · exact carsOf hh.laneB x e
      · exact logB_cars es xs _ hh.logB x e
    have hGp : Gd (dPair (endR xs es sd).1 (endR xs es sd).2) 3 30000 := gd_pair (fun x hx => hcs x (.inl hx)) (fun x hx => hcs x (.inr hx)) hl1 hl2
    have hcat : ((endR xs (es.take c) (sd.take c)).2.map V.str).length + ((endR (endR xs (es.take c) (sd.take c)).1 (es.drop c) (sd.drop c)).2.map V.str).length ≤ sizeLine := by
      rw [List.length_map, List.length_map, ← List.length_append, ← e2]
      exact Nat.le_of_lt (small1000 hl2)
    have no : ∀ d : PyData, d.canLay0 = true → (!PyData.eqv d d) = false := fun d hd => by
      rw [SeqAt.eqv_refl _ hd]
      rfl
    refine ⟨.ref p3, rfl, p3, _, 0, .ref t3, rfl, rfl, SqT.of p31, atI_nat (j := 0) rfl, .ref p2, rfl, p2, _, 1, .ref d2, rfl, rfl, SqT.of p27, atI_nat (j := 1) rfl, .ref p3, rfl, p3, _, 1, .ref d3, rfl, rfl, SqT.of p31, atI_nat (j := 1) rfl, d2, d3, _, _, rfl, rfl, d27, d31, hcat, fun G hG => ?_⟩
    rw [← List.map_append, ← e2]
    have kG : Kp Ps H7 (upd H7 G (.lst ((endR xs es sd).2.map V.str))) := Kp.new T7 hG
    have eG : (upd H7 G (.lst ((endR xs es sd).2.map V.str))) G = some (.lst ((endR xs es sd).2.map V.str)) := upd_same
    generalize upd H7 G (.lst ((endR xs es sd).2.map V.str)) = H8 at kG eG ⊢
    have T8 := kG.tab
    refine ⟨by show 2 ≤ sizeLine; decide, fun q1 hq1 => ?_⟩
    have kq1 : Kp Ps H8 (upd H8 q1 (.tup [.ref t3, .ref G])) := Kp.new T8 hq1
    have eq1 : (upd H8 q1 (.tup [.ref t3, .ref G])) q1 = some (.tup [.ref t3, .ref G]) := upd_same
    generalize upd H8 q1 (.tup [.ref t3, .ref G]) = H9 at kq1 eq1 ⊢
    have T9 := kq1.tab
    refine ⟨.ref t, rfl, .ref d, rfl, by show 2 ≤ sizeLine; decide, fun q2 hq2 => ?_⟩
    have kq2 : Kp Ps H9 (upd H9 q2 (.tup [.ref t, .ref d])) := Kp.new T9 hq2
    have eq2 : (upd H9 q2 (.tup [.ref t, .ref d])) q2 = some (.tup [.ref t, .ref d]) := upd_same
    generalize upd H9 q2 (.tup [.ref t, .ref d]) = H10 at kq2 eq2 ⊢
    have T10 := kq2.tab
    have k710 : Kp Ps H7 H10 := (kG.trans kq1).trans kq2
    have dpl : Dp K H10 (.ref q1) (dPair (endR xs es sd).1 (endR xs es sd).2) := by
      refine dp_pair (SqT.of (kq2.tup T9 eq1)) ?_ (SqL.of ((kq1.trans kq2).lst T8 eG))
      rw [e1]
      exact SqT.of (k710.tup T7 t31)
    refine ⟨_, _, dpl, dp_pair (SqT.of eq2) (SqT.of (k710.tup T7 t7)) (SqL.of (k710.lst T7 d7)), hGp.shaped (by decide), hGp.shaped (by decide), _, rfl, ?_⟩
    rw [no _ hGp.lay]
    refine iteF ?_
    have hh10 := hh7.kp k710 T7
    have p210 := k710.tup T7 p27
    have t210 := k710.tup T7 t27
    have T10 := kq2.tab
    -- the numbers
    refine ⟨.ref a, rfl, .ref l, rfl, _, rfl, _, rfl, l, _, rfl, hh10.log.at_, fun L3 hL3 => ?_⟩
    rw [cut_take, ← List.map_take]
    have kL3 : Kp Ps H10 (upd H10 L3 (.lst ((as.take c).map V.ref))) := Kp.new T10 hL3
    have eL3 : (upd H10 L3 (.lst ((as.take c).map V.ref))) L3 = some (.lst ((as.take c).map V.ref)) := upd_same
    generalize upd H10 L3 (.lst ((as.take c).map V.ref)) = H11 at kL3 eL3 ⊢
    have T11 := kL3.tab
    have hh11 := hh10.kp kL3 T10
    have lg3 : LogAt K H11 L3 (as.take c) (es.take c) := ⟨SqL.of eL3, pair_take c hh11.log.evs, by rw [List.length_take]; omega, fun d hd => hh11.log.sz d (List.mem_of_mem_take hd)⟩
    refine ⟨a, L3, xs, _, _, rfl, hh11.lane, hh11.laneB, lg3, logB_take _ _ _ _ hh11.logB, T11, fun H12 z1 k12 z10 z11 => ?_⟩
    have T12 := k12.tab
    have hh12 := hh11.kp k12 T11
    have k1012 : Kp Ps H10 H12 := kL3.trans k12
    refine ⟨.ref p2, rfl, p2, _, 0, .ref t2, rfl, rfl, SqT.of (k1012.tup T10 p210), atI_nat (j := 0) rfl, .ref l, rfl, _, rfl, _, rfl, l, _, rfl, hh12.log.at_, fun L4 hL4 => ?_⟩
    rw [cut_drop (by rw [hsdl]; exact hc), ← List.map_drop]
    have kL4 : Kp Ps H12 (upd H12 L4 (.lst ((as.drop c).map V.ref))) := Kp.new T12 hL4
    have eL4 : (upd H12 L4 (.lst ((as.drop c).map V.ref))) L4 = some (.lst ((as.drop c).map V.ref)) := upd_same
    generalize upd H12 L4 (.lst ((as.drop c).map V.ref)) = H13 at kL4 eL4 ⊢
    have T13 := kL4.tab
    have hh13 := hh12.kp kL4 T12
    have k1013 := k1012.trans kL4
    have lg4 : LogAt K H13 L4 (as.drop c) (es.drop c) := ⟨SqL.of eL4, pair_drop c hh13.log.evs, by rw [List.length_drop]; omega, fun d hd => hh13.log.sz d (List.mem_of_mem_drop hd)⟩
    have lane4 : LaneAt K H13 t2 (endR xs (es.take c) (sd.take c)).1 := by
      have hle := lane_few (xs := xs) (es := es.take c) (sd := sd.take c)
      have ht : (es.take c).length ≤ es.length := by rw [List.length_take]; exact Nat.min_le_right _ _
      exact ⟨SqT.of (k1013.tup T10 t210), by omega, fun x hx => car_sz (carsOf hB.laneB x hx)⟩
    refine ⟨t2, L4, _, _, _, rfl, lane4, hB.laneB, lg4, hB.logB, T13, fun H14 z2 k14 z20 z21 => ?_⟩
    have T14 := k14.tab
    have hh14 := hh13.kp k14 T13
    have k1214 : Kp Ps H12 H14 := kL4.trans k14
    refine ⟨1, rfl, z2, _, rfl, SqL.of z21, fun z3 hz3 => ?_⟩
    rw [cut_from1 (by rw [List.length_map, szs_len]; omega), ← List.map_drop]
    have kz3 : Kp Ps H14 (upd H14 z3 (.lst (((szs (endR xs (es.take c) (sd.take c)).1.length (es.drop c)).drop 1).map V.int))) := Kp.new T14 hz3
    have ez3 : (upd H14 z3 (.lst (((szs (endR xs (es.take c) (sd.take c)).1.length (es.drop c)).drop 1).map V.int))) z3 = some (.lst (((szs (endR xs (es.take c) (sd.take c)).1.length (es.drop c)).drop 1).map V.int)) := upd_same
    generalize upd H14 z3 (.lst (((szs (endR xs (es.take c) (sd.take c)).1.length (es.drop c)).drop 1).map V.int)) = H15 at kz3 ez3 ⊢
    have T15 := kz3.tab
    have k1215 := k1214.trans kz3
    have hss := szs_split (xs := xs) hh.logB hsl c
    have z15 := k1215.lst T12 z11
    refine ⟨z1, z3, _, _, rfl, rfl, z15, ez3, ?_, fun z4 hz4 => ?_⟩
    · rw [List.length_map, List.length_map, ← List.length_append, hss, szs_len]
      exact Nat.le_of_lt (small1000 (by omega))
    rw [← List.map_append, hss]
    have kz4 : Kp Ps H15 (upd H15 z4 (.lst ((szs xs.length es).map V.int))) := Kp.new T15 hz4
    have ez4 : (upd H15 z4 (.lst ((szs xs.length es).map V.int))) z4 = some (.lst ((szs xs.length es).map V.int)) := upd_same
    generalize upd H15 z4 (.lst ((szs xs.length es).map V.int)) = H16 at kz4 ez4 ⊢
    have T16 := kz4.tab
    have k1016 : Kp Ps H10 H16 := (k1012.trans k1215).trans kz4
    have hh16 := hh10.kp k1016 T10
    refine ⟨.ref a, rfl, .ref l, rfl, a, l, xs, as, es, rfl, hh16.lane, hh16.laneB, hh16.log, hh16.logB, T16, fun H17 z5 k17' z50 z51 => ?_⟩
    have T17 := k17'.tab
    refine ⟨.list ((szs xs.length es).map PyData.int), .list ((szs xs.length es).map PyData.int), .lst (SqL.of (k17'.lst T16 ez4)) (dp_ints _), .lst (SqL.of z51) (dp_ints _), shaped_ints _, shaped_ints _, _, rfl, ?_⟩
    rw [no _ (lay_list (lay_ints _))]
    refine iteF ?_
    have hh17 := hh16.kp k17' T16
    have k1017 := k1016.trans k17'
    -- the cars in order
    refine ⟨.ref a, rfl, .ref l, rfl, a, l, xs, as, es, rfl, hh17.lane, hh17.laneB, hh17.log, hh17.logB, T17, fun H18 o k18 o0 o1 => ?_⟩
    have T18 := k18.tab
    have k718 : Kp Ps H7 H18 := (k710.trans k1017).trans k18
    have t18 := k718.tup T7 t7
    have d18 := k718.lst T7 d7
    have hcars : ∀ x ∈ xs ++ arrs es, carB x = true := fun x hx => by
      rcases List.mem_append.mp hx with e | e
      · exact carsOf hh.laneB x e
      · exact logB_cars es xs _ hh.logB x e
    have hal := arrs_len es
    refine ⟨.ref t, rfl, t, _, rfl, .inr (SqT.of t18), fun u hu0 => ?_⟩
    have ku : Kp Ps H18 (upd H18 u (.lst ((endR xs es sd).1.map V.str))) := Kp.new T18 hu0
    have eu : (upd H18 u (.lst ((endR xs es sd).1.map V.str))) u = some (.lst ((endR xs es sd).1.map V.str)) := upd_same
    have d19 := ku.lst T18 d18
    show tVar 5 _ (upd H18 u (.lst ((endR xs es sd).1.map V.str))) _
    generalize upd H18 u (.lst ((endR xs es sd).1.map V.str)) = H19 at ku eu d19 ⊢
    have T19 := ku.tab
    refine ⟨.ref d, rfl, u, d, _, _, rfl, rfl, eu, d19, ?_, fun v hv0 => ?_⟩
    · have hp := (endR_perm (xs := xs) hsl).length_eq
      rw [List.length_append, List.length_append] at hp
      show ((endR xs es sd).1.map V.str).length + ((endR xs es sd).2.map V.str).length ≤ _
      rw [List.length_map, List.length_map]
      exact Nat.le_of_lt (small1000 (by omega))
    have kv : Kp Ps H19 (upd H19 v (.lst ((endR xs es sd).1.map V.str ++ (endR xs es sd).2.map V.str))) := Kp.new T19 hv0
    have ev : (upd H19 v (.lst ((endR xs es sd).1.map V.str ++ (endR xs es sd).2.map V.str))) v = some (.lst (((endR xs es sd).1 ++ (endR xs es sd).2).map V.str)) := by rw [upd_same, List.map_append]
    generalize upd H19 v (.lst ((endR xs es sd).1.map V.str ++ (endR xs es sd).2.map V.str)) = H20 at kv ev ⊢
    have T20 := kv.tab
    refine ⟨v, _, rfl, SqL.of ev, fun ys pp perm up hpp => ?_⟩
    have kp1 : Kp Ps H20 (upd H20 pp (.lst (ys.map V.str))) := Kp.new T20 hpp
    have ep1 : (upd H20 pp (.lst (ys.map V.str))) pp = some (.lst (ys.map V.str)) := upd_same
    have o21 := kp1.lst T20 ((ku.trans kv).lst T18 o1)
    generalize upd H20 pp (.lst (ys.map V.str)) = H21 at kp1 ep1 o21 ⊢
    have T21 := kp1.tab
    refine ⟨.ref o, rfl, o, _, rfl, SqL.of o21, fun ys2 pp2 perm2 up2 hpp2 => ?_⟩
    have same : ys = ys2 := upS_eq ((perm.trans (endR_perm (xs := xs) hsl)).trans perm2.symm) up up2
    subst same
    have kp2 : Kp Ps H21 (upd H21 pp2 (.lst (ys.map V.str))) := Kp.new T21 hpp2
    have ep2 : (upd H21 pp2 (.lst (ys.map V.str))) pp2 = some (.lst (ys.map V.str)) := upd_same
    have ep1' := kp2.lst T21 ep1
    generalize upd H21 pp2 (.lst (ys.map V.str)) = H22 at kp2 ep2 ep1' ⊢
    have T22 := kp2.tab
    have hyc : ∀ x ∈ ys, carB x = true := fun x hx => hcars x (perm2.mem_iff.mp hx)
    have shy := shaped_strs ys fun x hx => car_ok (hyc x hx)
    refine ⟨.list (ys.map PyData.str), .list (ys.map PyData.str), .lst (SqL.of ep1') (dp_strs ys), .lst (SqL.of ep2) (dp_strs ys), shy, shy, _, rfl, ?_⟩
    rw [no _ (lay_list (lay_strs ys fun x hx => car_ok (hyc x hx)))]
    refine iteF ?_
    have k1822 : Kp Ps H18 H22 := ((ku.trans kv).trans kp1).trans kp2
    have hh22 := (hh17.kp k18 T17).kp k1822 T18
    have t22 := k1822.tup T18 t18
    refine ⟨.ref t, rfl, t, _, rfl, .inr (SqT.of t22), .ref a, rfl, .ref l, rfl, a, l, xs, as, es, rfl, hh22.lane, hh22.laneB, hh22.log, hh22.logB, T22, fun H23 z6 k23 z60 z61 => ?_⟩
    have T23 := k23.tab
    obtain ⟨qq, hqq⟩ := szs_last (xs := xs) hh.logB hsl
    refine ⟨1, rfl, z6, _, -1, _, rfl, rfl, SqL.of z61, by rw [hqq]; exact atI_last _ _, rfl, _, rfl, ?_⟩
    rw [List.length_map, decide_eq_true rfl]
    refine iteF ?_
    have hh23 := hh22.kp k23 T22
    have k1823 := k1822.trans k23
    have o23 := k1823.lst T18 o1
    -- who arrives late
    refine ⟨.ref l, rfl, _, rfl, _, rfl, l, _, rfl, hh23.log.at_, fun L5 hL5 => ?_⟩
    rw [cut_drop (by rw [hsdl]; exact hc), ← List.map_drop]
    have kL5 : Kp Ps H23 (upd H23 L5 (.lst ((as.drop c).map V.ref))) := Kp.new T23 hL5
    have eL5 : (upd H23 L5 (.lst ((as.drop c).map V.ref))) L5 = some (.lst ((as.drop c).map V.ref)) := upd_same
    generalize upd H23 L5 (.lst ((as.drop c).map V.ref)) = H24 at kL5 eL5 ⊢
    have T24 := kL5.tab
    have hh24 := hh23.kp kL5 T23
    have o24 := kL5.lst T23 o23
    have hev5 := pair_drop c hh24.log.evs
    have hlen5 := Paired.length hev5
    refine ⟨L5, rfl, ⟨_, SqL.of eL5⟩, fun D hD => ?_⟩
    refine lc_list (K := K) (a := L5) (xs := (as.drop c).map V.ref) (fun i H' => L2.Same H24 H' ∧ i ≤ (es.drop c).length ∧ H' D = some (.lst ((arrs ((es.drop c).take i)).map V.str))) ?_ ?_ ?_ ?_
    · exact ⟨Same.new (L2.Same.refl H24) hD, Nat.zero_le _, upd_same⟩
    · rintro i H' _ ⟨sm, _⟩
      exact .inl (.inl (sm _ _ eL5))
    · rintro i y H' hi ⟨sm, hie, hD'⟩
      have hlt : i < (es.drop c).length := by
        have h1 := (List.getElem?_eq_some_iff.mp hi).1
        rw [List.length_map] at h1
        omega
      have hev : (es.drop c)[i]? = some (es.drop c)[i] := List.getElem?_eq_getElem hlt
      obtain ⟨b, hb, hbt0⟩ := pair_at hev5 i _ hev
      have hbt := Same.seqT sm hbt0
      have hy : y = .ref b := by
        rw [List.getElem?_map, hb] at hi
        exact (Option.some.inj hi).symm
      subst hy
      have htake : (es.drop c).take (i + 1) = (es.drop c).take i ++ [(es.drop c)[i]] := by rw [List.take_add_one, hev]; rfl
      refine ⟨rfl, ?_⟩
      cases hE2 : (es.drop c)[i] with
      | inn d =>
        rw [hE2] at hbt htake
        refine ⟨.ref b, rfl, b, _, 0, .str "in", rfl, rfl, hbt, atI_nat (j := 0) rfl, rfl, _, rfl, ?_⟩
        rw [decide_eq_true (rfl : V.str "in" = V.str "in")]
        refine iteT ⟨.ref b, rfl, b, _, 1, .str d, rfl, rfl, hbt, atI_nat (j := 1) rfl, _, hD', ?_, Same.new sm hD, hlt, ?_⟩
        · rw [List.length_map]
          refine small1000 ?_
          have h1 := arrs_len ((es.drop c).take i)
          have h2 : ((es.drop c).take i).length ≤ (es.drop c).length := by rw [List.length_take]; exact Nat.min_le_right _ _
          have h3 : (es.drop c).length ≤ es.length := by rw [List.length_drop]; omega
          omega
        · rw [upd_same, htake, arrs_app, List.map_append]
          rfl
      | out =>
        rw [hE2] at hbt htake
        refine ⟨.ref b, rfl, b, _, 0, .str "out", rfl, rfl, hbt, atI_nat (j := 0) rfl, rfl, _, rfl, ?_⟩
        rw [decide_eq_false (fun z => ne_oi (V.str.inj z))]
        refine iteF ⟨sm, hlt, ?_⟩
        rw [hD', htake, arrs_app]
        show _ = some (HO.lst ((arrs ((es.drop c).take i) ++ []).map V.str))
        rw [List.append_nil]
    rintro H25 ⟨sm25, _, hD25⟩
    rw [List.length_map, hlen5, List.take_length] at hD25
    have k25 : Kp Ps H24 H25 := Same.kp sm25 T24
    have T25 := k25.tab
    have hh25 := hh24.kp k25 T24
    have o25 := sm25 _ _ o24
    -- the end
    refine ⟨.ref a, rfl, .ref l, rfl, _, rfl, _, rfl, l, _, rfl, hh25.log.at_, fun L6 hL6 => ?_⟩
    rw [cut_take, ← List.map_take]
    have kL6 : Kp Ps H25 (upd H25 L6 (.lst ((as.take c).map V.ref))) := Kp.new T25 hL6
    have eL6 : (upd H25 L6 (.lst ((as.take c).map V.ref))) L6 = some (.lst ((as.take c).map V.ref)) := upd_same
    generalize upd H25 L6 (.lst ((as.take c).map V.ref)) = H26 at kL6 eL6 ⊢
    have T26 := kL6.tab
    have hh26 := hh25.kp kL6 T25
    have lg6 : LogAt K H26 L6 (as.take c) (es.take c) := ⟨SqL.of eL6, pair_take c hh26.log.evs, by rw [List.length_take]; omega, fun d hd => hh26.log.sz d (List.mem_of_mem_take hd)⟩
    refine ⟨a, L6, xs, _, _, rfl, hh26.lane, hh26.laneB, lg6, logB_take _ _ _ _ hh26.logB, T26, fun H27 z7 k27 z70 z71 => ?_⟩
    have T27 := k27.tab
    have k2527 : Kp Ps H25 H27 := kL6.trans k27
    have D27 := k2527.lst T25 hD25
    have o27 := k2527.lst T25 o25
    have hjoin : (xs ++ arrs (es.take c)) ++ arrs (es.drop c) = xs ++ arrs es := by rw [List.append_assoc, ← arrs_app, List.take_append_drop]
    refine ⟨.ref D, rfl, z7, D, _, _, rfl, rfl, z71, D27, ?_, fun z8 hz8 => ?_⟩
    · rw [List.length_map, List.length_map, ← List.length_append, hjoin, List.length_append]
      exact Nat.le_of_lt (small1000 (by omega))
    rw [← List.map_append, hjoin]
    have kz8 : Kp Ps H27 (upd H27 z8 (.lst ((xs ++ arrs es).map V.str))) := Kp.new T27 hz8
    have ez8 : (upd H27 z8 (.lst ((xs ++ arrs es).map V.str))) z8 = some (.lst ((xs ++ arrs es).map V.str)) := upd_same
    have o28 := kz8.lst T27 o27
    generalize upd H27 z8 (.lst ((xs ++ arrs es).map V.str)) = H28 at kz8 ez8 o28 ⊢
    have sho := shaped_strs (xs ++ arrs es) fun x hx => car_ok (hcars x hx)
    refine ⟨.ref o, rfl, .list ((xs ++ arrs es).map PyData.str), .list ((xs ++ arrs es).map PyData.str), .lst (SqL.of ez8) (dp_strs _), .lst (SqL.of o28) (dp_strs _), sho, sho, ?_⟩
    rw [SeqAt.eqv_refl _ (lay_list (lay_strs (xs ++ arrs es) fun x hx => car_ok (hcars x hx)))]
    exact q _ ((((((k1.trans k17).trans k718).trans k1823).trans kL5).trans k25).trans (k2527.trans kz8))
end
end Ln

set_option Elab.async false
set_option linter.all false
set_option maxRecDepth 100000
set_option maxHeartbeats 4000000
namespace Ln
open PySem PySem.Spec PyProof.Rows L2 GxR
theorem merge_miss : ∀ (more kvs : List (L2.Key × V)) (k : L2.Key), (∀ p ∈ more, p.1 ≠ k) → valV (mergeK kvs more) k = valV kvs k
  | [], _, _, _ => rfl
  | p :: r, kvs, k, h => by
    show valV (mergeK (putK kvs p.1 p.2) r) k = _
    rw [merge_miss r _ k fun q hq => h q (List.mem_cons_of_mem _ hq), valV_put, if_neg (fun e => h p List.mem_cons_self e.symm)]
theorem merge_hit : ∀ (more kvs : List (L2.Key × V)) (k : L2.Key) (v : V), (more.map (·.1)).Nodup → (k, v) ∈ more → valV (mergeK kvs more) k = some v
  | [], _, _, _, _, h => by cases h
  | p :: r, kvs, k, v, hn, h => by
    obtain ⟨h1, h2⟩ := List.nodup_cons.mp (show (p.1 :: r.map (·.1)).Nodup from hn)
    show valV (mergeK (putK kvs p.1 p.2) r) k = some v
    rcases List.mem_cons.mp h with e | e
    · subst e
      rw [merge_miss r _ k fun q hq z => h1 (List.mem_map.mpr ⟨q, hq, z⟩), valV_put, if_pos rfl]
    · exact merge_hit r _ k v h2 e
abbrev kvsOf (ys zs : List Str) : List (L2.Key × V) := (ys.zip zs).map fun q => (Sum.inr q.1, V.str q.2)
theorem zip_map1 : ∀ (ys zs : List Str), ys.length = zs.length → (ys.zip zs).map (·.1) = ys
  | [], _, _ => by rw [List.zip_nil_left]; rfl
  | y :: r, [], h => by cases h
  | y :: r, z :: q, h => by
    show y :: (r.zip q).map (·.1) = _
    rw [zip_map1 r q (by simpa using h)]
theorem zip_map2 : ∀ (ys zs : List Str), ys.length = zs.length → (ys.zip zs).map (·.2) = zs
  | [], [], _ => rfl
  | [], _ :: _, h => by cases h
  | y :: r, [], h => by cases h
  | y :: r, z :: q, h => by
    show z :: (r.zip q).map (·.2) = _
    rw [zip_map2 r q (by simpa using h)]
theorem kvs_fst {ys zs : List Str} (h : ys.length = zs.length) : (kvsOf ys zs).map (fun q => kV q.1) = ys.map V.str := by
  have := congrArg (List.map V.str) (zip_map1 ys zs h)
  rw [List.map_map] at this
  rw [List.map_map]
  exact this
theorem kvs_snd {ys zs : List Str} (h : ys.length = zs.length) : (kvsOf ys zs).map (·.2) = zs.map V.str := by
  have := congrArg (List.map V.str) (zip_map2 ys zs h)
  rw [List.map_map] at this
  rw [List.map_map]
  exact this
theorem names_of {ys zs : List Str} (hl : ys.length = zs.length) (n1 : ys.Nodup) (n2 : zs.Nodup) : ∃ ρ : Str → Str, (∀ c ∈ ys, valV (mergeK [] (kvsOf ys zs)) (Sum.inr c) = some (.str (ρ c)) ∧ ρ c ∈ zs) ∧ ∀ a ∈ ys, ∀ b ∈ ys, ρ a = ρ b → a = b := by
  have ix : ∀ c ∈ ys, ∃ i, ys[i]? = some c := fun c hc => List.mem_iff_getElem?.mp hc
  have keys : ((kvsOf ys zs).map (·.1)).Nodup := by
    have e : (kvsOf ys zs).map (·.1) = ys.map (Sum.inr : Str → L2.Key) := by
      have := congrArg (List.map (Sum.inr : Str → L2.Key)) (zip_map1 ys zs hl)
      rw [List.map_map] at this
      rw [List.map_map]
      exact this
    rw [e]
    exact List.Pairwise.map _ (fun a b h z => h (Sum.inr.inj z)) n1
  have at_ : ∀ (i : Nat) (c : Str), ys[i]? = some c → ∃ z, zs[i]? = some z ∧ valV (mergeK [] (kvsOf ys zs)) (Sum.inr c) = some (.str z) := fun i c hi => by
    have hlt : i < zs.length := by
      have := (List.getElem?_eq_some_iff.mp hi).1
      omega
    refine ⟨zs[i], List.getElem?_eq_getElem hlt, merge_hit _ _ _ _ keys ?_⟩
    refine List.mem_map.mpr ⟨(c, zs[i]), List.mem_of_getElem? (i := i) ?_, rfl⟩
    rw [List.getElem?_zip_eq_some]
    exact ⟨hi, List.getElem?_eq_getElem hlt⟩
  refine ⟨fun c => match valV (mergeK [] (kvsOf ys zs)) (Sum.inr c) with | some (.str z) => z | _ => c, fun c hc => ?_, fun a ha b hb e => ?_⟩
  · obtain ⟨i, hi⟩ := ix c hc
    obtain ⟨z, hz, hv⟩ := at_ i c hi
    simp only [hv]
    exact ⟨trivial, List.mem_of_getElem? hz⟩
  · obtain ⟨i, hi⟩ := ix a ha
    obtain ⟨j, hj⟩ := ix b hb
    obtain ⟨z, hz, hv⟩ := at_ i a hi
    obtain ⟨y, hy, hw⟩ := at_ j b hj
    simp only [hv, hw] at e
    subst e
    have hij : i = j := (List.getElem?_inj (List.getElem?_eq_some_iff.mp hz).1 n2).mp (hz.trans hy.symm)
    subst hij
    exact Option.some.inj (hi.symm.trans hj)
end Ln


set_option Elab.async false
set_option linter.all false
set_option maxRecDepth 100000
set_option maxHeartbeats 16000000
namespace Ln
open PySem PySem.Spec PyProof.Rows L2 GxR
section
variable {P : Program} {w : World} {K : PySem.W.Frag} {mg : Str → Option Value} {base : Heap} {Ps : List Addr}
def spLaw (K : PySem.W.Frag) (Ps : List Addr) : Sp := fun vs H Q _ => ∃ (a : Addr) (ns : List Int), vs = [.ref a] ∧ SqL K H a (ns.map V.int) ∧ Tabs Ps H ∧ ∀ H', Kp Ps H H' → Q (.bl true) H'
abbrev rInt1 : List V → Hp → VK → Prop := fun xs H Q => (∃ i, xs = [.int i] ∧ Q (.int i) H) ∨ ∃ k, xs = [.bl k] ∧ Q (.int (if k then 1 else 0)) H
theorem ok_law4 {f fS fD fM fV fH fR fP fE : Addr} {fd fdS fdD fdM fdV fdH fdR fdP fdE : FuncData} (F : Fun K "law" "law" sLaw f fd) (B : Bi mg) (B2 : Bl mg) (Bi1 : mg "int" = none) (Bdc : mg "dict" = none)
    (GS : FnOk P w K mg base CX0 1 fS fdS ["script", "k"] (spSource K)) (mgS : mg "_law_source" = some (.ref fS)) (kS : PySem.W.keepIn K (.ref fS) = true) (bS : Binds K fdS ["script", "k"] [])
    (GD : FnOk P w K mg base CX0 1 fD fdD ["source", "limit"] spDraw) (mgD : mg "_law_draw" = some (.ref fD)) (kD : PySem.W.keepIn K (.ref fD) = true) (bD : Binds K fdD ["source", "limit"] [])
    (GM : FnOk P w K mg base CX0 2 fM fdM ["source", "things"] (spMixed K)) (mgM : mg "_law_mixed" = some (.ref fM)) (kM : PySem.W.keepIn K (.ref fM) = true) (bM : Binds K fdM ["source", "things"] [])
    (GV : FnOk P w K mg base CX0 3 fV fdV ["source", "count"] spVeh) (mgV : mg "_law_vehicles" = some (.ref fV)) (kV : PySem.W.keepIn K (.ref fV) = true) (bV : Binds K fdV ["source", "count"] [])
    (GH : FnOk P w K mg base CX0 2 fH fdH ["source", "present", "spare", "most"] (spHap K)) (mgH : mg "_law_happened" = some (.ref fH)) (kH : PySem.W.keepIn K (.ref fH) = true) (bH : Binds K fdH ["source", "present", "spare", "most"] [])
    (GR : FnOk P w K mg base CX0 8 fR fdR ["start", "log", "sides"] (spReplay K Ps)) (mgR : mg "replay" = some (.ref fR)) (kR : PySem.W.keepIn K (.ref fR) = true) (bR : Binds K fdR ["start", "log", "sides"] [])
    (GP : FnOk P w K mg base CX0 9 fP fdP ["initial", "happened", "moves", "cut"] (spPcs K Ps)) (mgP : mg "_law_pieces_right" = some (.ref fP)) (kP : PySem.W.keepIn K (.ref fP) = true) (bP : Binds K fdP ["initial", "happened", "moves", "cut"] [])
    (GE : FnOk P w K mg base CX0 1 fE fdE ["names", "happened"] (spRen K)) (mgE : mg "_law_renamed" = some (.ref fE)) (kE : PySem.W.keepIn K (.ref fE) = true) (bE : Binds K fdE ["names", "happened"] []) :
    FnOk P w K mg base CX0 10 f fd ["script"] (spLaw K Ps) := by
  refine F.ok scLaw4 (fun vs H Q E h => ?_) (fun cdv A outer s H vs Q E hr h => ?_)
  · obtain ⟨a, ns, rfl, _⟩ := h
    rfl
  · obtain ⟨a, ns, rfl, hS, hT, q⟩ := h
    have hu : A.units + 3 + 64 < cLine := hr.units
    have hu1 : A.units + 3 + 1 < cLine := by omega
    have hr1 := hr.mono (show 1 ≤ 9 by decide)
    have hr2 := hr.mono (show 2 ≤ 9 by decide)
    have hr3 := hr.mono (show 3 ≤ 9 by decide)
    have hr8 := hr.mono (show 8 ≤ 9 by decide)
    refine ⟨_, pss_cons (ps_for PassesOwn.never rfl (pi_range1 (by rfl) B2.rng (pa_cons (pe_callB (call_max2 rfl) (by rfl) B2.max (by decide +kernel) (pa_cons pe_int (pa_cons (pe_callB (call_min2 rfl) (by rfl) B2.min (by decide +kernel) (pa_cons pe_int (pa_cons (pe_callB call_len_seq (by rfl) B.len PySem.boot_len (pa_cons (pv 0) pa_nil)) pa_nil))) pa_nil))) pa_nil)) (pg_name (i := 1) scLaw4.nd rfl (.inl rfl))
        (pss_cons (ps_set (i := 2) scLaw4.nd rfl (.inr rfl) (pe_call GS hr1 (by rfl) mgS kS bS .nil pass0 (pa_cons (pv 0) (pa_cons (pv 1) pa_nil))))
        (pss_one (ps_for PassesOwn.never rfl (pi_range1 (by rfl) B2.rng (pa_cons pe_int pa_nil)) (pg_name (i := 3) scLaw4.nd rfl (.inl rfl))
          (pss_cons (ps_set (i := 4) scLaw4.nd rfl (.inl rfl) (pe_call GV hr3 (by rfl) mgV kV bV .nil pass0 (pa_cons (pv 2) (pa_cons (pe_op op_add pe_int (pe_call GD hr1 (by rfl) mgD kD bD .nil pass0 (pa_cons (pv 2) (pa_cons (pe_ix ix_list (pe_lst (pa_cons pe_int (pa_cons pe_int (pa_cons pe_int pa_nil)))) (pe_call GD hr1 (by rfl) mgD kD bD .nil pass0 (pa_cons (pv 2) (pa_cons pe_int pa_nil))) (fun _ _ => rfl)) pa_nil)))) pa_nil))))
          (pss_cons (ps_set (i := 5) scLaw4.nd rfl (.inl rfl) (pe_callTy call_tuple_of (by rfl) B.tup (by decide +kernel) (pa_cons (pe_slice sl_list (pv 4) po_none (po_some (pe_callB (call_min2 rfl) (by rfl) B2.min (by decide +kernel) (pa_cons pe_int (pa_cons (pe_call GD hr1 (by rfl) mgD kD bD .nil pass0 (pa_cons (pv 2) (pa_cons (pe_op op_add (pe_callB call_len_seq (by rfl) B.len PySem.boot_len (pa_cons (pv 4) pa_nil)) pe_int) pa_nil))) pa_nil))))) pa_nil)))
          (pss_cons (ps_set (i := 6) scLaw4.nd rfl (.inl rfl) (pe_call GH hr2 (by rfl) mgH kH bH .nil pass0 (pa_cons (pv 2) (pa_cons (pe_callB call_len_seq (by rfl) B.len PySem.boot_len (pa_cons (pv 5) pa_nil)) (pa_cons (pe_slice sl_list (pv 4) (po_some (pe_callB call_len_seq (by rfl) B.len PySem.boot_len (pa_cons (pv 5) pa_nil))) po_none)
            (pa_cons (pe_ix ix_list (pe_lst (pa_cons pe_int (pa_cons pe_int pa_nil))) (pe_call GD hr1 (by rfl) mgD kD bD .nil pass0 (pa_cons (pv 2) (pa_cons pe_int pa_nil))) (fun _ _ => rfl)) pa_nil))))))
          (pss_cons (ps_setLc (i := 7) (own := [("event", 13)]) (g := gName 13) (tt := tYes) (te := tOp rIxS (tC (.str "LR")) (tCall spDraw [] E0 (tCons (tVar 2) (tCons (tC (.int 2)) tNil)))) (by rfl) scLaw4.nd rfl rfl (sw_true rfl rfl rfl (by decide +kernel)) (pi_list (pv 6))
            (blkOk_by (own := [("event", 13)]) (N := ["script", "k", "source", "turn", "fleet", "initial", "happened", "moves", "final", "gone", "other", "names", "told", "event", "move_v", "one"]) (sc := defScope sLaw) (by decide +kernel))
            (fun _ _ _ _ _ => pg_name (i := 13) scLaw4.nd rfl (Or.inl rfl)) (fun _ _ _ _ _ => pts_nil) (fun _ _ _ _ _ => pe_ix ix_str pe_str (pe_call GD hr1 (by rfl) mgD kD bD .nil pass0 (pa_cons (pv 2) (pa_cons pe_int pa_nil))) (fun _ _ => rfl)))
          (pss_cons (ps_if (pt_not (pt_val (pe_call GP hr (by rfl) mgP kP bP .nil pass0 (pa_cons (pv 5) (pa_cons (pv 6) (pa_cons (pv 7) (pa_cons (pe_call GD hr1 (by rfl) mgD kD bD .nil pass0 (pa_cons (pv 2) (pa_cons (pe_op op_add (pe_callB call_len_seq (by rfl) B.len PySem.boot_len (pa_cons (pv 6) pa_nil)) pe_int) pa_nil))) pa_nil))))))) (pss_one (ps_ret pe_bl)) pss_nil)
          (pss_cons (ps_asg (pe_call GR hr8 (by rfl) mgR kR bR .nil pass0 (pa_cons (pv 5) (pa_cons (pv 6) (pa_cons (pv 7) pa_nil)))) (pg_tup (by rfl) (pgs_cons (pg_name (i := 8) scLaw4.nd rfl (.inl rfl)) (pgs_cons (pg_name (i := 9) scLaw4.nd rfl (.inl rfl)) pgs_nil))))
          (pss_cons (ps_setLc (i := 10) (own := [("move_v", 14)]) (g := gName 14) (tt := tYes) (te := tOp rIxS (tC (.str "LR")) (tCB rInt1 (tCons (tOp rEq (tVar 14) (tC (.str "L"))) tNil))) (by rfl) scLaw4.nd rfl rfl (sw_true rfl rfl rfl (by decide +kernel)) (pi_list (pv 7))
            (blkOk_by (own := [("move_v", 14)]) (N := ["script", "k", "source", "turn", "fleet", "initial", "happened", "moves", "final", "gone", "other", "names", "told", "event", "move_v", "one"]) (sc := defScope sLaw) (by decide +kernel))
            (fun _ _ _ _ _ => pg_name (i := 14) scLaw4.nd rfl (Or.inl rfl)) (fun _ _ _ _ _ => pts_nil) (fun _ _ _ _ _ => pe_ix ix_str pe_str (pe_callTy call_int1 (by rfl) Bi1 (by decide +kernel) (pa_cons (pe_cmpR op_eq (pv 14) pe_str (nomark _)) pa_nil)) (fun _ _ => rfl)))
          (pss_cons (ps_if (pt_cmpR (op_neD hu) (pe_call GR hr8 (by rfl) mgR kR bR .nil pass0 (pa_cons (pe_revT (pv 5)) (pa_cons (pv 6) (pa_cons (pv 10) pa_nil)))) (pe_tup (pa_cons (pe_revT (pv 8)) (pa_cons (pv 9) pa_nil))) (nomark _)) (pss_one (ps_ret pe_bl)) pss_nil)
          (pss_cons (ps_set (i := 11) scLaw4.nd rfl (.inr rfl) (pe_callTy (call_dictP rfl) (by rfl) Bdc (by decide +kernel) (pa_cons (pe_listZip rfl (by rfl) B.lst (by rfl) B.zip (pa_cons (pv 4) (pa_cons (pe_call GM hr2 (by rfl) mgM kM bM .nil pass0 (pa_cons (pv 2) (pa_cons (pv 4) pa_nil))) pa_nil))) pa_nil)))
          (pss_cons (ps_set (i := 12) scLaw4.nd rfl (.inl rfl) (pe_call GR hr8 (by rfl) mgR kR bR .nil pass0 (pa_cons (pe_callTy call_tuple_of (by rfl) B.tup (by decide +kernel) (pa_cons (pe_lc (own := [("one", 15)]) (g := gName 15) (tt := tYes) (te := tDGet (tVar 11) (tVar 15)) (by rfl) scLaw4.nd (pi_tup (pv 5)) (blkOk_by (own := [("one", 15)]) (N := ["script", "k", "source", "turn", "fleet", "initial", "happened", "moves", "final", "gone", "other", "names", "told", "event", "move_v", "one"]) (sc := defScope sLaw) (by decide +kernel)) (fun _ _ _ _ _ => pg_name (i := 15) scLaw4.nd rfl (Or.inl rfl)) (fun _ _ _ _ _ => pts_nil) (fun _ _ _ _ _ => pe_dget hu1 (pv 11) (pv 15) (fun _ _ => rfl))) pa_nil)) (pa_cons (pe_call GE hr1 (by rfl) mgE kE bE .nil pass0 (pa_cons (pv 11) (pa_cons (pv 6) pa_nil))) (pa_cons (pv 7) pa_nil)))))
          (pss_one (ps_if (pt_cmpR (op_neD hu) (pv 12) (pe_tup (pa_cons (pe_callTy call_tuple_of (by rfl) B.tup (by decide +kernel) (pa_cons (pe_lc (own := [("one", 15)]) (g := gName 15) (tt := tYes) (te := tDGet (tVar 11) (tVar 15)) (by rfl) scLaw4.nd (pi_tup (pv 8)) (blkOk_by (own := [("one", 15)]) (N := ["script", "k", "source", "turn", "fleet", "initial", "happened", "moves", "final", "gone", "other", "names", "told", "event", "move_v", "one"]) (sc := defScope sLaw) (by decide +kernel)) (fun _ _ _ _ _ => pg_name (i := 15) scLaw4.nd rfl (Or.inl rfl)) (fun _ _ _ _ _ => pts_nil) (fun _ _ _ _ _ => pe_dget hu1 (pv 11) (pv 15) (fun _ _ => rfl))) pa_nil)) (pa_cons (pe_lc (own := [("one", 15)]) (g := gName 15) (tt := tYes) (te := tDGet (tVar 11) (tVar 15)) (by rfl) scLaw4.nd (pi_list (pv 9)) (blkOk_by (own := [("one", 15)]) (N := ["script", "k", "source", "turn", "fleet", "initial", "happened", "moves", "final", "gone", "other", "names", "told", "event", "move_v", "one"]) (sc := defScope sLaw) (by decide +kernel)) (fun _ _ _ _ _ => pg_name (i := 15) scLaw4.nd rfl (Or.inl rfl)) (fun _ _ _ _ _ => pts_nil) (fun _ _ _ _ _ => pe_dget hu1 (pv 11) (pv 15) (fun _ _ => rfl))) pa_nil))) (nomark _)) (pss_one (ps_ret pe_bl)) pss_nil))))))))))))))))
      (pss_one (ps_ret pe_bl)), ?_⟩
    obtain ⟨c, hc1, hc2⟩ : ∃ c : Nat, (if (if (((ns.map V.int).length : Nat) : Int) < 4 then (((ns.map V.int).length : Nat) : Int) else 4) > 1 then (if (((ns.map V.int).length : Nat) : Int) < 4 then (((ns.map V.int).length : Nat) : Int) else 4) else 1) = (c : Nat) ∧ c ≤ 5 := by
      generalize (ns.map V.int).length = z
      by_cases h1 : ((z : Nat) : Int) < 4
      · rw [if_pos h1]
        by_cases h2 : ((z : Nat) : Int) > 1
        · exact ⟨z, by rw [if_pos h2], by omega⟩
        · exact ⟨1, by rw [if_neg h2]; rfl, by omega⟩
      · rw [if_neg h1]
        exact ⟨4, by rw [if_pos (by decide)]; rfl, by omega⟩
    refine ⟨.ref a, rfl, a, _, rfl, .inl hS, _, _, rfl, _, _, rfl, ?_⟩
    rw [hc1]
    refine ⟨_, rfl, by omega, by omega, ?_⟩
    refine for_range (lo := 0) (n := ((c : Nat) : Int).toNat) (fun i σ H' => ∃ v1 v2 v3 v4 v5 v6 v7 v8 v9 v10 v11 v12 v13 v14 v15 : Option V, σ = [some (.ref a), v1, v2, v3, v4, v5, v6, v7, v8, v9, v10, v11, v12, v13, v14, v15] ∧ Kp Ps H H') ?_ ?_ ?_
    · exact ⟨none, none, none, none, none, none, none, none, none, none, none, none, none, none, none, rfl, Kp.refl hT⟩
    · rintro i σ H1 hi ⟨v1, v2, v3, v4, v5, v6, v7, v8, v9, v10, v11, v12, v13, v14, v15, rfl, k1⟩
      have hi5 : i < 5 := by
        rw [Int.toNat_natCast] at hi
        omega
      refine ⟨.ref a, rfl, _, rfl, a, ns, i, by rw [Int.zero_add]; rfl, k1.seqL hT hS, by omega, fun s0 l0 hs0 hl0 => ?_⟩
      have hs00 : H s0 = none := k1.free hT hs0
      have k2 : Kp Ps H (upd H1 s0 (.lst l0)) := k1.upd hT hs00
      have hs1 : (upd H1 s0 (.lst l0)) s0 = some (.lst l0) := upd_same
      generalize upd H1 s0 (.lst l0) = H2 at k2 hs1 ⊢
      refine ⟨4, rfl, by decide, by decide, ?_⟩
      refine for_range (lo := 0) (n := 4) (fun j σ H' => ∃ (v3 v4 v5 v6 v7 v8 v9 v10 v11 v12 v13 v14 v15 : Option V) (l : List V), σ = [some (.ref a), some (.int (0 + (i : Int))), some (.ref s0), v3, v4, v5, v6, v7, v8, v9, v10, v11, v12, v13, v14, v15] ∧ Kp Ps H H' ∧ H' s0 = some (.lst l) ∧ SrcV (1000 * j) l) ?_ ?_ ?_
      · exact ⟨v3, v4, v5, v6, v7, v8, v9, v10, v11, v12, v13, v14, v15, l0, rfl, k2, hs1, hl0⟩
      · rintro j σ H3 hj ⟨v3, v4, v5, v6, v7, v8, v9, v10, v11, v12, v13, v14, v15, l, rfl, k3, hs3, hl3⟩
        -- the cars
        refine ⟨.ref s0, rfl, .ref s0, rfl, by show 3 ≤ sizeLine; decide, fun p hp => ?_⟩
        have kA : Kp Ps H (upd H3 p (.lst [.int 6, .int 30, .int 160])) := k3.upd hT (k3.free hT hp)
        have sA : (upd H3 p (.lst [.int 6, .int 30, .int 160])) s0 = some (.lst l) := by rw [upd_ne (ne_of_none hs3 hp)]; exact hs3
        have pA : (upd H3 p (.lst [.int 6, .int 30, .int 160])) p = some (.lst [.int 6, .int 30, .int 160]) := upd_same
        have nps : p ≠ s0 := (ne_of_none hs3 hp).symm
        generalize upd H3 p (.lst [.int 6, .int 30, .int 160]) = HA at kA sA pA ⊢
        refine ⟨.ref s0, rfl, s0, l, 1000 * j, 3, rfl, sA, hl3, by omega, by decide, by decide, fun l1 r1 hl1 h10 h13 => ?_⟩
        obtain ⟨lim, hlim, hl_1, hl_2⟩ := ix3 h10 h13
        refine ⟨p, _, r1, _, rfl, rfl, .inl (.inl (by rw [upd_ne nps]; exact pA)), hlim, s0, l1, 1000 * j + 1, lim, rfl, upd_same, hl1, by omega, hl_1, by omega, fun l2 r2 hl2 h20 h2m => ?_⟩
        obtain ⟨c2, rfl⟩ : ∃ c2 : Nat, r2 = (c2 : Int) := ⟨r2.toNat, by omega⟩
        refine ⟨_, _, rfl, rfl, s0, l2, 1000 * j + 2, 1 + c2, ?_, upd_same, hl2, by omega, by omega, fun H4 p2 ys l4 ch4 hp2 hys hcar hnd hl4 hs4 hp4 => ?_⟩
        · show _ = [V.ref s0, V.int ((1 + c2 : Nat) : Int)]
          rw [Int.natCast_add]
          rfl
        have k4 : Kp Ps H H4 := ((kA.srcU hT hs00 (o := .lst l1)).srcU hT hs00 (o := .lst l2)).ch hT hs00 upd_same ch4
        have hp20 : H p2 = none := ((kA.srcU hT hs00 (o := .lst l1)).srcU hT hs00 (o := .lst l2)).free hT hp2
        have np2 : p2 ≠ s0 := fun z => by
          rw [z, upd_same] at hp2
          cases hp2
        have hyl : ys.length ≤ 160 := by omega
        -- the lane
        refine ⟨.ref p2, rfl, .ref s0, rfl, .ref p2, rfl, p2, _, rfl, .inl (.inl (.inl hp4)), _, _, rfl, rfl, s0, l4, 1000 * j + 2 + 161, _, rfl, hs4, hl4, by omega, by rw [List.length_map]; omega, by rw [List.length_map]; omega, fun l5 r3 hl5 h30 h3m => ?_⟩
        obtain ⟨kk, hkk, hkm⟩ : ∃ kk : Nat, (if r3 < 40 then r3 else 40) = (kk : Int) ∧ kk ≤ 40 := by
          by_cases h : r3 < 40
          · rw [if_pos h]
            exact ⟨r3.toNat, by omega, by omega⟩
          · rw [if_neg h]
            exact ⟨40, rfl, by omega⟩
        refine ⟨_, _, rfl, _, rfl, ?_⟩
        rw [hkk]
        have k5 : Kp Ps H (upd H4 s0 (.lst l5)) := k4.srcU hT hs00
        have s5 : (upd H4 s0 (.lst l5)) s0 = some (.lst l5) := upd_same
        have f5 : (upd H4 s0 (.lst l5)) p2 = some (.lst (ys.map V.str)) := by rw [upd_ne np2]; exact hp4
        generalize upd H4 s0 (.lst l5) = H5 at k5 s5 f5 ⊢
        refine ⟨p2, _, rfl, .inl (.inl f5), fun p3 hp3 => ?_⟩
        rw [cut_take, ← List.map_take]
        have k6 := k5.upd hT (k5.free hT hp3) (o := .lst ((ys.take kk).map V.str))
        have s6 : (upd H5 p3 (.lst ((ys.take kk).map V.str))) s0 = some (.lst l5) := by rw [upd_ne (ne_of_none s5 hp3)]; exact s5
        have f6 : (upd H5 p3 (.lst ((ys.take kk).map V.str))) p2 = some (.lst (ys.map V.str)) := by rw [upd_ne (ne_of_none f5 hp3)]; exact f5
        have g6 : (upd H5 p3 (.lst ((ys.take kk).map V.str))) p3 = some (.lst ((ys.take kk).map V.str)) := upd_same
        generalize upd H5 p3 (.lst ((ys.take kk).map V.str)) = H6 at k6 s6 f6 g6 ⊢
        refine ⟨p3, _, rfl, .inl ⟨.inl (.inl g6), fun t ht => ?_⟩⟩
        have k7 := k6.upd hT (k6.free hT ht) (o := .tup ((ys.take kk).map V.str))
        have s7 : (upd H6 t (.tup ((ys.take kk).map V.str))) s0 = some (.lst l5) := by rw [upd_ne (ne_of_none s6 ht)]; exact s6
        have f7 : (upd H6 t (.tup ((ys.take kk).map V.str))) p2 = some (.lst (ys.map V.str)) := by rw [upd_ne (ne_of_none f6 ht)]; exact f6
        have t7 : (upd H6 t (.tup ((ys.take kk).map V.str))) t = some (.tup ((ys.take kk).map V.str)) := upd_same
        generalize upd H6 t (.tup ((ys.take kk).map V.str)) = H7 at k7 s7 f7 t7 ⊢
        have hxl : (ys.take kk).length ≤ ys.length := by
          rw [List.length_take]
          exact Nat.min_le_right _ _
        have hxk : (ys.take kk).length ≤ 40 := by
          rw [List.length_take]
          omega
        have hsplit : ys.take kk ++ ys.drop (ys.take kk).length = ys := by
          by_cases h : kk ≤ ys.length
          · rw [List.length_take, Nat.min_eq_left h, List.take_append_drop]
          · rw [List.take_of_length_le (by omega), List.drop_length, List.append_nil]
        generalize ys.take kk = xs at *
        generalize hzs : ys.drop xs.length = zs at hsplit
        have hzl : zs.length ≤ 400 := by
          rw [← hzs, List.length_drop]
          omega
        have hxc : ∀ x ∈ xs, carB x = true := fun x hx => List.all_eq_true.mp hcar x (by rw [← hsplit]; exact List.mem_append_left _ hx)
        have hzc : ∀ x ∈ zs, carB x = true := fun x hx => List.all_eq_true.mp hcar x (by rw [← hsplit]; exact List.mem_append_right _ hx)
        have hnd0 : ys.Nodup := hnd
        rw [← hsplit, List.nodup_append] at hnd
        obtain ⟨nd1, nd2, nd3⟩ := hnd
        have hlaneB : laneB xs = true := by
          unfold Ln.laneB
          rw [Bool.and_eq_true]
          exact ⟨List.all_eq_true.mpr hxc, decide_eq_true nd1⟩
        -- the log
        refine ⟨.ref s0, rfl, .ref t, rfl, t, _, rfl, .inr (SqT.of t7), .ref p2, rfl, .ref t, rfl, t, _, rfl, .inr (SqT.of t7), _, rfl, p2, _, rfl, .inl (.inl f7), fun p4 hp4 => ?_⟩
        rw [cut_drop (by rw [List.length_map, List.length_map]; exact hxl), List.length_map, ← List.map_drop, hzs]
        have k8 := k7.upd hT (k7.free hT hp4) (o := .lst (zs.map V.str))
        have s8 : (upd H7 p4 (.lst (zs.map V.str))) s0 = some (.lst l5) := by rw [upd_ne (ne_of_none s7 hp4)]; exact s7
        have t8 : (upd H7 p4 (.lst (zs.map V.str))) t = some (.tup (xs.map V.str)) := by rw [upd_ne (ne_of_none t7 hp4)]; exact t7
        have g8 : (upd H7 p4 (.lst (zs.map V.str))) p4 = some (.lst (zs.map V.str)) := upd_same
        have np4 : p4 ≠ s0 := (ne_of_none s7 hp4).symm
        have f8 : (upd H7 p4 (.lst (zs.map V.str))) p2 = some (.lst (ys.map V.str)) := by rw [upd_ne (ne_of_none f7 hp4)]; exact f7
        generalize upd H7 p4 (.lst (zs.map V.str)) = H8 at k8 s8 t8 g8 f8 ⊢
        refine ⟨by show 2 ≤ sizeLine; decide, fun p5 hp5 => ?_⟩
        have k9 := k8.upd hT (k8.free hT hp5) (o := .lst [.int 8, .int 120])
        have s9 : (upd H8 p5 (.lst [.int 8, .int 120])) s0 = some (.lst l5) := by rw [upd_ne (ne_of_none s8 hp5)]; exact s8
        have t9 : (upd H8 p5 (.lst [.int 8, .int 120])) t = some (.tup (xs.map V.str)) := by rw [upd_ne (ne_of_none t8 hp5)]; exact t8
        have g9 : (upd H8 p5 (.lst [.int 8, .int 120])) p4 = some (.lst (zs.map V.str)) := by rw [upd_ne (ne_of_none g8 hp5)]; exact g8
        have e9 : (upd H8 p5 (.lst [.int 8, .int 120])) p5 = some (.lst [.int 8, .int 120]) := upd_same
        have np5 : p5 ≠ s0 := (ne_of_none s8 hp5).symm
        have f9 : (upd H8 p5 (.lst [.int 8, .int 120])) p2 = some (.lst (ys.map V.str)) := by rw [upd_ne (ne_of_none f8 hp5)]; exact f8
        generalize upd H8 p5 (.lst [.int 8, .int 120]) = H9 at k9 s9 t9 g9 e9 f9 ⊢
        refine ⟨.ref s0, rfl, s0, l5, 1000 * j + 2 + 161 + 1, 2, rfl, s9, hl5, by omega, by decide, by decide, fun l6 r4 hl6 h40 h4m => ?_⟩
        obtain ⟨most, hmost, hmm⟩ := ix2 h40 h4m
        have nts : t ≠ s0 := fun z => by
          rw [z, s9] at t9
          cases t9
        refine ⟨p5, _, r4, _, rfl, rfl, .inl (.inl (by rw [upd_ne np5]; exact e9)), hmost, s0, p4, l6, 1000 * j + 2 + 161 + 1 + 1, xs.length, most, zs, rfl, upd_same, hl6, by omega, hmm, by omega, .inl (.inl (by rw [upd_ne np4]; exact g9)), np4, hzl, hzc,
          fun HB p7 as es k' m l7 ch hp7 hfr hel har hct hl7 sB hp7B hev => ?_⟩
        have kB : Kp Ps H HB := (k9.srcU hT hs00 (o := .lst l6)).ch hT hs00 upd_same ch
        have np7 : p7 ≠ s0 := fun z => by
          rw [z, upd_same] at hp7
          cases hp7
        have hp70 : H p7 = none := (k9.srcU hT hs00 (o := .lst l6)).free hT hp7
        have fB : HB p2 = some (.lst (ys.map V.str)) := ch _ _ (by rw [upd_ne np2]; exact f9) np2
        have tB : HB t = some (.tup (xs.map V.str)) := ch _ _ (by rw [upd_ne nts]; exact t9) nts
        have hlogB : logB xs xs.length es = true := by
          refine logB_of es xs _ m hct (fun d hd => ?_) ?_
          · rw [har] at hd
            have hz := List.mem_of_mem_take hd
            exact ⟨hzc d hz, fun hx => nd3 d hx d hz rfl⟩
          · rw [har]
            exact nd2.sublist (List.take_sublist _ _)
        have hlen := Paired.length hev
        -- the moves
        refine ⟨.ref p7, rfl, p7, rfl, ⟨_, .inl (.inl hp7B)⟩, fun D hD => ?_⟩
        have hD0 : H D = none := kB.free hT hD
        have nD7 : D ≠ p7 := (ne_of_none hp7B hD).symm
        have nDs : D ≠ s0 := (ne_of_none sB hD).symm
        refine lc_list (K := K) (a := p7) (xs := as.map V.ref) (fun i H' => Kp Ps H H' ∧ Ch s0 HB H' ∧ i ≤ es.length ∧ ∃ (l' : List V) (sd : List Str), H' s0 = some (.lst l') ∧ SrcV (1000 * j + 2 + 161 + 1 + 1 + 122 + i) l' ∧ H' D = some (.lst (sd.map V.str)) ∧ sd.length = i ∧ sd.all sideB = true) ?_ ?_ ?_ ?_
        · exact ⟨kB.upd hT hD0, Ch.refl.new hD, Nat.zero_le _, l7, [], by rw [upd_ne nDs.symm]; exact sB, hl7, upd_same, rfl, rfl⟩
        · rintro i' H' _ ⟨_, ch', _⟩
          exact .inl (.inl (ch' _ _ hp7B np7))
        · rintro i' y H' hi' ⟨k', ch', hie, l', sd, hs', hl', hD', hsl, hsb⟩
          have hlt : i' < es.length := by
            have h1 := (List.getElem?_eq_some_iff.mp hi').1
            rw [List.length_map] at h1
            omega
          refine ⟨rfl, ?_⟩
          unfold tYes
          refine iteT ⟨.ref s0, rfl, s0, l', _, 2, rfl, hs', hl', by omega, by decide, by decide, fun l2' r5 hl2' h50 h5m => ?_⟩
          obtain ⟨cc, hcc, hside⟩ := ixLR h50 h5m
          refine ⟨_, r5, cc, rfl, rfl, by show 2 ≤ sizeLine; decide, hcc, _, by rw [upd_ne nDs]; exact hD', ?_, (k'.srcU hT hs00).upd hT hD0, (ch'.trans Ch.src).new hD, hlt, l2', sd ++ [⟨#[cc]⟩], ?_, hl2', ?_, ?_, ?_⟩
          · rw [List.length_map]
            exact small1000 (by omega)
          · rw [upd_ne nDs.symm, upd_same]
          · rw [upd_same, List.map_append]
            rfl
          · rw [List.length_append, hsl]
            rfl
          · rw [List.all_append, hsb]
            show (true && (sideB ⟨#[cc]⟩ && true)) = true
            rw [hside]
            rfl
        rintro HC ⟨kC, chC, _, l8, sd, sC, hl8, hDC, hsl, hsb⟩
        rw [List.length_map, hlen] at hsl hl8
        have hSit : Sit HC t p7 D xs as es sd := ⟨chC _ _ tB nts, chC _ _ hp7B np7, hDC, hev.kt fun b xs e => chC _ _ e (fun z => by rw [z, sB] at e; cases e), hlaneB, hlogB, hsl, hsb, by omega, by omega⟩
        have fC := chC _ _ fB np2
        -- in pieces
        refine ⟨.ref t, rfl, .ref p7, rfl, .ref D, rfl, .ref s0, rfl, .ref p7, rfl, p7, _, rfl, .inl (.inl (.inl hSit.l1)), _, _, rfl, rfl, s0, l8, _, _, rfl, sC, hl8, by omega, by rw [List.length_map]; omega, by rw [List.length_map]; omega, fun l9 r6 hl9 h60 h6m => ?_⟩
        rw [List.length_map, hlen] at h6m
        obtain ⟨cut, rfl⟩ : ∃ cut : Nat, r6 = (cut : Int) := ⟨r6.toNat, by omega⟩
        have hSitD := hSit.src sC np7 nDs (zs := l9)
        have kD' := kC.srcU hT hs00 (o := .lst l9)
        have sD : (upd HC s0 (.lst l9)) s0 = some (.lst l9) := upd_same
        have fD' : (upd HC s0 (.lst l9)) p2 = some (.lst (ys.map V.str)) := by rw [upd_ne np2]; exact fC
        generalize upd HC s0 (.lst l9) = HD at hSitD kD' sD fD' ⊢
        refine ⟨t, p7, D, cut, xs, as, es, sd, rfl, hSitD.hist, by omega, by omega, kD'.tab, fun HE kE => ⟨_, rfl, iteF ?_⟩⟩
        have TE := kE.tab
        have hSitE := hSitD.kp kE kD'.tab
        have sE := kE.lst kD'.tab sD
        have fE' := kE.lst kD'.tab fD'
        have kkE := kD'.trans kE
        -- the whole
        have hhE := hSitE.hist (K := K)
        refine ⟨.ref t, rfl, .ref p7, rfl, .ref D, rfl, t, p7, D, xs, as, es, sd, rfl, hhE.lane, hhE.laneB, hhE.log, hhE.logB, hhE.mv, hhE.len, hhE.sides, TE, fun HF p8 t8 d8 kF p80 t80 d80 p81 t81 d81 => ?_⟩
        refine ⟨p8, [.ref t8, .ref d8], rfl, SqT.of p81, rfl, _, _, rfl, _, _, rfl, rfl, ?_⟩
        have TF := kF.tab
        have kkF := kkE.trans kF
        have hSitF := hSitE.kp kF TE
        have sF := kF.lst TE sE
        have fF := kF.lst TE fE'
        -- the other sides
        refine ⟨.ref D, rfl, D, rfl, ⟨_, SqL.of hSitF.m1⟩, fun O hO => ?_⟩
        refine lc_list (K := K) (a := D) (xs := sd.map V.str) (fun i H' => L2.Same HF H' ∧ i ≤ sd.length ∧ H' O = some (.lst (((sd.take i).map flipS).map V.str))) ?_ ?_ ?_ ?_
        · exact ⟨Same.new (L2.Same.refl HF) hO, Nat.zero_le _, upd_same⟩
        · rintro i' H' _ ⟨sm, _⟩
          exact .inl (.inl (sm _ _ hSitF.m1))
        · rintro i' y H' hi' ⟨sm, hie, hO'⟩
          have hlt : i' < sd.length := by
            have h1 := (List.getElem?_eq_some_iff.mp hi').1
            rw [List.length_map] at h1
            exact h1
          have hev' : sd[i']? = some sd[i'] := List.getElem?_eq_getElem hlt
          obtain rfl : y = V.str sd[i'] := by
            rw [List.getElem?_map, hev'] at hi'
            exact (Option.some.inj hi').symm
          have hsz : ((sd.take i').map flipS).length < sizeLine := by
            rw [List.length_map, List.length_take]
            exact small1000 (by omega)
          have htk : (sd.take (i' + 1)).map flipS = (sd.take i').map flipS ++ [flipS sd[i']] := by rw [List.take_add_one, hev', List.map_append]; rfl
          have fin : ∀ z : Str, z = flipS sd[i'] → ∃ acc, H' O = some (.lst acc) ∧ acc.length < sizeLine ∧ L2.Same HF (upd H' O (.lst (acc ++ [.str z]))) ∧ i' + 1 ≤ sd.length ∧ (upd H' O (.lst (acc ++ [.str z]))) O = some (.lst (((sd.take (i' + 1)).map flipS).map V.str)) := fun z hz => by
            refine ⟨_, hO', by rw [List.length_map]; exact hsz, Same.new sm hO, hlt, ?_⟩
            rw [upd_same, htk, hz, List.map_append]
            rfl
          refine ⟨rfl, ?_⟩
          unfold tYes
          rcases side_cases (List.all_eq_true.mp hsb _ (List.getElem_mem hlt)) with e | e
          · refine iteT ⟨.str sd[i'], rfl, rfl, .inr ⟨_, rfl, ?_⟩⟩
            rw [e, decide_eq_true (rfl : V.str "L" = V.str "L")]
            refine ⟨"LR", 1, 82, rfl, rfl, by show 2 ≤ sizeLine; decide, atI_nat (j := 1) rfl, ?_⟩
            rw [e] at fin
            exact fin _ (by rw [show flipS "L" = "R" from if_pos rfl]; rfl)
          · refine iteT ⟨.str sd[i'], rfl, rfl, .inr ⟨_, rfl, ?_⟩⟩
            rw [e, decide_eq_false (fun z => ne_RL (V.str.inj z))]
            refine ⟨"LR", 0, 76, rfl, rfl, by show 2 ≤ sizeLine; decide, atI_nat (j := 0) rfl, ?_⟩
            rw [e] at fin
            exact fin _ (by rw [show flipS "R" = "L" from if_neg ne_RL]; rfl)
        rintro HG ⟨smG, _, hOG⟩
        rw [List.length_map, List.take_length] at hOG
        have kG : Kp Ps HF HG := Same.kp smG TF
        have TG := kG.tab
        have kkG := kkF.trans kG
        have hSitG := hSitF.kp kG TF
        have hhG := hSitG.hist (K := K)
        have t8G := smG _ _ t81
        have d8G := smG _ _ d81
        have sG := kG.lst TF sF
        have fG := kG.lst TF fF
        -- everything mirrored
        have hXc : ∀ x, x ∈ (endR xs es sd).1 ∨ x ∈ (endR xs es sd).2 → x ∈ ys := fun x hx => by
          rcases atR_mem _ x hx with e | e
          · rw [← hsplit]
            exact List.mem_append_left _ e
          · rw [har] at e
            rw [← hsplit]
            exact List.mem_append_right _ (List.mem_of_mem_take e)
        have hcy : ∀ x ∈ ys, carB x = true := fun x hx => List.all_eq_true.mp hcar x hx
        have hl1 : (endR xs es sd).1.length ≤ 1000 := by
          have := lane_few (xs := xs) (es := es) (sd := sd)
          omega
        have hl2 : (endR xs es sd).2.length ≤ 1000 := by
          have := (atR_le (xs := xs) (es := es) (sd := sd) es.length).2
          show (atR xs es sd es.length).2.length ≤ 1000
          omega
        have no : ∀ d : PyData, d.canLay0 = true → (!PyData.eqv d d) = false := fun d hd => by
          rw [SeqAt.eqv_refl _ hd]
          rfl
        refine ⟨.ref t, rfl, t, _, rfl, SqT.of hSitG.t1, fun r1 hr1 => ?_⟩
        rw [← List.map_reverse]
        have kR1 : Kp Ps HG (upd HG r1 (.tup (xs.reverse.map V.str))) := Kp.new TG hr1
        have eR1 : (upd HG r1 (.tup (xs.reverse.map V.str))) r1 = some (.tup (xs.reverse.map V.str)) := upd_same
        generalize upd HG r1 (.tup (xs.reverse.map V.str)) = HH at kR1 eR1 ⊢
        have TH := kR1.tab
        have hhH := hhG.kp kR1 TG
        refine ⟨.ref p7, rfl, .ref O, rfl, r1, p7, O, xs.reverse, as, es, sd.map flipS, rfl, ⟨SqT.of eR1, by rw [List.length_reverse]; omega, fun x hx => car_sz (hxc x (List.mem_reverse.mp hx))⟩, laneB_rev hlaneB, hhH.log, logB_rev hlogB, SqL.of (kR1.lst TG hOG), by rw [List.length_map]; exact hsl,
          List.all_eq_true.mpr fun x hx => (by obtain ⟨z, _, rfl⟩ := List.mem_map.mp hx; exact flip_side), TH, fun HI p9 t9 d9 kI p90 t90 d90 p91 t91 d91 => ?_⟩
        have TI := kI.tab
        have kGI : Kp Ps HG HI := kR1.trans kI
        have efl := endR_flip (xs := xs) hsl hsb
        have t9' : HI t9 = some (.tup ((endR xs es sd).1.reverse.map V.str)) := by
          have e : (endR xs.reverse es (sd.map flipS)).1 = (endR xs es sd).1.reverse := by rw [efl]
          rw [← e]
          exact t91
        have d9' : HI d9 = some (.lst ((endR xs es sd).2.map V.str)) := by
          have e : (endR xs.reverse es (sd.map flipS)).2 = (endR xs es sd).2 := by rw [efl]
          rw [← e]
          exact d91
        refine ⟨.ref t8, rfl, t8, _, rfl, SqT.of (kGI.tup TG t8G), fun r2 hr2 => ?_⟩
        rw [← List.map_reverse]
        have kR2 : Kp Ps HI (upd HI r2 (.tup ((endR xs es sd).1.reverse.map V.str))) := Kp.new TI hr2
        have eR2 : (upd HI r2 (.tup ((endR xs es sd).1.reverse.map V.str))) r2 = some (.tup ((endR xs es sd).1.reverse.map V.str)) := upd_same
        show tCons (tVar 9) tNil _ (upd HI r2 (.tup ((endR xs es sd).1.reverse.map V.str))) _
        generalize upd HI r2 (.tup ((endR xs es sd).1.reverse.map V.str)) = HJ at kR2 eR2 ⊢
        have TJ := kR2.tab
        refine ⟨.ref d8, rfl, by show 2 ≤ sizeLine; decide, fun q2 hq2 => ?_⟩
        have kq2 : Kp Ps HJ (upd HJ q2 (.tup [.ref r2, .ref d8])) := Kp.new TJ hq2
        have eq2 : (upd HJ q2 (.tup [.ref r2, .ref d8])) q2 = some (.tup [.ref r2, .ref d8]) := upd_same
        generalize upd HJ q2 (.tup [.ref r2, .ref d8]) = HK at kq2 eq2 ⊢
        have TK := kq2.tab
        have kIK : Kp Ps HI HK := kR2.trans kq2
        have kGK : Kp Ps HG HK := kGI.trans kIK
        have hGm : Gd (dPair (endR xs es sd).1.reverse (endR xs es sd).2) 3 30000 := gd_pair (fun x hx => hcy x (hXc x (.inl (List.mem_reverse.mp hx)))) (fun x hx => hcy x (hXc x (.inr hx))) (by rw [List.length_reverse]; exact hl1) hl2
        refine ⟨_, _, dp_pair (SqT.of (kIK.tup TI p91)) (SqT.of (kIK.tup TI t9')) (SqL.of (kIK.lst TI d9')), dp_pair (SqT.of eq2) (SqT.of (kq2.tup TJ eR2)) (SqL.of (kGK.lst TG d8G)), hGm.shaped (by decide), hGm.shaped (by decide), _, rfl, ?_⟩
        rw [no _ hGm.lay]
        refine iteF ?_
        have kkK := kkG.trans kGK
        have hSitK := hSitG.kp kGK TG
        have sK := kGK.lst TG sG
        have fK := kGK.lst TG fG
        have t8K := kGK.tup TG t8G
        have d8K := kGK.lst TG d8G
        -- other names
        have nt8 : t8 ≠ s0 := fun z => by
          rw [z, sK] at t8K
          cases t8K
        have nd8 : d8 ≠ s0 := (ne_of_none sE d80).symm
        refine ⟨.ref p2, rfl, .ref s0, rfl, .ref p2, rfl, s0, p2, l9, _, ys, rfl, sK, hl9, by omega, SqL.of fK, np2, by omega, fun HM pm ys2 l10 chm pm0 perm hl10 sM pmM => ?_⟩
        have kM : Kp Ps H HM := kkK.ch hT hs00 sK chm
        have TM := kM.tab
        have hylen := perm.length_eq
        have hSitM : Sit HM t p7 D xs as es sd := { hSitK with t1 := chm _ _ hSitK.t1 nts, l1 := chm _ _ hSitK.l1 np7, m1 := chm _ _ hSitK.m1 nDs, ev := hSitK.ev.kt fun b xs e => chm _ _ e (fun z => by rw [z, sK] at e; cases e) }
        have fM := chm _ _ fK np2
        have t8M := chm _ _ t8K nt8
        have d8M := chm _ _ d8K nd8
        refine ⟨p2, pm, kvsOf ys ys2, rfl, by rw [kvs_fst hylen.symm]; exact SqL.of fM, by rw [kvs_snd hylen.symm]; exact SqL.of pmM, fun HZ pz ts kzz pz0 ts0 pzn pz1 pairs => ?_⟩
        have kZ : Kp Ps HM HZ := Same.kp (fun b o e => kzz b o e) TM
        have TZ := kZ.tab
        refine ⟨pz, ts, _, rfl, SqL.of pz1, Paired.imp pairs fun _ _ q => SqT.of q, fun pd hpd => ?_⟩
        have kpd : Kp Ps HZ (upd HZ pd (.dK (mergeK [] (kvsOf ys ys2)))) := Kp.new TZ hpd
        have epd : (upd HZ pd (.dK (mergeK [] (kvsOf ys ys2)))) pd = some (.dK (mergeK [] (kvsOf ys ys2))) := upd_same
        generalize upd HZ pd (.dK (mergeK [] (kvsOf ys ys2))) = HN at kpd epd ⊢
        have TN := kpd.tab
        have kMN : Kp Ps HM HN := kZ.trans kpd
        have kkN := kM.trans kMN
        have hSitN := hSitM.kp kMN TM
        have sN := kMN.lst TM sM
        have t8N := kMN.tup TM t8M
        have d8N := kMN.lst TM d8M
        obtain ⟨ρ, hρ, hρi⟩ := names_of hylen.symm hnd0 (perm.nodup_iff.mpr hnd0)
        have epd1 := epd
        refine ⟨.ref t, rfl, t, rfl, ⟨_, .inl (.inl hSitN.t1)⟩, fun D1 hD1 => ?_⟩
        refine lc_tup (K := K) (a := t) (xs := xs.map V.str) (fun i H' => L2.Same HN H' ∧ i ≤ xs.length ∧ H' D1 = some (.lst (((xs.take i).map ρ).map V.str))) ?_ ?_ ?_ ?_
        · exact ⟨Same.new (L2.Same.refl HN) hD1, Nat.zero_le _, upd_same⟩
        · rintro i' H' _ ⟨sm, _⟩
          exact .inl (.inl (sm _ _ hSitN.t1))
        · rintro i' y H' hi' ⟨sm, hie, hO'⟩
          have hlt : i' < xs.length := by
            have h1 := (List.getElem?_eq_some_iff.mp hi').1
            rw [List.length_map] at h1
            exact h1
          have hev' : xs[i']? = some xs[i'] := List.getElem?_eq_getElem hlt
          obtain rfl : y = V.str xs[i'] := by
            rw [List.getElem?_map, hev'] at hi'
            exact (Option.some.inj hi').symm
          have hc' : xs[i'] ∈ ys := by rw [← hsplit]; exact List.mem_append_left _ (List.getElem_mem hlt)
          refine ⟨rfl, ?_⟩
          unfold tYes
          have g := DGet.k (k := Sum.inr xs[i']) (sm _ _ epd1)
          rw [(hρ _ hc').1] at g
          refine iteT ⟨.ref pd, rfl, .str xs[i'], rfl, pd, .str (ρ xs[i']), rfl, g, _, hO', ?_, Same.new sm hD1, hlt, ?_⟩
          · rw [List.length_map, List.length_map, List.length_take]
            exact small1000 (by omega)
          · rw [upd_same, List.take_add_one, hev', List.map_append, List.map_append]
            rfl
        rintro HQ1 ⟨smQ1, _, hDQ1⟩
        rw [List.length_map, List.take_length] at hDQ1
        have kQ1 : Kp Ps HN HQ1 := Same.kp smQ1 TN
        have TQ1 := kQ1.tab
        refine ⟨D1, _, rfl, .inl ⟨.inl (.inl hDQ1), fun t' ht' => ?_⟩⟩
        have kt' : Kp Ps HQ1 (upd HQ1 t' (.tup ((xs.map ρ).map V.str))) := Kp.new TQ1 ht'
        have et' : (upd HQ1 t' (.tup ((xs.map ρ).map V.str))) t' = some (.tup ((xs.map ρ).map V.str)) := upd_same
        have smt' : L2.Same HN (upd HQ1 t' (.tup ((xs.map ρ).map V.str))) := Same.new smQ1 (smQ1.free ht')
        generalize upd HQ1 t' (.tup ((xs.map ρ).map V.str)) = HR at kt' et' smt' ⊢
        have TR := kt'.tab
        have kNR : Kp Ps HN HR := kQ1.trans kt'
        have hSitR := hSitN.kp kNR TN
        have hinj : ∀ a ∈ xs ++ arrs es, a ∈ ys := fun x hx => by
          rcases List.mem_append.mp hx with e | e
          · rw [← hsplit]
            exact List.mem_append_left _ e
          · rw [har] at e
            rw [← hsplit]
            exact List.mem_append_right _ (List.mem_of_mem_take e)
        have hy2 : ∀ x ∈ ys2, carB x = true := fun x hx => hcy x (perm.mem_iff.mp hx)
        have hρc : ∀ x ∈ ys, carB (ρ x) = true := fun x hx => hy2 _ (hρ x hx).2
        refine ⟨.ref pd, rfl, .ref p7, rfl, pd, p7, _, as, es, ρ, rfl, smt' _ _ epd, fun x hx => (hρ x (hinj x (List.mem_append_right _ hx))).1, SqL.of hSitR.l1, hSitR.ev.at_, by omega, fun HS pn bs smS pn0 pn1 evs => ?_⟩
        have kS : Kp Ps HR HS := Same.kp smS TR
        have TS := kS.tab
        have hSitS := hSitR.kp kS TR
        have hlogR := logB_ren ρ es xs xs.length (fun x hx => hρc x (hinj x hx)) (fun x hx y hy => hρi x (hinj x hx) y (hinj y hy)) hlogB
        have hlaneR : laneB (xs.map ρ) = true := by
          unfold laneB
          rw [Bool.and_eq_true]
          refine ⟨List.all_eq_true.mpr fun x hx => ?_, decide_eq_true ?_⟩
          · obtain ⟨z, hz, rfl⟩ := List.mem_map.mp hx
            exact hρc z (hinj z (List.mem_append_left _ hz))
          · refine List.pairwise_map.mpr (List.Pairwise.imp_of_mem (fun {x y} hx hy h z => h ?_) nd1)
            exact hρi x (hinj x (List.mem_append_left _ hx)) y (hinj y (List.mem_append_left _ hy)) z
        have lgR : LogAt K HS pn bs (es.map (Ev.ren ρ)) := ⟨SqL.of pn1, evs, by rw [List.length_map]; omega, fun x hx => by
          have hx := mem_arrs hx
          rw [arrs_ren] at hx
          obtain ⟨z, hz, rfl⟩ := List.mem_map.mp hx
          exact car_sz (hρc z (hinj z (List.mem_append_right _ hz)))⟩
        have laR : LaneAt K HS t' (xs.map ρ) := ⟨SqT.of (smS _ _ et'), by rw [List.length_map]; omega, fun x hx => car_sz (carsOf hlaneR x hx)⟩
        refine ⟨.ref D, rfl, t', pn, D, xs.map ρ, bs, es.map (Ev.ren ρ), sd, rfl, laR, hlaneR, lgR, by rw [List.length_map]; exact hlogR, SqL.of hSitS.m1, by rw [List.length_map]; exact hsl, hsb, TS, fun HT' p10 t10 d10 kT' p100 t100 d100 p101 t101 d101 => ?_⟩
        have TT := kT'.tab
        have kNT : Kp Ps HN HT' := (kNR.trans kS).trans kT'
        have ern := endR_ren ρ (xs := xs) hsl
        have t10' : HT' t10 = some (.tup (((endR xs es sd).1.map ρ).map V.str)) := by
          have e : (endR (xs.map ρ) (es.map (Ev.ren ρ)) sd).1 = (endR xs es sd).1.map ρ := by rw [ern]
          rw [← e]
          exact t101
        have d10' : HT' d10 = some (.lst (((endR xs es sd).2.map ρ).map V.str)) := by
          have e : (endR (xs.map ρ) (es.map (Ev.ren ρ)) sd).2 = (endR xs es sd).2.map ρ := by rw [ern]
          rw [← e]
          exact d101
        have t8T := kNT.tup TN t8N
        have d8T := kNT.lst TN d8N
        have epd2 : HT' pd = some (.dK (mergeK [] (kvsOf ys ys2))) := kNT.at_ _ _ epd (tab_ne TN epd fun q z => by cases z)
        have sT := kNT.lst TN sN
        refine ⟨.ref p10, rfl, ?_⟩
        refine ⟨.ref t8, rfl, t8, rfl, ⟨_, .inl (.inl t8T)⟩, fun D2 hD2 => ?_⟩
        refine lc_tup (K := K) (a := t8) (xs := (endR xs es sd).1.map V.str) (fun i H' => L2.Same HT' H' ∧ i ≤ (endR xs es sd).1.length ∧ H' D2 = some (.lst ((((endR xs es sd).1.take i).map ρ).map V.str))) ?_ ?_ ?_ ?_
        · exact ⟨Same.new (L2.Same.refl HT') hD2, Nat.zero_le _, upd_same⟩
        · rintro i' H' _ ⟨sm, _⟩
          exact .inl (.inl (sm _ _ t8T))
        · rintro i' y H' hi' ⟨sm, hie, hO'⟩
          have hlt : i' < (endR xs es sd).1.length := by
            have h1 := (List.getElem?_eq_some_iff.mp hi').1
            rw [List.length_map] at h1
            exact h1
          have hev' : (endR xs es sd).1[i']? = some (endR xs es sd).1[i'] := List.getElem?_eq_getElem hlt
          obtain rfl : y = V.str (endR xs es sd).1[i'] := by
            rw [List.getElem?_map, hev'] at hi'
            exact (Option.some.inj hi').symm
          have hc' : (endR xs es sd).1[i'] ∈ ys := hXc _ (.inl (List.getElem_mem hlt))
          refine ⟨rfl, ?_⟩
          unfold tYes
          have g := DGet.k (k := Sum.inr (endR xs es sd).1[i']) (sm _ _ epd2)
          rw [(hρ _ hc').1] at g
          refine iteT ⟨.ref pd, rfl, .str (endR xs es sd).1[i'], rfl, pd, .str (ρ (endR xs es sd).1[i']), rfl, g, _, hO', ?_, Same.new sm hD2, hlt, ?_⟩
          · rw [List.length_map, List.length_map, List.length_take]
            exact small1000 (by omega)
          · rw [upd_same, List.take_add_one, hev', List.map_append, List.map_append]
            rfl
        rintro HQ2 ⟨smQ2, _, hDQ2⟩
        rw [List.length_map, List.take_length] at hDQ2
        have kQ2 : Kp Ps HT' HQ2 := Same.kp smQ2 TT
        have TQ2 := kQ2.tab
        refine ⟨D2, _, rfl, .inl ⟨.inl (.inl hDQ2), fun t3 ht3 => ?_⟩⟩
        have kt3 : Kp Ps HQ2 (upd HQ2 t3 (.tup (((endR xs es sd).1.map ρ).map V.str))) := Kp.new TQ2 ht3
        have et3 : (upd HQ2 t3 (.tup (((endR xs es sd).1.map ρ).map V.str))) t3 = some (.tup (((endR xs es sd).1.map ρ).map V.str)) := upd_same
        have sm3 : L2.Same HT' (upd HQ2 t3 (.tup (((endR xs es sd).1.map ρ).map V.str))) := Same.new smQ2 (smQ2.free ht3)
        generalize upd HQ2 t3 (.tup (((endR xs es sd).1.map ρ).map V.str)) = HU at kt3 et3 sm3 ⊢
        have TU := kt3.tab
        have d8U := sm3 _ _ d8T
        have epd3 := sm3 _ _ epd2
        refine ⟨.ref d8, rfl, d8, rfl, ⟨_, .inl (.inl d8U)⟩, fun D3 hD3 => ?_⟩
        refine lc_list (K := K) (a := d8) (xs := (endR xs es sd).2.map V.str) (fun i H' => L2.Same HU H' ∧ i ≤ (endR xs es sd).2.length ∧ H' D3 = some (.lst ((((endR xs es sd).2.take i).map ρ).map V.str))) ?_ ?_ ?_ ?_
        · exact ⟨Same.new (L2.Same.refl HU) hD3, Nat.zero_le _, upd_same⟩
        · rintro i' H' _ ⟨sm, _⟩
          exact .inl (.inl (sm _ _ d8U))
        · rintro i' y H' hi' ⟨sm, hie, hO'⟩
          have hlt : i' < (endR xs es sd).2.length := by
            have h1 := (List.getElem?_eq_some_iff.mp hi').1
            rw [List.length_map] at h1
            exact h1
          have hev' : (endR xs es sd).2[i']? = some (endR xs es sd).2[i'] := List.getElem?_eq_getElem hlt
          obtain rfl : y = V.str (endR xs es sd).2[i'] := by
            rw [List.getElem?_map, hev'] at hi'
            exact (Option.some.inj hi').symm
          have hc' : (endR xs es sd).2[i'] ∈ ys := hXc _ (.inr (List.getElem_mem hlt))
          refine ⟨rfl, ?_⟩
          unfold tYes
          have g := DGet.k (k := Sum.inr (endR xs es sd).2[i']) (sm _ _ epd3)
          rw [(hρ _ hc').1] at g
          refine iteT ⟨.ref pd, rfl, .str (endR xs es sd).2[i'], rfl, pd, .str (ρ (endR xs es sd).2[i']), rfl, g, _, hO', ?_, Same.new sm hD3, hlt, ?_⟩
          · rw [List.length_map, List.length_map, List.length_take]
            exact small1000 (by omega)
          · rw [upd_same, List.take_add_one, hev', List.map_append, List.map_append]
            rfl
        rintro HQ3 ⟨smQ3, _, hDQ3⟩
        rw [List.length_map, List.take_length] at hDQ3
        have kQ3 : Kp Ps HU HQ3 := Same.kp smQ3 TU
        have TQ3 := kQ3.tab
        refine ⟨by show 2 ≤ sizeLine; decide, fun q3 hq3 => ?_⟩
        have kq3 : Kp Ps HQ3 (upd HQ3 q3 (.tup [.ref t3, .ref D3])) := Kp.new TQ3 hq3
        have eq3 : (upd HQ3 q3 (.tup [.ref t3, .ref D3])) q3 = some (.tup [.ref t3, .ref D3]) := upd_same
        have smq3 : L2.Same HQ3 (upd HQ3 q3 (.tup [.ref t3, .ref D3])) := Same.new (L2.Same.refl HQ3) hq3
        generalize upd HQ3 q3 (.tup [.ref t3, .ref D3]) = HW at kq3 eq3 smq3 ⊢
        have smTW : L2.Same HT' HW := (sm3.trans smQ3).trans smq3
        have hGr : Gd (dPair ((endR xs es sd).1.map ρ) ((endR xs es sd).2.map ρ)) 3 30000 := gd_pair (fun x hx => (by obtain ⟨z, hz, rfl⟩ := List.mem_map.mp hx; exact hρc z (hXc z (.inl hz)))) (fun x hx => (by obtain ⟨z, hz, rfl⟩ := List.mem_map.mp hx; exact hρc z (hXc z (.inr hz)))) (by rw [List.length_map]; exact hl1) (by rw [List.length_map]; exact hl2)
        refine ⟨_, _, dp_pair (SqT.of (smTW _ _ p101)) (SqT.of (smTW _ _ t10')) (SqL.of (smTW _ _ d10')), dp_pair (SqT.of eq3) (SqT.of ((smQ3.trans smq3) _ _ et3)) (SqL.of (smq3 _ _ hDQ3)), hGr.shaped (by decide), hGr.shaped (by decide), _, rfl, ?_⟩
        rw [no _ hGr.lay]
        refine iteF ?_
        exact ⟨_, _, _, _, _, _, _, _, _, _, _, _, _, _, rfl, kkN.trans (kNT.trans (((kQ2.trans kt3).trans kQ3).trans kq3)), smTW _ _ sT, hl10.mono (by omega)⟩
      · rintro σ H3 ⟨v3, v4, v5, v6, v7, v8, v9, v10, v11, v12, v13, v14, v15, l, rfl, k3, hs3, hl3⟩
        exact ⟨_, _, _, _, _, _, _, _, _, _, _, _, _, _, _,  rfl, k3⟩
    · rintro σ H1 ⟨v1, v2, v3, v4, v5, v6, v7, v8, v9, v10, v11, v12, v13, v14, v15, rfl, k1⟩
      exact q _ k1
end
end Ln


set_option Elab.async false
set_option linter.all false
set_option maxRecDepth 100000
set_option maxHeartbeats 2000000
namespace Ln
open PySem PySem.Spec PyProof.Rows L2 GxR LamX
/-- a def's promise where nothing is being shown -/
structure FnG (P : Program) (w : World) (K : PySem.W.Frag) (mg : Str → Option Value) (base : Heap) (k : Nat) (f : Addr) (fd : FuncData) (ps : List Str) (sp : Sp) : Prop where
  len : ∀ vs H Q E, sp vs H Q E → vs.length = ps.length
  run : ∀ (A : Around) (outer : List Env) (s : Shared) (H : Hp) (args : Args) (us : List Value) (vs : List V) (Q : VK) (E : XK), Room k A → A.guards = some [] → Env0 P w K mg base A outer s H → BindsTo s fd args (ps.zip us) → Vals vs us → sp vs H Q E →
    codeAny (model P w) A (.call (.ref f) args) (CR CX0 outer P w H s Q E) s
theorem FnG.of {P : Program} {w : World} {K : PySem.W.Frag} {mg : Str → Option Value} {base : Heap} {k : Nat} {f : Addr} {fd : FuncData} {ps : List Str} {sp : Sp} (F : FnOk P w K mg base CX0 k f fd ps sp) : FnG P w K mg base k f fd ps sp := ⟨F.len, fun A outer s H args us vs Q E hr _ e0 hb r h => F.run A outer s H args us vs Q E hr e0 hb r h⟩
/-! ### the law's call -/
/-- what is tracked as the law is called: the tables, and the script where the heap's written part has it not -/
def topH (K : PySem.W.Frag) (cs : List (Addr × Addr)) (a : Addr) (vs : List Value) (ns : List Int) : Hp := fun b =>
  if b ∈ cs.map (·.2) then some (.tbl #[]) else if b = a ∧ K.lookup a = none then some (.frz { cls := .type "list", data := .seq vs.toArray } (.lst (ns.map V.int))) else none
section
variable {P : Program} {w : World} {K : PySem.W.Frag} {cs : List (Addr × Addr)} {a b : Addr} {vs : List Value} {ns : List Int} {h : Heap} {o : HO}
theorem topH_of (e : topH K cs a vs ns b = some o) : (b ∈ cs.map (·.2) ∧ o = .tbl #[]) ∨ (b = a ∧ K.lookup a = none ∧ o = .frz { cls := .type "list", data := .seq vs.toArray } (.lst (ns.map V.int))) := by
  unfold topH at e
  by_cases q : b ∈ cs.map (·.2)
  · rw [if_pos q] at e
    exact .inl ⟨q, (Option.some.inj e).symm⟩
  · rw [if_neg q] at e
    by_cases r : b = a ∧ K.lookup a = none
    · rw [if_pos r] at e
      exact .inr ⟨r.1, r.2, (Option.some.inj e).symm⟩
    · rw [if_neg r] at e
      cases e
theorem topH_tab {p : Addr × Addr} (hp : p ∈ cs) : topH K cs a vs ns p.2 = some (.tbl #[]) := by
  unfold topH
  exact if_pos (List.mem_map.mpr ⟨p, hp, rfl⟩)
theorem tab_at (hT : ∀ p ∈ cs, h.get? p.2 = some { cls := .none, data := .fields #[] }) (hb : b ∈ cs.map (·.2)) : h.get? b = some { cls := .none, data := .fields #[] } := by
  obtain ⟨p, hp, rfl⟩ := List.mem_map.mp hb
  exact hT p hp
theorem scr_tab (hT : ∀ p ∈ cs, h.get? p.2 = some { cls := .none, data := .fields #[] }) (ha : h.get? a = some { cls := .type "list", data := .seq vs.toArray }) : a ∉ cs.map (·.2) := fun q => by
  have := tab_at hT q
  rw [ha] at this
  have := congrArg Obj.data (Option.some.inj this)
  cases this
theorem topH_sq (hT : ∀ p ∈ cs, h.get? p.2 = some { cls := .none, data := .fields #[] }) (ha : h.get? a = some { cls := .type "list", data := .seq vs.toArray }) (KX : K.In h) (hi : IntsAre vs ns) (hl : ns.length ≤ sizeLine) : SqL K (topH K cs a vs ns) a (ns.map V.int) := by
  cases hk : K.lookup a with
  | none =>
    refine .inl (.inr ⟨{ cls := .type "list", data := .seq vs.toArray }, ?_⟩)
    unfold topH
    rw [if_neg (scr_tab hT ha), if_pos ⟨rfl, hk⟩]
  | some ob =>
    have e := KX a ob hk
    rw [ha] at e
    obtain rfl := Option.some.inj e
    exact .inr ⟨_, vs.toArray, _, hk, rfl, rfl, rfl, by rw [List.size_toArray, hi.length]; exact hl, by simpa using vals_ints hi⟩
theorem topH_ok (hT : ∀ p ∈ cs, h.get? p.2 = some { cls := .none, data := .fields #[] }) (ha : h.get? a = some { cls := .type "list", data := .seq vs.toArray }) (hi : IntsAre vs ns) (hl : ns.length ≤ sizeLine) : HOk P w (topH K cs a vs ns) h := fun b o e => by
  rcases topH_of e with ⟨q, rfl⟩ | ⟨rfl, _, rfl⟩
  · exact tab_at hT q
  · exact ⟨ha, by rw [List.length_map]; exact hl, vs, _, vals_ints hi, ha⟩
/-- an object that is no list and no table is not tracked -/
theorem topH_non (hT : ∀ p ∈ cs, h.get? p.2 = some { cls := .none, data := .fields #[] }) (ha : h.get? a = some { cls := .type "list", data := .seq vs.toArray }) {ob : Obj} (e : h.get? b = some ob) (h1 : ∀ us n, ob.data ≠ .seq us n) (h2 : ob.data ≠ .fields #[]) : topH K cs a vs ns b = none := by
  cases q : topH K cs a vs ns b with
  | none => rfl
  | some u =>
    rcases topH_of q with ⟨z, _⟩ | ⟨rfl, _, _⟩
    · rw [tab_at hT z] at e
      exact absurd (congrArg Obj.data (Option.some.inj e)).symm h2
    · rw [ha] at e
      exact absurd (congrArg Obj.data (Option.some.inj e)).symm (h1 _ _)
theorem topH_K (hT : ∀ p ∈ cs, h.get? p.2 = some { cls := .none, data := .fields #[] }) (nT : ∀ p ∈ cs, K.lookup p.2 = none) {ob : Obj} (e : K.lookup b = some ob) : topH K cs a vs ns b = none := by
  cases q : topH K cs a vs ns b with
  | none => rfl
  | some u =>
    rcases topH_of q with ⟨z, _⟩ | ⟨rfl, z, _⟩
    · obtain ⟨p, hp, rfl⟩ := List.mem_map.mp z
      rw [nT p hp] at e
      cases e
    · rw [z] at e
      cases e
theorem Ns.top (hT : ∀ p ∈ cs, h.get? p.2 = some { cls := .none, data := .fields #[] }) (ha : h.get? a = some { cls := .type "list", data := .seq vs.toArray }) {d : Addr} {m : Str → Option Value} (e : h.Ns d m) : (hidT h (topH K cs a vs ns)).Ns d m := by
  obtain ⟨ob, es, ep, e1, e2, r⟩ := e
  exact ⟨ob, es, ep, hidT_get e1 (topH_non hT ha e1 (fun us n z => by rw [e2] at z; cases z) fun z => by rw [e2] at z; cases z), e2, r⟩
end
/-- the law is called on a script, nothing being shown -/
theorem law_callG {P : Program} {w : World} {K : PySem.W.Frag} {mg mb : Str → Option Value} {k : Nat} {fa a : Addr} {cs : List (Addr × Addr)} {fd : FuncData} {x : Str} {sp : Sp} {s : Shared} {vs : List Value} {ns : List Int} (KX : K.In s.heap) (hns : s.heap.Ns mainGlobals mg) (hb : s.heap.Ns builtinsNs mb) (hbb : ∀ x : Str, x ≠ "__name__" → mb x = bootBuiltins x) (hlim : s.heap.NoLimit) (hg : s.gens = #[])
    (hT : ∀ p ∈ cs, s.heap.get? p.2 = some { cls := .none, data := .fields #[] }) (nT : ∀ p ∈ cs, K.lookup p.2 = none) (C : ∀ p ∈ cs, PySem.W.CodeHd s.heap p.1 p.2)
    (hbm : ∃ (bm : Addr) (ob : Obj), mg "__builtins__" = some (.ref bm) ∧ bm ≠ builtinsNs ∧ s.heap.get? bm = some ob ∧ ob.cls = .type "module" ∧ ob.dict = some builtinsNs ∧ ob.data = .plain)
    (ha : s.heap.get? a = some { cls := .type "list", data := .seq vs.toArray }) (hi : IntsAre vs ns) (hl : ns.length ≤ sizeLine) (hr : Room k callerA)
    (F : ∀ base : Heap, K.In base → base.Ns mainGlobals mg → (∀ p ∈ cs, GxR.TabB base mg p.1 p.2) → FnG P w K mg base k fa fd [x] sp) (hbind : ∀ (s : Shared) (u : Value), BindsTo s fd ⟨[u], []⟩ [(x, u)])
    (hsp : ∀ H : Hp, (∀ p ∈ cs, H p.2 = some (.tbl #[])) → SqL K H a (ns.map V.int) → sp [.ref a] H (fun v _ => v = .bl true) E0) :
    codeAny (model P w) callerA (.call (.ref fa) ⟨[.ref a], []⟩) (fun r s' => r = .ok (.ret (.bool true)) ∧ OldK s.heap s'.heap ∧ s'.os = s.os ∧ AllBare s'.gens) s := by
  have hH : ∀ p ∈ cs, topH K cs a vs ns p.2 = some (.tbl #[]) := fun p hp => topH_tab hp
  have hok : HOk P w (topH K cs a vs ns) s.heap := topH_ok hT ha hi hl
  have hKb : K.In (hidT s.heap (topH K cs a vs ns)) := fun b ob e => hidT_get (KX b ob e) (topH_K hT nT e)
  have gG := Ns.top (K := K) (ns := ns) hT ha hns
  have TB : ∀ p ∈ cs, GxR.TabB (hidT s.heap (topH K cs a vs ns)) mg p.1 p.2 := fun p hp => by
    have hTp := hT p hp
    obtain ⟨bm, ob, b1, b2, b3, b4, b5, b6⟩ := hbm
    obtain ⟨og, eg, epg, q1, q2, _⟩ := hns
    refine ⟨?_, ⟨bm, ob, b1, b2, fun z => ?_, fun z => ?_, hidT_get b3 (topH_non hT ha b3 (fun us n z => by rw [b6] at z; cases z) fun z => by rw [b6] at z; cases z), b4, b5, b6⟩, fun z => ?_⟩
    · obtain ⟨o, us, file, tf, flags, tg, inF, text, tt, e1, r1, r2, r3, r⟩ := C p hp
      refine ⟨o, us, file, tf, flags, tg, inF, text, tt, hidT_get e1 (topH_non hT ha e1 (fun us n z => by rw [r2] at z; cases z) fun z => ?_), r1, r2, r3, r⟩
      rw [r2] at z
      cases z
      simp at r3
    · rw [z, q1] at b3
      cases b3
      rw [q2] at b6
      cases b6
    · rw [z, hTp] at b3
      cases b3
      cases b6
    · rw [z, hTp] at q1
      cases q1
      cases q2
  have e0 : Env0 P w K mg (hidT s.heap (topH K cs a vs ns)) callerA [] s (topH K cs a vs ns) :=
    ⟨rfl, ⟨hKb, gG, ⟨mb, Ns.top hT ha hb, hbb⟩, hlim.imp fun mc h1 => ⟨Ns.top hT ha h1.1, h1.2⟩⟩, fun b o e => of_hidT e, Nat.le_of_eq (hidT_size _ _), trivial, fun b hb => absurd (show b ∈ ([] : List Addr) from hb) (by simp), hok, .of_eq hg⟩
  refine codeAny_mono ((F _ hKb gG TB).run callerA [] s (topH K cs a vs ns) ⟨[.ref a], []⟩ [.ref a] [.ref a] _ _ hr rfl e0 (hbind s (.ref a)) (.cons rfl .nil) (hsp _ hH (topH_sq hT ha KX hi hl))) fun r s' h => ?_
  match r, h with
  | .error e, h => exact False.elim h
  | .ok .next, h => exact False.elim h
  | .ok .brk, h => exact False.elim h
  | .ok .cont, h => exact False.elim h
  | .ok (.ret u), ⟨v, H', os, bare, un, hok', r', q⟩ =>
    obtain rfl : v = .bl true := q
    obtain rfl : u = Value.bool true := r'
    have old : ∀ b o, b ∉ cs.map (·.2) → s.heap.get? b = some o → s'.heap.get? b = some o := fun b o nb e => by
      cases q : topH K cs a vs ns b with
      | none => exact un.keep b o e q (fun z => absurd (show b ∈ ([] : List Addr) from z) (by simp)) (by simp)
      | some u =>
        rcases topH_of q with ⟨z, _⟩ | ⟨rfl, _, rfl⟩
        · exact absurd z nb
        · rw [ha] at e
          obtain rfl := Option.some.inj e
          exact (hok' _ _ (un.frzs _ _ _ q)).1
    have tabs : ∀ p ∈ cs, ∃ more : Array Value, s'.heap.get? p.2 = some { cls := .none, data := .fields more } := fun p hp => let ⟨more, z⟩ := un.tbls p.2 #[] (hH p hp); ⟨_, hok' p.2 _ z⟩
    refine ⟨rfl, ⟨fun b o e => ?_, fun b o e => ?_⟩, os, bare⟩
    all_goals by_cases hb : b ∈ cs.map (·.2)
    · obtain ⟨p, hp, rfl⟩ := List.mem_map.mp hb
      obtain ⟨more, hm⟩ := tabs p hp
      obtain rfl := Option.some.inj ((hT p hp).symm.trans e)
      exact .inr (.inl ⟨((C p hp).tab (hT p hp)).isCodeTable, rfl, #[], more, rfl, by rw [Array.empty_append]; exact hm⟩)
    · exact .inl (old b o hb e)
    · obtain ⟨p, hp, rfl⟩ := List.mem_map.mp hb
      obtain ⟨more, hm⟩ := tabs p hp
      exact ⟨_, hm⟩
    · exact ⟨o, old b o hb e⟩
end Ln


set_option Elab.async false
set_option linter.all false
set_option maxRecDepth 100000
set_option maxHeartbeats 2000000
namespace Ln
open PySem PySem.Spec PyProof.Rows L2 GxR LamX
/-! ### what the top has written -/
structure DefR (K : PySem.W.Frag) (x : Str) (st : Stmt) : Prop where
  ex : ∃ (f : Addr) (fd : FuncData), PySem.W.nsIn K mainGlobals x = some (some (.ref f)) ∧ Fun K x x st f fd
structure DefC (K : PySem.W.Frag) (x : Str) (st : Stmt) : Prop where
  ex : ∃ (f c p : Addr) (fd : FuncData), PySem.W.nsIn K mainGlobals x = some (some (.ref f)) ∧ FunC K x x st f fd c ∧ PySem.W.tabIn K x = some (c, p) ∧ K.lookup p = none
theorem def_mk {K : PySem.W.Frag} {x : Str} {st : Stmt} {f : Addr} {oc : Value} {od an : Option Addr} {osl : Array (Option Value)} {kV doc pm cdv ct : Value} (a : PySem.W.nsIn K mainGlobals x = some (some (.ref f)))
    (l : K.lookup f = some ⟨oc, od, .func (PySem.W.fnOf x x (defArgs st) (defBody st) (defScope st) .none kV doc pm an cdv ct), osl⟩) (c : PySem.W.codeIn K cdv x = true) (k : PySem.W.keepIn K (.ref f) = true) : DefR K x st := ⟨⟨_, _, a, fun_mk l c k⟩⟩
theorem defC_mk {K : PySem.W.Frag} {x : Str} {st : Stmt} {f cd p : Addr} {oc o1 : Value} {od an o2 : Option Addr} {osl o3 : Array (Option Value)} {us : Array Value} {kV doc pm ct : Value} (a : PySem.W.nsIn K mainGlobals x = some (some (.ref f)))
    (l : K.lookup f = some ⟨oc, od, .func (PySem.W.fnOf x x (defArgs st) (defBody st) (defScope st) .none kV doc pm an (.ref cd) ct), osl⟩) (c : PySem.W.codeIn K (.ref cd) x = true) (k : PySem.W.keepIn K (.ref f) = true)
    (lc : K.lookup cd = some ⟨o1, o2, .fields us, o3⟩) (hv : us[11]? = some (.ref p)) (hn : K.lookup p = none) : DefC K x st := by
  refine ⟨_, cd, p, _, a, ⟨⟨oc, od, kV, doc, pm, an, ct, osl, rfl, l, c⟩, k⟩, ?_, hn⟩
  unfold PySem.W.tabIn
  rw [a]
  simp only [l, PySem.W.fnOf, lc, hv]
/-- the tables, and the law's own promise -/
structure AllAt (P : Program) (w : World) (K : PySem.W.Frag) (mg : Str → Option Value) (fa : Addr) (cs : List (Addr × Addr)) (fd : FuncData) : Prop where
  bind : ∀ (s : Shared) (u : Value), BindsTo s fd ⟨[u], []⟩ [("script", u)]
  ok : ∀ base : Heap, K.In base → base.Ns mainGlobals mg → (∀ p ∈ cs, GxR.TabB base mg p.1 p.2) → FnG P w K mg base 10 fa fd ["script"] (spLaw K (cs.map (·.2)))
theorem all_mk {P : Program} {w : World} {K : PySem.W.Frag} {h : Heap} {mg : Str → Option Value} {fa : Addr} (X : K.In h) (G : h.Ns mainGlobals mg) (hfa : mg "law" = some (.ref fa))
    (D_is_car : DefC K "is_car" sIsCar)
    (D_is_side : DefR K "is_side" sIsSide)
    (D_is_lane : DefC K "is_lane" sIsLane)
    (D_is_arrival : DefR K "is_arrival" sIsArr)
    (D_is_departure : DefR K "is_departure" sIsDep)
    (D_has_word : DefR K "has_word" sHasW)
    (D_is_log : DefR K "is_log" sIsLog)
    (D_require_lane : DefR K "require_lane" sReqLane)
    (D_require_log : DefR K "require_log" sReqLog)
    (D_require_sides : DefC K "require_sides" sReqSides)
    (D_sizes : DefR K "sizes" sSizes)
    (D_numbers : DefR K "numbers" sNumbers)
    (D_replay : DefR K "replay" sReplay)
    (D_law_source : DefR K "_law_source" sSource)
    (D_law_draw : DefR K "_law_draw" sDraw)
    (D_law_mixed : DefR K "_law_mixed" sMixed)
    (D_law_vehicles : DefR K "_law_vehicles" sVeh)
    (D_law_happened : DefR K "_law_happened" sHap)
    (D_law_renamed : DefR K "_law_renamed" sRen)
    (D_law_pieces_right : DefR K "_law_pieces_right" sPcs)
    (D_law : DefR K "law" sLaw)
    (D_move : DefR K "move" sMove)
    (z_isinstance : PySem.W.nsIn K mainGlobals "isinstance" = some none)
    (z_len : PySem.W.nsIn K mainGlobals "len" = some none)
    (z_all : PySem.W.nsIn K mainGlobals "all" = some none)
    (z_str : PySem.W.nsIn K mainGlobals "str" = some none)
    (z_tuple : PySem.W.nsIn K mainGlobals "tuple" = some none)
    (z_list : PySem.W.nsIn K mainGlobals "list" = some none)
    (z_set : PySem.W.nsIn K mainGlobals "set" = some none)
    (z_zip : PySem.W.nsIn K mainGlobals "zip" = some none)
    (z_max : PySem.W.nsIn K mainGlobals "max" = some none)
    (z_min : PySem.W.nsIn K mainGlobals "min" = some none)
    (z_abs : PySem.W.nsIn K mainGlobals "abs" = some none)
    (z_range : PySem.W.nsIn K mainGlobals "range" = some none)
    (z_repr : PySem.W.nsIn K mainGlobals "repr" = some none)
    (z_sorted : PySem.W.nsIn K mainGlobals "sorted" = some none)
    (z_int : PySem.W.nsIn K mainGlobals "int" = some none)
    (z_dict : PySem.W.nsIn K mainGlobals "dict" = some none)
    : ∃ (c1 p1 c2 p2 c3 p3 : Addr) (fd : FuncData), PySem.W.tabIn K "is_car" = some (c1, p1) ∧ PySem.W.tabIn K "is_lane" = some (c2, p2) ∧ PySem.W.tabIn K "require_sides" = some (c3, p3) ∧ K.lookup p1 = none ∧ K.lookup p2 = none ∧ K.lookup p3 = none ∧
      AllAt P w K mg fa [(c1, p1), (c2, p2), (c3, p3)] fd := by
  have nn : ∀ {x : Str}, PySem.W.nsIn K mainGlobals x = some none → mg x = none := fun e => PySem.W.mg_none_of X G e
  have B : Bi mg := ⟨nn z_isinstance, nn z_len, nn z_all, nn z_str, nn z_tuple, nn z_list, nn z_set, nn z_zip⟩
  have B2 : Bl mg := ⟨nn z_max, nn z_min, nn z_abs, nn z_range, nn z_repr⟩
  obtain ⟨f0, c1, p1, fd0, a0, F0, t1, n1⟩ := D_is_car.ex
  have m0 := PySem.W.mg_of X G a0
  obtain ⟨f1, fd1, a1, F1⟩ := D_is_side.ex
  have m1 := PySem.W.mg_of X G a1
  obtain ⟨f2, c2, p2, fd2, a2, F2, t2, n2⟩ := D_is_lane.ex
  have m2 := PySem.W.mg_of X G a2
  obtain ⟨f3, fd3, a3, F3⟩ := D_is_arrival.ex
  have m3 := PySem.W.mg_of X G a3
  obtain ⟨f4, fd4, a4, F4⟩ := D_is_departure.ex
  have m4 := PySem.W.mg_of X G a4
  obtain ⟨f5, fd5, a5, F5⟩ := D_has_word.ex
  have m5 := PySem.W.mg_of X G a5
  obtain ⟨f6, fd6, a6, F6⟩ := D_is_log.ex
  have m6 := PySem.W.mg_of X G a6
  obtain ⟨f7, fd7, a7, F7⟩ := D_require_lane.ex
  have m7 := PySem.W.mg_of X G a7
  obtain ⟨f8, fd8, a8, F8⟩ := D_require_log.ex
  have m8 := PySem.W.mg_of X G a8
  obtain ⟨f9, c3, p3, fd9, a9, F9, t3, n3⟩ := D_require_sides.ex
  have m9 := PySem.W.mg_of X G a9
  obtain ⟨f10, fd10, a10, F10⟩ := D_sizes.ex
  have m10 := PySem.W.mg_of X G a10
  obtain ⟨f11, fd11, a11, F11⟩ := D_numbers.ex
  have m11 := PySem.W.mg_of X G a11
  obtain ⟨f12, fd12, a12, F12⟩ := D_replay.ex
  have m12 := PySem.W.mg_of X G a12
  obtain ⟨f13, fd13, a13, F13⟩ := D_law_source.ex
  have m13 := PySem.W.mg_of X G a13
  obtain ⟨f14, fd14, a14, F14⟩ := D_law_draw.ex
  have m14 := PySem.W.mg_of X G a14
  obtain ⟨f15, fd15, a15, F15⟩ := D_law_mixed.ex
  have m15 := PySem.W.mg_of X G a15
  obtain ⟨f16, fd16, a16, F16⟩ := D_law_vehicles.ex
  have m16 := PySem.W.mg_of X G a16
  obtain ⟨f17, fd17, a17, F17⟩ := D_law_happened.ex
  have m17 := PySem.W.mg_of X G a17
  obtain ⟨f18, fd18, a18, F18⟩ := D_law_renamed.ex
  have m18 := PySem.W.mg_of X G a18
  obtain ⟨f19, fd19, a19, F19⟩ := D_law_pieces_right.ex
  have m19 := PySem.W.mg_of X G a19
  obtain ⟨f20, fd20, a20, F20⟩ := D_law.ex
  have m20 := PySem.W.mg_of X G a20
  obtain ⟨f21, fd21, a21, F21⟩ := D_move.ex
  have m21 := PySem.W.mg_of X G a21
  have b0 : Binds K fd0 ["value"] [] := F0.fn.binds fun _ _ _ _ _ _ us hl => match us, hl with | [_], _ => rfl
  have b1 : Binds K fd1 ["value"] [] := F1.binds fun _ _ _ _ _ _ us hl => match us, hl with | [_], _ => rfl
  have b2 : Binds K fd2 ["value"] [] := F2.fn.binds fun _ _ _ _ _ _ us hl => match us, hl with | [_], _ => rfl
  have b3 : Binds K fd3 ["value"] [] := F3.binds fun _ _ _ _ _ _ us hl => match us, hl with | [_], _ => rfl
  have b4 : Binds K fd4 ["value"] [] := F4.binds fun _ _ _ _ _ _ us hl => match us, hl with | [_], _ => rfl
  have b5 : Binds K fd5 ["value", "word", "length"] [] := F5.binds fun _ _ _ _ _ _ us hl => match us, hl with | [_, _, _], _ => rfl
  have b6 : Binds K fd6 ["start", "value"] [] := F6.binds fun _ _ _ _ _ _ us hl => match us, hl with | [_, _], _ => rfl
  have b7 : Binds K fd7 ["value"] [] := F7.binds fun _ _ _ _ _ _ us hl => match us, hl with | [_], _ => rfl
  have b8 : Binds K fd8 ["start", "log"] [] := F8.binds fun _ _ _ _ _ _ us hl => match us, hl with | [_, _], _ => rfl
  have b9 : Binds K fd9 ["log", "sides"] [] := F9.fn.binds fun _ _ _ _ _ _ us hl => match us, hl with | [_, _], _ => rfl
  have b10 : Binds K fd10 ["start", "log"] [] := F10.binds fun _ _ _ _ _ _ us hl => match us, hl with | [_, _], _ => rfl
  have b11 : Binds K fd11 ["start", "log"] [] := F11.binds fun _ _ _ _ _ _ us hl => match us, hl with | [_, _], _ => rfl
  have b12 : Binds K fd12 ["start", "log", "sides"] [] := F12.binds fun _ _ _ _ _ _ us hl => match us, hl with | [_, _, _], _ => rfl
  have b13 : Binds K fd13 ["script", "k"] [] := F13.binds fun _ _ _ _ _ _ us hl => match us, hl with | [_, _], _ => rfl
  have b14 : Binds K fd14 ["source", "limit"] [] := F14.binds fun _ _ _ _ _ _ us hl => match us, hl with | [_, _], _ => rfl
  have b15 : Binds K fd15 ["source", "things"] [] := F15.binds fun _ _ _ _ _ _ us hl => match us, hl with | [_, _], _ => rfl
  have b16 : Binds K fd16 ["source", "count"] [] := F16.binds fun _ _ _ _ _ _ us hl => match us, hl with | [_, _], _ => rfl
  have b17 : Binds K fd17 ["source", "present", "spare", "most"] [] := F17.binds fun _ _ _ _ _ _ us hl => match us, hl with | [_, _, _, _], _ => rfl
  have b18 : Binds K fd18 ["names", "happened"] [] := F18.binds fun _ _ _ _ _ _ us hl => match us, hl with | [_, _], _ => rfl
  have b19 : Binds K fd19 ["initial", "happened", "moves", "cut"] [] := F19.binds fun _ _ _ _ _ _ us hl => match us, hl with | [_, _, _, _], _ => rfl
  have b21 : Binds K fd21 ["present", "event", "side"] [] := F21.binds fun _ _ _ _ _ _ us hl => match us, hl with | [_, _, _], _ => rfl
  obtain rfl : fa = f20 := by
    have e := hfa.symm.trans m20
    cases e
    rfl
  refine ⟨c1, p1, c2, p2, c3, p3, fd20, t1, t2, t3, n1, n2, n3, ?_, fun base Kb Gb TB => ?_⟩
  · obtain ⟨oc, od, kV, doc, pm, an, cdv, ct, osl, rfl, lk, hcd⟩ := F20.ex
    exact fun s u => .of_eq rfl
  have TB1 := TB (c1, p1) List.mem_cons_self
  have TB2 := TB (c2, p2) (List.mem_cons_of_mem _ List.mem_cons_self)
  have TB3 := TB (c3, p3) (List.mem_cons_of_mem _ (List.mem_cons_of_mem _ List.mem_cons_self))
  have h1 : p1 ∈ [p1, p2, p3] := List.mem_cons_self
  have h2 : p2 ∈ [p1, p2, p3] := List.mem_cons_of_mem _ List.mem_cons_self
  have h3 : p3 ∈ [p1, p2, p3] := List.mem_cons_of_mem _ (List.mem_cons_of_mem _ List.mem_cons_self)
  have G0 : FnOk P w K mg base CX0 2 f0 fd0 ["value"] (spCar [p1, p2, p3]) := ok_car F0 B TB1 h1
  have G1 : FnOk P w K mg base CX0 1 f1 fd1 ["value"] (spSide [p1, p2, p3]) := ok_side F1 B
  have G2 : FnOk P w K mg base CX0 4 f2 fd2 ["value"] (spLane K [p1, p2, p3]) := ok_lane F2 B TB2 h2 G0 m0 F0.kp b0
  have G5 : FnOk P w K mg base CX0 1 f5 fd5 ["value", "word", "length"] (spHasW K) := ok_hasW F5 B
  have G3 : FnOk P w K mg base CX0 3 f3 fd3 ["value"] (spEv K [p1, p2, p3] arrB) := ok_arr F3 G5 m5 F5.kp b5 G0 m0 F0.kp b0
  have G4 : FnOk P w K mg base CX0 2 f4 fd4 ["value"] (spEv K [p1, p2, p3] depB) := ok_dep F4 G5 m5 F5.kp b5
  have G7 : FnOk P w K mg base CX0 5 f7 fd7 ["value"] (spReqLane K [p1, p2, p3]) := ok_reqLane F7 G2 m2 F2.kp b2
  have G6 : FnOk P w K mg base CX0 6 f6 fd6 ["start", "value"] (spLog K [p1, p2, p3]) := ok_log F6 B G7 m7 F7.kp b7 G3 m3 F3.kp b3 G4 m4 F4.kp b4
  have G8 : FnOk P w K mg base CX0 7 f8 fd8 ["start", "log"] (spReqLog K [p1, p2, p3]) := ok_reqLog F8 G6 m6 F6.kp b6
  have G9 : FnOk P w K mg base CX0 3 f9 fd9 ["log", "sides"] (spReqSides K [p1, p2, p3]) := ok_reqSides F9 B TB3 h3 G1 m1 F1.kp b1
  have G10 : FnOk P w K mg base CX0 8 f10 fd10 ["start", "log"] (spSizes K [p1, p2, p3]) := ok_sizes F10 B G8 m8 F8.kp b8
  have G11 : FnOk P w K mg base CX0 8 f11 fd11 ["start", "log"] (spNumbers K [p1, p2, p3]) := ok_numbers F11 B G8 m8 F8.kp b8
  have G21 : FnOk P w K mg base CX0 1 f21 fd21 ["present", "event", "side"] (spMove K) := ok_move F21 B
  have G12 : FnOk P w K mg base CX0 8 f12 fd12 ["start", "log", "sides"] (spReplay K [p1, p2, p3]) := ok_replay F12 B G8 m8 F8.kp b8 G9 m9 F9.kp b9 G21 m21 F21.kp b21
  have G13 : FnOk P w K mg base CX0 1 f13 fd13 ["script", "k"] (spSource K) := ok_source F13 B B2
  have G14 : FnOk P w K mg base CX0 1 f14 fd14 ["source", "limit"] (spDraw) := ok_draw F14
  have G15 : FnOk P w K mg base CX0 2 f15 fd15 ["source", "things"] (spMixed K) := ok_mixed F15 B B2 G14 m14 F14.kp b14
  have G16 : FnOk P w K mg base CX0 3 f16 fd16 ["source", "count"] (spVeh) := ok_veh F16 B B2 G14 m14 F14.kp b14 G15 m15 F15.kp b15
  have G17 : FnOk P w K mg base CX0 2 f17 fd17 ["source", "present", "spare", "most"] (spHap K) := ok_hap F17 B B2 G14 m14 F14.kp b14
  have G18 : FnOk P w K mg base CX0 1 f18 fd18 ["names", "happened"] (spRen K) := ok_ren F18
  have G19 : FnOk P w K mg base CX0 9 f19 fd19 ["initial", "happened", "moves", "cut"] (spPcs K [p1, p2, p3]) := ok_pcs F19 B (nn z_sorted) G10 m10 F10.kp b10 G11 m11 F11.kp b11 G12 m12 F12.kp b12
  exact FnG.of (ok_law4 F20 B B2 (nn z_int) (nn z_dict) G13 m13 F13.kp b13 G14 m14 F14.kp b14 G15 m15 F15.kp b15 G16 m16 F16.kp b16 G17 m17 F17.kp b17 G12 m12 F12.kp b12 G19 m19 F19.kp b19 G18 m18 F18.kp b18)
end Ln


set_option Elab.async false
set_option linter.all false
set_option maxRecDepth 100000
set_option maxHeartbeats 2000000
namespace Ln
open PySem PySem.Spec PyProof.Rows L2 GxR LamX
theorem walk_G {l : PySem.W.OpenLaw} {n : Nat} {q : Program} {loose : List Str} {XP : (Str → Option Value) → Heap → Prop} {YP : World → Heap → Prop} {d d1 d2 d3 : DefRec} {K : Params → PySem.W.Frag} (hn : l.most = some n) (hn2 : n ≤ sizeLine) (hdf : d.params.defaults = []) (hY : ∀ (w : World) (h : Heap), YP w h → (K w.params).In h)
    (r1 : (recsOf q).find? (fun e => e.name == PySem.Str.ofString "is_car") = some d1) (r2 : (recsOf q).find? (fun e => e.name == PySem.Str.ofString "is_lane") = some d2) (r3 : (recsOf q).find? (fun e => e.name == PySem.Str.ofString "require_sides") = some d3)
    (F : ∀ (w : World) (mg : Str → Option Value) (fa : Addr) (h : Heap), (K w.params).In h → h.Ns mainGlobals mg → mg d.name = some (.ref fa) → ∃ (c1 p1 c2 p2 c3 p3 : Addr) (fd : FuncData), PySem.W.tabIn (K w.params) "is_car" = some (c1, p1) ∧ PySem.W.tabIn (K w.params) "is_lane" = some (c2, p2) ∧ PySem.W.tabIn (K w.params) "require_sides" = some (c3, p3) ∧
      (K w.params).lookup p1 = none ∧ (K w.params).lookup p2 = none ∧ (K w.params).lookup p3 = none ∧ AllAt l.prog w (K w.params) mg fa [(c1, p1), (c2, p2), (c3, p3)] fd) :
    PySem.W.WalkO q loose XP YP l.row.toRowW d [] (fun f vs => PySem.call f vs) := by
  refine Att.attach_callB hn hdf fun w s₀ s₁ mg mb fa o pm cd doc a vs ns G Y ho hd hcd hmg hobj hints hlen hbits hg => ?_
  have KX := hY w _ Y
  obtain ⟨c1, p1, c2, p2, c3, p3, fd, t1, t2, t3, n1, n2, n3, all⟩ := F w mg fa _ KX G.T.g hmg
  have T1 := PySem.W.tab_of G.T KX r1 t1
  have T2 := PySem.W.tab_of G.T KX r2 t2
  have T3 := PySem.W.tab_of G.T KX r3 t3
  have three : ∀ {φ : Addr × Addr → Prop}, φ (c1, p1) → φ (c2, p2) → φ (c3, p3) → ∀ p ∈ [(c1, p1), (c2, p2), (c3, p3)], φ p := fun x y z p hp => by
    rcases List.mem_cons.mp hp with rfl | hp
    · exact x
    rcases List.mem_cons.mp hp with rfl | hp
    · exact y
    rcases List.mem_cons.mp hp with rfl | hp
    · exact z
    cases hp
  refine law_callG KX G.T.g G.T.b G.T.builtins G.T.nolimit hg (three T1.2 T2.2 T3.2) (three n1 n2 n3) (three T1.1 T2.1 T3.1) G.T.bmain hobj hints (Nat.le_trans hlen hn2) ⟨rfl, by decide, by decide⟩ all.ok all.bind fun H hH hS => ⟨a, ns, rfl, hS, fun p hp => ?_, fun H' _ => rfl⟩
  obtain ⟨x, hx, rfl⟩ := List.mem_map.mp hp
  exact ⟨#[], hH x hx, by first | trivial | exact .nil | simp [TriplesOk]⟩
end Ln


set_option maxRecDepth 100000
open PySem PySem.W PyProof.Rows
set_option maxHeartbeats 0 in
theorem PySem.Challenge.cw_openlane_k04_whole_replay_in_pieces_holds : PySem.Challenge.rw_openlane_k04_whole_replay_in_pieces.Holds := by
  w_on; o_law; k_head; (case hw => w_witness2)
  k_fill
  refine Ln.walk_G (l := PySem.Challenge.rw_openlane_k04_whole_replay_in_pieces) (n := 63) rfl (by decide) rfl (fun w h Y => PySem.W.kIn_of Y) rfl rfl rfl ?F
  case F =>
    intro w mg fa h KX G hmg
    refine' Ln.all_mk KX G hmg ?D0 ?D1 ?D2 ?D3 ?D4 ?D5 ?D6 ?D7 ?D8 ?D9 ?D10 ?D11 ?D12 ?D13 ?D14 ?D15 ?D16 ?D17 ?D18 ?D19 ?D20 ?D21 ?z0 ?z1 ?z2 ?z3 ?z4 ?z5 ?z6 ?z7 ?z8 ?z9 ?z10 ?z11 ?z12 ?z13 ?z14 ?z15
    (case D0 => refine' Ln.defC_mk ?a ?l ?c ?k ?lc ?hv ?hn; (case a => k_is); (case l => k_is); (case c => k_is); (case k => k_is); (case lc => k_is); (case hv => rfl); (case hn => kernel_rfl))
    (case D1 => refine' Ln.def_mk ?a ?l ?c ?k; (case a => k_is); (case l => k_is); (case c => k_is); (case k => k_is))
    (case D2 => refine' Ln.defC_mk ?a ?l ?c ?k ?lc ?hv ?hn; (case a => k_is); (case l => k_is); (case c => k_is); (case k => k_is); (case lc => k_is); (case hv => rfl); (case hn => kernel_rfl))
    (case D3 => refine' Ln.def_mk ?a ?l ?c ?k; (case a => k_is); (case l => k_is); (case c => k_is); (case k => k_is))
    (case D4 => refine' Ln.def_mk ?a ?l ?c ?k; (case a => k_is); (case l => k_is); (case c => k_is); (case k => k_is))
    (case D5 => refine' Ln.def_mk ?a ?l ?c ?k; (case a => k_is); (case l => k_is); (case c => k_is); (case k => k_is))
    (case D6 => refine' Ln.def_mk ?a ?l ?c ?k; (case a => k_is); (case l => k_is); (case c => k_is); (case k => k_is))
    (case D7 => refine' Ln.def_mk ?a ?l ?c ?k; (case a => k_is); (case l => k_is); (case c => k_is); (case k => k_is))
    (case D8 => refine' Ln.def_mk ?a ?l ?c ?k; (case a => k_is); (case l => k_is); (case c => k_is); (case k => k_is))
    (case D9 => refine' Ln.defC_mk ?a ?l ?c ?k ?lc ?hv ?hn; (case a => k_is); (case l => k_is); (case c => k_is); (case k => k_is); (case lc => k_is); (case hv => rfl); (case hn => kernel_rfl))
    (case D10 => refine' Ln.def_mk ?a ?l ?c ?k; (case a => k_is); (case l => k_is); (case c => k_is); (case k => k_is))
    (case D11 => refine' Ln.def_mk ?a ?l ?c ?k; (case a => k_is); (case l => k_is); (case c => k_is); (case k => k_is))
    (case D12 => refine' Ln.def_mk ?a ?l ?c ?k; (case a => k_is); (case l => k_is); (case c => k_is); (case k => k_is))
    (case D13 => refine' Ln.def_mk ?a ?l ?c ?k; (case a => k_is); (case l => k_is); (case c => k_is); (case k => k_is))
    (case D14 => refine' Ln.def_mk ?a ?l ?c ?k; (case a => k_is); (case l => k_is); (case c => k_is); (case k => k_is))
    (case D15 => refine' Ln.def_mk ?a ?l ?c ?k; (case a => k_is); (case l => k_is); (case c => k_is); (case k => k_is))
    (case D16 => refine' Ln.def_mk ?a ?l ?c ?k; (case a => k_is); (case l => k_is); (case c => k_is); (case k => k_is))
    (case D17 => refine' Ln.def_mk ?a ?l ?c ?k; (case a => k_is); (case l => k_is); (case c => k_is); (case k => k_is))
    (case D18 => refine' Ln.def_mk ?a ?l ?c ?k; (case a => k_is); (case l => k_is); (case c => k_is); (case k => k_is))
    (case D19 => refine' Ln.def_mk ?a ?l ?c ?k; (case a => k_is); (case l => k_is); (case c => k_is); (case k => k_is))
    (case D20 => refine' Ln.def_mk ?a ?l ?c ?k; (case a => k_is); (case l => k_is); (case c => k_is); (case k => k_is))
    (case D21 => refine' Ln.def_mk ?a ?l ?c ?k; (case a => k_is); (case l => k_is); (case c => k_is); (case k => k_is))
    (case z0 => k_is); (case z1 => k_is); (case z2 => k_is); (case z3 => k_is); (case z4 => k_is); (case z5 => k_is); (case z6 => k_is); (case z7 => k_is); (case z8 => k_is); (case z9 => k_is); (case z10 => k_is); (case z11 => k_is); (case z12 => k_is); (case z13 => k_is); (case z14 => k_is); (case z15 => k_is)
#print axioms PySem.Challenge.cw_openlane_k04_whole_replay_in_pieces_holds

