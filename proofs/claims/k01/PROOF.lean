import PyProof.Rows.All
import Wide.All
import OpenK.AllK
import Wide.FinOn
import HandS.Base
import HandS.AnyAll
import PyProof.GenQ
import PyProof.GenRules
import HandS.GenOver
import HandS.SetKeys
import HandS.Strs
import PyProof.WalksMore
import HandS.ForMost
import HandS.IsInst
import HandS.Wide
import HandS.Defaults
import HandS.Style
import HandS.Zip
import HandS.Flow
import HandS.DeepEq
import HandS.More
import HandS.TupAny
import PyProof.Rows.RegFStrParts
import HandS.EndTab
import KE.KNest
import PySem.Challenge.RW_openlane_k01_sizes_numbers_replay
set_option maxRecDepth 100000
namespace Ln
open PySem
/-! ### the text -/
def topS (i : Nat) : Stmt := PySem.Challenge.pw_openlane_k01_sizes_numbers_replay.main.body.getD i (.Pass ⟨0, 0, 0, 0⟩)
abbrev sIsCar : Stmt := topS 6
abbrev sIsSide : Stmt := topS 7
abbrev sIsLane : Stmt := topS 8
abbrev sIsArr : Stmt := topS 9
abbrev sIsDep : Stmt := topS 10
abbrev sHasW : Stmt := topS 11
abbrev sIsLog : Stmt := topS 12
abbrev sReqLane : Stmt := topS 13
abbrev sReqLog : Stmt := topS 14
abbrev sReqSides : Stmt := topS 15
abbrev sSizes : Stmt := topS 16
abbrev sNumbers : Stmt := topS 17
abbrev sReplay : Stmt := topS 18
abbrev sSource : Stmt := topS 21
abbrev sDraw : Stmt := topS 22
abbrev sMixed : Stmt := topS 23
abbrev sVeh : Stmt := topS 24
abbrev sHap : Stmt := topS 25
abbrev sRows : Stmt := topS 26
abbrev sRight : Stmt := topS 27
abbrev sMove : Stmt := topS 19
abbrev sLaw : Stmt := topS 28
end Ln


set_option Elab.async false
set_option linter.all false
set_option maxRecDepth 100000
set_option maxHeartbeats 2000000
namespace Ln
open PySem PySem.Spec PyProof.Rows L2 GxR

theorem bare_set {s : Shared} {g : Nat} {x : GenState} (h : AllBare s.gens) (hx : x.bare = true) : AllBare (s.setGen g x).gens := by
  intro y hy
  obtain ⟨i, hi, e⟩ := Array.mem_iff_getElem.mp hy
  have sz : (s.setGen g x).gens.size = s.gens.size := by simp [Shared.setGen]
  have hi' : i < s.gens.size := by omega
  by_cases z : i = g
  · have q : (s.setGen g x).gens[i]? = some x := by
      show (s.gens.setIfInBounds g x)[i]? = some x
      subst z
      simp [hi']
    rw [Array.getElem?_eq_getElem hi, e] at q
    cases q
    exact hx
  · have q : (s.setGen g x).gens[i]? = s.gens[i]? := by
      show (s.gens.setIfInBounds g x)[i]? = s.gens[i]?
      exact Array.getElem?_setIfInBounds_ne (Ne.symm z)
    rw [Array.getElem?_eq_getElem hi, e] at q
    exact h y (Array.mem_of_getElem? q.symm)

/-- the context of a generator expression's own frame -/
def genCx (X : Cx) (cenv : Env) (A' : Around) (x : Str) (fp : List Addr) (s4 : Shared) (H4 : Hp) (pn : List (Addr × Obj)) : Cx where
  prog := X.prog
  w := X.w
  K := X.K
  mg := X.mg
  base := X.base
  A := A'
  N := [x]
  s_0 := s4
  H_0 := H4
  env := cenv
  outer := X.stack
  stack := cenv :: X.stack
  ex := fp
  fn := fun _ => true
  calm := true
  pn := pn
  xe := fun _ _ => False

structure GSc (scope : Scope) (x : Str) : Prop where
  kind : scope.kind = .function
  co : scope.isCoroutine = false
  cell : ∀ y ∈ scope.names, y.2 ≠ .cell
  free : ∀ y ∈ scope.names, y.2 ≠ .free
  dot : scope.names.lookup (".0" : Str) = some NameKind.local
  loc : scope.names.lookup x = some .local

theorem clo_nil {cells : List (Str × Addr)} : ∀ {names : List (Str × NameKind)} {acc : List (Str × Addr)}, (∀ y ∈ names, y.2 ≠ .free) → cloFrom cells names acc = acc
  | [], _, _ => rfl
  | (n, k) :: r, acc, h => by
    have hk : k ≠ .free := h (n, k) List.mem_cons_self
    unfold cloFrom
    rw [if_neg (by simpa using hk)]
    exact clo_nil fun y hy => h y (List.mem_cons_of_mem _ hy)

theorem over_comp {A : Around} {elt : Expr} {gs : List Comprehension} {scope : Scope} {pos : Pos} {it acc : Value} {env : Env} :
    A.over (.compLoop (.GeneratorExp elt gs scope pos) 0 it acc env) [] = A.deeper env := by
  first
    | rfl
    | (obtain ⟨hd, d, fr, gs, u⟩ := A; simp [Around.over, Around.deeper, marksOver, frameCount, unitsOf, envsOf, guardsOf, pushEnvs, pushGuards, Code.envs, Code.env?, Code.isFrame, Code.guards, Code.isGuard, Code.weight, Code.frames, Code.isCreation, Code.isCaller, Code.cUnits])
theorem over_start {A : Around} {elt : Expr} {gs : List Comprehension} {scope : Scope} {pos : Pos} {it acc : Value} {env : Env} :
    A.over (.compStart (.GeneratorExp elt gs scope pos) 0 it acc env) [] = A.deeper env := by
  first
    | rfl
    | (obtain ⟨hd, d, fr, gs, u⟩ := A; simp [Around.over, Around.deeper, marksOver, frameCount, unitsOf, envsOf, guardsOf, pushEnvs, pushGuards, Code.envs, Code.env?, Code.isFrame, Code.guards, Code.isGuard, Code.weight, Code.frames, Code.isCreation, Code.isCaller, Code.cUnits])


def YA (Y : Cx) (Q : VK) : Protocol := fun _ _ v s kap =>
  ∃ (b : Bool) (H : Hp), v = .bool b ∧ Inv Y [] [none] H s ∧ if b = true then ∀ s', s'.heap = s.heap → s'.os = s.os → AllBare s'.gens → kap (.send .none) s' else Q (.bl false) H
def RA (Y : Cx) (Q : VK) : Nat → Shared → Shared → Prop := fun _ _ s => ∃ H, Inv Y [] [none] H s ∧ Q (.bl true) H
def RestA (Y : Cx) (fp : List Addr) (tn : Nat → Heap → Prop) (W : Nat → Nat → Hp → Prop) (n i : Nat) (s : Shared) : Prop :=
  ∃ m H, m < n ∧ Inv Y [] [none] H s ∧ tn i s.heap ∧ (∀ b ∈ fp, H b = none) ∧ W i m H
/-- what is asked of each turn -/
def TurnA (J : It) (te : TE) (W : Nat → Nat → Hp → Prop) (Q : VK) : Prop := ∀ i m H, W i m H →
  (J.stop i H ∧ Q (.bl true) H) ∨ (J.go i H ∧ ∀ v H', J.yld i H v H' → te [some v] H' fun y H3 => ∃ b, y = .bl b ∧ if b = true then ∃ m', m' < m ∧ W (i + 1) m' H3 else Q (.bl false) H3)
theorem inv_none {Y : Cx} {v : Option V} {pins : List (Addr × Obj)} {H : Hp} {s : Shared} (I : Inv Y pins [v] H s) : Inv Y pins [none] H s :=
  I.weak rfl fun i u e => by
    match i, e with
    | 0, e => cases e
    | i + 1, e => simp at e
theorem inv_same {Y : Cx} {pins : List (Addr × Obj)} {σ : L2.St} {H : Hp} {s s' : Shared} (I : Inv Y pins σ H s) (hh : s'.heap = s.heap) (ho : s'.os = s.os) (hg : AllBare s'.gens) : Inv Y pins σ H s' :=
  I.call' (ch := []) ho (by rw [hh]; exact Un.refl) (by rw [hh]; exact I.hok) hg fun b z => by simp at z

section
variable {X : Cx} {elt iter : Expr} {x : Str} {px pos : Pos} {scope : Scope} {it : Addr} {fp : List Addr} {tn : Nat → Heap → Prop} {J : It} {te : TE} {W : Nat → Nat → Hp → Prop} {Q : VK} {cenv : Env} {s4 : Shared} {H4 : Hp} {pn : List (Addr × Obj)} {A2 : Around}
theorem seg_all (hsc : GSc scope x) (hcs : cenv.scope = scope)
    (hE : PE (genCx X cenv (A2.deeper cenv) x fp s4 H4 pn) elt te) (T : Turn X.prog X.w X.K (.Name x px) J fp it tn)
    (hst : ∀ H : Hp, (∀ b ∈ fp, H b = none) → ∀ b ∈ fp, FpOk (genCx X cenv (A2.deeper cenv) x fp s4 H4 pn) [] H b) (turn : TurnA J te W Q) :
    ∀ (n i : Nat) (s₀ s : Shared), RestA (genCx X cenv (A2.deeper cenv) x fp s4 H4 pn) fp tn W n i s →
      Seg (model X.prog X.w) A2 (fun n s₀ r s₁ => r = .ok .next ∧ RA (genCx X cenv (A2.deeper cenv) x fp s4 H4 pn) Q n s₀ s₁) (YA (genCx X cenv (A2.deeper cenv) x fp s4 H4 pn) Q) n s₀
        (.compLoop (.GeneratorExp elt [⟨.Name x px, iter, [], 0⟩] scope pos) 0 (.ref it) .none cenv)
        ((model X.prog X.w).den (.compLoop (.GeneratorExp elt [⟨.Name x px, iter, [], 0⟩] scope pos) 0 (.ref it) .none cenv)) [] s := by
  intro n
  induction n with
  | zero =>
    intro i s₀ s ⟨m, _, hm, _⟩
    exact absurd hm (Nat.not_lt_zero m)
  | succ n ih =>
    intro i s₀ s ⟨m, H, hm, I, st, fr, w⟩
    have ov : A2.over (.compLoop (.GeneratorExp elt [⟨.Name x px, iter, [], 0⟩] scope pos) 0 (.ref it) .none cenv) [] = A2.deeper cenv := over_comp
    show Seg _ A2 _ _ _ s₀ _ ((compTurn (.GeneratorExp elt [⟨.Name x px, iter, [], 0⟩] scope pos) 0 (.ref it) .none cenv).onRaise (leaving cenv)) [] s
    rw [compTurn_gen, Sem.onRaise_eq_wrap]
    refine seg_bind_wrap (wpAny_standAt (seg_bind_wrap ?_))
    rw [ov]
    rcases turn i m H w with ⟨stop, q⟩ | ⟨go, step⟩
    · refine thn (T.done (genCx X cenv (A2.deeper cenv) x fp s4 H4 pn) rfl rfl rfl rfl i [] s [none] H _ I (hst H fr) st stop) fun r s1 h1 => ?_
      obtain ⟨rfl, I1⟩ := h1
      exact seg_end (.ok .next) ⟨rfl, H, I1, q⟩
    · refine thn (T.item (genCx X cenv (A2.deeper cenv) x fp s4 H4 pn) rfl rfl rfl rfl i [] s [none] H _ I (hst H fr) st go) fun r s1 h1 => ?_
      obtain ⟨u, rfl, h1⟩ := h1
      refine seg_bind_wrap ?_
      rw [ov]
      refine thn h1 fun _ s2 h2 => ?_
      obtain ⟨v, H2, I2, r2, y2, st2, fr2⟩ := h2
      have I2' := I2.pinned (hst H2 fr2) (T.obj _ _ st2)
      refine seg_bind_wrap ?_
      rw [ov]
      have hpg : PG (genCx X cenv (A2.deeper cenv) x fp s4 H4 pn) (.Name x px) (gName 0) := pg_name (X := genCx X cenv (A2.deeper cenv) x fp s4 H4 pn) (List.nodup_cons.mpr ⟨by simp, List.nodup_nil⟩) rfl (.inl (by show cenv.scope.names.lookup x = _; rw [hcs]; exact hsc.loc)) (.inl rfl)
      refine wpAny_mono (hpg.run _ s2 [none] H2 v u (fun σ' H' => σ' = [some v] ∧ H' = H2) I2' r2 ⟨rfl, rfl⟩) (fun _ s3 h3 => ?_) fun _ _ z => False.elim z
      obtain ⟨σ3, H3, I3, e3, e4⟩ := h3
      subst e3
      have e4 := e4.symm
      subst e4
      refine seg_bind_wrap ?_
      refine wpAny_of_eq (a := true) (by simp only [List.forIn_nil]) ?_
      simp only [if_true]
      have hy : ∀ v, yieldOut cenv v = yieldValue v := fun v => by simp only [yieldOut, hcs, hsc.co, Bool.false_eq_true, if_false]
      simp only [hy]
      rw [Sem.bind_eq_wrap', Sem.bind_eq_wrap', Sem.wrap_wrap, Sem.wrap_wrap]
      refine seg_wrap ?_
      rw [ov]
      refine wpAny_mono (hE.run _ s3 [some v] H2 _ I3 (step v H2 y2)) (fun y s5 h5 => ?_) fun _ _ z => False.elim z
      obtain ⟨v5, H5, I5, r5, b, rfl, hb⟩ := h5
      obtain rfl : y = Value.bool b := r5
      have I6 := inv_none I5
      have fr5 : ∀ b ∈ fp, H5 b = none := fun c hc => by
        obtain ⟨o, e, d⟩ := T.obj _ _ st2 c hc
        exact (I5.pin (c, o) (List.mem_append_right _ (List.mem_append_right _ (mem_pinsAt hc e)))).2.1
      have st5 : tn (i + 1) s5.heap := T.keep _ _ _ st2 fun c hc o e => (I5.pin (c, o) (List.mem_append_right _ (List.mem_append_right _ (mem_pinsAt hc e)))).1
      refine seg_at (seg_yield rfl rfl rfl ⟨b, H5, rfl, I6.unpinned, ?_⟩)
      cases b with
      | false => exact hb
      | true =>
        obtain ⟨m', hm', w'⟩ := hb
        intro s6 hh ho hbare
        refine seg_again rfl (ih (i + 1) s6 s6 ⟨m', H5, by omega, inv_same I6.unpinned hh ho hbare, by rw [hh]; exact st5, fr5, w'⟩)
end

section
variable {X : Cx} {elt iter : Expr} {x : Str} {px pos : Pos} {scope : Scope} {it : Addr} {fp : List Addr} {tn : Nat → Heap → Prop} {J : It} {te : TE} {W : Nat → Nat → Hp → Prop} {Q : VK} {cenv : Env} {s4 : Shared} {H4 : Hp} {pn : List (Addr × Obj)} {A2 : Around}
theorem seg_all0 (hsc : GSc scope x) (hcs : cenv.scope = scope)
    (hE : PE (genCx X cenv (A2.deeper cenv) x fp s4 H4 pn) elt te) (T : Turn X.prog X.w X.K (.Name x px) J fp it tn)
    (hst : ∀ H : Hp, (∀ b ∈ fp, H b = none) → ∀ b ∈ fp, FpOk (genCx X cenv (A2.deeper cenv) x fp s4 H4 pn) [] H b) (turn : TurnA J te W Q)
    (n : Nat) (s₀ s : Shared) (h : RestA (genCx X cenv (A2.deeper cenv) x fp s4 H4 pn) fp tn W n 0 s) :
      Seg (model X.prog X.w) A2 (fun n s₀ r s₁ => r = .ok .next ∧ RA (genCx X cenv (A2.deeper cenv) x fp s4 H4 pn) Q n s₀ s₁) (YA (genCx X cenv (A2.deeper cenv) x fp s4 H4 pn) Q) n s₀
        (.compStart (.GeneratorExp elt [⟨.Name x px, iter, [], 0⟩] scope pos) 0 (.ref it) .none cenv)
        ((model X.prog X.w).den (.compStart (.GeneratorExp elt [⟨.Name x px, iter, [], 0⟩] scope pos) 0 (.ref it) .none cenv)) [] s := by
  have hl := seg_all (iter := iter) (pos := pos) hsc hcs hE T hst turn n 0 s₀ s h
  obtain ⟨m, H, _, I, st, _⟩ := h
  show Seg _ A2 _ _ _ s₀ _ ((compStart (.GeneratorExp elt [⟨.Name x px, iter, [], 0⟩] scope pos) 0 (.ref it) .none cenv).onRaise (leaving cenv)) [] s
  unfold compStart
  rw [Sem.onRaise_eq_wrap]
  show Seg _ A2 _ _ _ s₀ _ (Sem.wrap _ _ _ _ (ask >>= _)) [] s
  refine seg_bind_wrap (wpAny_askSetting ?_)
  split
  · exact seg_again rfl hl
  · first
      | exact seg_bind_wrap (wpAny_rule (seg_bind_wrap (wpAny_standAt (seg_bind_wrap (T.self _ 0 s _ _ st (seg_again rfl hl))))))
      | (refine seg_bind_wrap (wpAny_rule ?_)
         show Seg _ A2 _ _ _ s₀ _ (Sem.wrap _ _ _ _ (standAt iter.pos >>= _)) [] s
         exact seg_bind_wrap (wpAny_standAt (seg_bind_wrap (T.self _ 0 s _ _ st (seg_again rfl hl)))))

theorem loop_all {Y : Cx} {ag : Addr} {go : Obj} {g : Nat} {A : Around} {R : Result → Shared → Prop} (hpn : (ag, go) ∈ Y.pn) (hgo : ∀ h : Heap, h.get? ag = some go → h.IsGen ag g) (hh : A.handled = none) (hd : A.depth < recursionLimit)
    (hR : ∀ (b : Bool) (H : Hp) (s : Shared), Inv Y [] [none] H s → Q (.bl b) H → R (.ok (.ret (.bool b))) s) :
    ∀ (n : Nat) (s : Shared), s.heap.IsGen ag g → s.heap.NoLimit →
      (∃ gs, s.gens[g]? = some gs ∧ gs.Goes (model Y.prog Y.w) A.in1.in1 (fun n s₀ r s₁ => r = .ok .next ∧ RA Y Q n s₀ s₁) (YA Y Q) n (.send .none) (s.setGen g .running)) →
      codeAny (model Y.prog Y.w) A (.builtin "all.loop" ⟨[.ref ag], []⟩) R s := by
  have ends : ∀ (n : Nat) (s s₁ : Shared), RA Y Q n (s.setGen g .running) s₁ → ∀ h', (∀ b o, s₁.heap.get? b = some o → h'.get? b = some o) → R (.ok (.ret (.bool true))) { s₁.setGen g .finished with heap := h' } := by
    intro n s s₁ ⟨H, I, q⟩ h' hk
    refine hR true H _ ?_ q
    exact I.call' (ch := []) rfl (Un.kept hk) (I.hok.kept hk) (bare_set I.bare rfl) fun b z => by simp at z
  intro n
  induction n with
  | zero =>
    intro s hg hl ⟨gs, hgs, hgo'⟩
    refine codeAny_builtin F.entry_all_loop ?_
    rw [Around.under_plainId F.plain_all_loop _]
    show wpAny _ A.in1 (pyNext (.ref ag) >>= fun r => _) _ _ s
    refine wpAny_bind (wpAny_pyNext_genexpQ (A := A.in1) (P := RA Y Q) hh hl hd hg hgs hgo' (fun v s₁ gs' hbare hv => ?_) fun s₁ hp h' hk => ?_)
    · obtain ⟨b, H, rfl, I, hb⟩ := hv
      refine wpAny_bind (wpAny_holding (wpAny_truthy_bool ?_))
      refine wpAny_bind (wpAny_letGo ?_)
      cases b with
      | true => exact False.elim (hb s₁ rfl rfl I.bare)
      | false =>
        simp only [Bool.false_eq_true, if_false]
        exact wpAny_bind (wpAny_rule (wpAny_pure (hR false H _ (inv_same I rfl rfl (bare_set I.bare hbare)) hb)))
    · exact wpAny_bind (wpAny_rule (wpAny_pure (ends _ _ _ hp h' hk)))
  | succ n ih =>
    intro s hg hl ⟨gs, hgs, hgo'⟩
    have hgl : g < s.gens.size := (Array.getElem?_eq_some_iff.mp hgs).1
    refine codeAny_builtin F.entry_all_loop ?_
    rw [Around.under_plainId F.plain_all_loop _]
    show wpAny _ A.in1 (pyNext (.ref ag) >>= fun r => _) _ _ s
    refine wpAny_bind (GenW.wpAny_gsz (n := g + 1) hgl (wpAny_pyNext_genexpQ (A := A.in1) (P := RA Y Q) hh hl hd hg hgs hgo' (fun v s₁ gs' hbare hv => ?_) fun s₁ hp h' hk => ?_))
    · intro hsz
      obtain ⟨b, H, rfl, I, hb⟩ := hv
      refine wpAny_bind (wpAny_holding (wpAny_truthy_bool ?_))
      refine wpAny_bind (wpAny_letGo ?_)
      have sz : (s₁.setGen g gs').gens.size = s₁.gens.size := by simp [Shared.setGen]
      have hsz1 : g < s₁.gens.size := by
        have : g + 1 ≤ (s₁.setGen g gs').gens.size := hsz
        omega
      cases b with
      | true =>
        simp only [if_true]
        refine wpAny_pure ⟨plainId_quiet F.plain_all_loop _, ih _ (hgo _ ?_) I.nolimit ⟨gs', ?_, ?_⟩⟩
        · exact (I.pin (ag, go) (List.mem_append_left _ hpn)).1
        · show (s₁.gens.setIfInBounds g gs')[g]? = some gs'
          simp [hsz1]
        · exact hb _ rfl rfl (bare_set (s := s₁.setGen g gs') (bare_set I.bare hbare) rfl)
      | false =>
        simp only [Bool.false_eq_true, if_false]
        exact wpAny_bind (wpAny_rule (wpAny_pure (hR false H _ (inv_same I rfl rfl (bare_set I.bare hbare)) hb)))
    · intro _
      exact wpAny_bind (wpAny_rule (wpAny_pure (ends _ _ _ hp h' hk)))
end

def tAllG (P : Addr) (wi : TI) (te : TE) : TE := fun σ H Q => wi σ H fun J H1 => TabG H1 P ∧ ∃ W : Nat → Nat → Hp → Prop, (∀ H2, Tabbed P H1 H2 → ∃ m, W 0 m H2) ∧ TurnA J te W Q
section
variable {X : Cx}
theorem boot_all : bootBuiltins "all" = some (.builtin "all") := by decide +kernel
/-- all(elt for x in iter): elt anything that raises nothing -/
theorem pe_allG {c P : Addr} {elt iter : Expr} {x : Str} {px p pos gpos : Pos} {scope : Scope} {wi : TI} {te : TE} {k : Nat}
    (hr : Room (k + 1) X.A) (hc : X.calm = true) (hg : Gl X "all") (hm : X.mg "all" = none) (TB : TabB X.base X.mg c P) (hcode : X.env.code = .ref c) (S : GSc scope x) (hi : PI X (.Name x px) iter wi)
    (hE : ∀ (C : Addr) (code : Value) (bi : Addr) (A' : Around) (fp : List Addr) (s4 : Shared) (H4 : Hp) (pn : List (Addr × Obj)), Room k A' → PE (genCx X (genEnv scope [] C code bi X.env) A' x fp s4 H4 pn) elt te)
    (hs : ∀ v, genFold iter X.env v = pure v := by intro _; rfl)
    (he : starEach [.GeneratorExp elt [⟨.Name x px, iter, [], 0⟩] scope gpos] X.env = (false, eval (.GeneratorExp elt [⟨.Name x px, iter, [], 0⟩] scope gpos) X.env) :: starEach [] X.env := by rfl) :
    PE X (.Call (.Name "all" p) [.GeneratorExp elt [⟨.Name x px, iter, [], 0⟩] scope gpos] [] pos) (tAllG P wi te) := by
  refine ⟨fun pins s σ H Q I h => ?_⟩
  refine wpAny_Call_Name_kw (ld_blt I hg hm boot_all ?_)
  refine PyProof.Rows.callWith_builtin1 ?_ he (by rfl)
  rw [he]
  show wpAny (model X.prog X.w) X.A (spliced ((false, eval (.GeneratorExp elt [⟨.Name x px, iter, [], 0⟩] scope gpos) X.env) :: backTo pos (starEach [] X.env))) _ _ s
  have hclo : closureFor scope X.env = pure [] := by
    rw [closure_ok fun y hy e => absurd e (S.free y hy), clo_nil S.free]
  refine Calls.spliced_cons (wpAny_GeneratorExp_make S.co hclo S.cell S.dot S.kind hr.depth ?_ hs)
  refine thn (hi.run pins s σ H _ I h) fun xv s1 h1 => thn h1 fun itv s2 h2 => ?_
  obtain ⟨it, fp, tn, J, H2, rfl, I2, T, st2, f2, ⟨ps, hP, htr⟩, W, hW, turn⟩ := h2
  refine ⟨I2.nolimit, ?_⟩
  have hPs : s2.heap.get? P = some { cls := .none, data := .fields ps } := I2.hok P _ hP
  have cd : PySem.W.CodeHd s2.heap c P := TB.code.keeps I2.bk
  have fpP : ∀ b ∈ fp, b ≠ P := fun b hb e => by
    have := (f2 b hb).1
    rw [e, hP] at this
    cases this
  have cont : ∀ (code : Value) (h3 : Heap) (tk : Nat) (H3 : Hp), Inv X pins σ H3 { s2 with heap := h3, toks := tk } → Tabbed P H2 H3 → tn 0 h3 →
      wpAny (model X.prog X.w) X.A (builtinsFor X.env.globals X.env.builtins) (fun bi s4 =>
        ∀ h', h'.Ns s4.heap.objs.size (fun y => if y = ".0" then some (.ref it) else none) → Heap.SameBut s4.heap.objs.size (s4.heap.push { cls := .type "frame", data := .dict #[] }) h' →
          wpAny (model X.prog X.w) X.A (call (.builtin "all") [.ref h'.objs.size]) (EP X pins σ Q) X.xe { s4 with
            gens := s4.gens.push (.fresh (.compStart (.GeneratorExp elt [⟨.Name x px, iter, [], 0⟩] scope gpos) 0 (.ref it) .none (genEnv scope [] s4.heap.objs.size code bi X.env))),
            toks := s4.toks + 1 + 1 + 1,
            heap := h'.push { cls := .type "generator", data := .fields #[.int s4.gens.size 0, .str "<genexpr>" (s4.toks + 1), .str (X.env.qual ++ "<genexpr>") (s4.toks + 1 + 1)] } }) X.xe { s2 with heap := h3, toks := tk } := by
    intro code h3 tk H3 I3 hT st3
    have fr3 : ∀ b ∈ fp, H3 b = none := fun b hb => (hT.2 b (fpP b hb)).trans (f2 b hb).1
    obtain ⟨bm, ob, e1, e2, e3, e4, e5, e6, e7, e8⟩ := TB.bm
    refine wpAny_builtinsFor (m := X.mg) (by rw [I3.ok.glob]; exact I3.mod.glob.keeps I3.bk) e1 e2 (I3.bk _ _ e5) e6 e7 e8 ?_
    intro h' hn' hs'
    generalize hs3 : ({ s2 with heap := h3, toks := tk } : Shared) = s3 at *
    generalize hgo : ({ cls := .type "generator", data := .fields #[.int s3.gens.size 0, .str "<genexpr>" (s3.toks + 1), .str (X.env.qual ++ "<genexpr>") (s3.toks + 1 + 1)] } : Obj) = go
    have hgd : ∀ h : Heap, ∀ a, h.get? a = some go → h.IsGen a s3.gens.size := fun h a e => ⟨go, _, _, e, by rw [← hgo], by rw [← hgo], by rw [← hgo]⟩
    have hgp : ∀ h : Heap, (h.push go).get? h.objs.size = some go := fun h => Heap.get?_push_size _ (by rw [← hgo]; rfl)
    have hgc : ∀ v, go.data ≠ .cell v := fun v e => by rw [← hgo] at e; cases e
    have hsz : h'.objs.size = s3.heap.objs.size + 1 := by rw [hs'.1, Heap.size_push]
    have keep' : ∀ b o, s3.heap.get? b = some o → h'.get? b = some o := fun b o e => hs'.extBut b o (Nat.ne_of_lt (Heap.lt_size e)) (Heap.get?_push_of_some _ e)
    have keepG : ∀ b o, s3.heap.get? b = some o → (h'.push go).get? b = some o := fun b o e => Heap.get?_push_of_some _ (keep' b o e)
    have st3' : tn 0 s3.heap := by rw [← hs3]; exact st3
    have nstk : ∀ b, s3.heap.objs.size ≤ b → b ∉ frs X.stack := fun b hb z => by
      rcases List.mem_cons.mp (I3.stkSub b z) with e | e
      · have := I3.lt
        rw [e] at hb
        exact Nat.lt_irrefl _ (Nat.lt_of_lt_of_le this hb)
      · exact I3.nofs hb e
    have fpl : ∀ b ∈ fp, b < s3.heap.objs.size := fun b hb => by
      obtain ⟨o, e, _⟩ := T.obj _ _ st3' b hb
      exact Heap.lt_size e
    have fpS : ∀ b ∈ fp, b ∉ frs X.stack := fun b hb z => by
      obtain ⟨_, g1, g2, _⟩ := f2 b hb
      rcases List.mem_cons.mp (I3.stkSub b z) with e | e
      · exact g1 e
      · exact g2 e
    have hH3 : ∀ b, s3.heap.objs.size ≤ b → H3 b = none := fun b hb => I3.hok.fresh hb
    refine call_function_tree F.kind_all F.plain_all F.entry_all (F.args_all1 _) ?_
    unfold Builtin.«all»
    refine wpAny_bind (m := oneArg "all" _) (wpAny_pure ?_)
    refine wpAny_bind (wpAny_pyIter_gen (g := s3.gens.size) (hgd _ _ (hgp h')) ?_)
    refine wpAny_pure ⟨plainId_quiet F.plain_all_loop _, ?_⟩
    have hroomk : Room k (X.A.in1.in1.deeper (genEnv scope [] s3.heap.objs.size code builtinsNs X.env)) :=
      ⟨hr.hd, by have := hr.dp; show X.A.depth + 1 + 3 * k + 5 < _; omega, by have := hr.un; show X.A.units + 1 + 1 + 3 + 16 * k + 200 < _; omega⟩
    have cnil : ∀ {y : Str} {c' : Addr}, (([] : List (Str × Addr)).lookup y) = some c' → False := fun e => by cases e
    have kin : ∀ {y : Str}, ¬ (scope.names.lookup y = some .cell ∨ scope.names.lookup y = some .free) := fun {y} e => by
      rcases e with e | e
      · exact S.cell _ (PySem.mem_of_lookup e) rfl
      · exact S.free _ (PySem.mem_of_lookup e) rfl
    have IY : Inv (genCx X (genEnv scope [] s3.heap.objs.size code builtinsNs X.env) (X.A.in1.in1.deeper (genEnv scope [] s3.heap.objs.size code builtinsNs X.env)) x fp s3 H3 [(h'.objs.size, go)]) [] [none] H3
        { s3 with gens := (s3.gens.push (.fresh (.compStart (.GeneratorExp elt [⟨.Name x px, iter, [], 0⟩] scope gpos) 0 (.ref it) .none (genEnv scope [] s3.heap.objs.size code builtinsNs X.env)))), toks := s3.toks + 1 + 1 + 1, heap := h'.push go } := by
      refine ⟨⟨I3.ok.mod, S.kind, I3.ok.glob, rfl, Nat.le_refl _, fun y z c' e _ => (cnil e).elim, fun y e => (kin e).elim, fun y c' _ e => (cnil e).elim, fun _ => hr.hd, Around.frames_deeper I3.ok.frames, .inr ⟨rfl, rfl⟩,
        fun b hb => ⟨Nat.ne_of_lt (fpl b hb), fun y c' e => (cnil e).elim⟩, I3.bs, Nat.le_trans I3.ok.bsz I3.sz, fun b o e hb => ?_, fpS, I3.stack, I3.stkFree⟩,
        rfl, I3.bare.push rfl, Un.kept keepG, ⟨_, hn'.keeps fun b o e => Heap.get?_push_of_some _ e, fun i y v e1 e2 _ => ?_⟩, fun y c' e => (cnil e).elim, hH3 _ (Nat.le_refl _), fun y c' e => (cnil e).elim, fun p hp => ?_, I3.hok.kept keepG, rfl⟩
      · obtain ⟨_, _, _, g3, _⟩ := f2 b hb
        rcases g3 with g3 | g3
        · exact I2.ok.noex b o e g3
        · have h1 := Heap.lt_size e
          have h2 := I2.ok.bsz
          exact Nat.lt_irrefl _ (Nat.lt_of_lt_of_le h1 (Nat.le_trans h2 g3))
      · match i, e2 with
        | 0, e2 => cases e2
        | i + 1, e2 => simp at e2
      · have hp2 : p ∈ ([(h'.objs.size, go)] ++ [] : List (Addr × Obj)) := hp
        have hp' : p = (h'.objs.size, go) := by simpa using hp2
        subst hp'
        exact ⟨hgp h', hH3 _ (by rw [hsz]; exact Nat.le_succ _), by show h'.objs.size ≠ s3.heap.objs.size; rw [hsz]; exact Nat.succ_ne_self _, nstk _ (by rw [hsz]; exact Nat.le_succ _), hgc⟩
    have hst : ∀ H' : Hp, (∀ b ∈ fp, H' b = none) → ∀ b ∈ fp, FpOk (genCx X (genEnv scope [] s3.heap.objs.size code builtinsNs X.env) (X.A.in1.in1.deeper (genEnv scope [] s3.heap.objs.size code builtinsNs X.env)) x fp s3 H3 [(h'.objs.size, go)]) [] H' b :=
      fun H' hf b hb => ⟨hf b hb, Nat.ne_of_lt (fpl b hb), fpS b hb, .inl hb, fun y c' e => (cnil e).elim, fun p hp => by
        have hp2 : p ∈ ([(h'.objs.size, go)] ++ [] : List (Addr × Obj)) := hp
        have hp' : p = (h'.objs.size, go) := by simpa using hp2
        subst hp'
        show h'.objs.size ≠ b
        rw [hsz]
        exact Nat.ne_of_gt (Nat.lt_succ_of_lt (fpl b hb))⟩
    obtain ⟨m, w0⟩ := hW H3 hT
    refine loop_all (Q := Q) (go := go) (g := s3.gens.size) (A := X.A) (Y := genCx X (genEnv scope [] s3.heap.objs.size code builtinsNs X.env) (X.A.in1.in1.deeper (genEnv scope [] s3.heap.objs.size code builtinsNs X.env)) x fp s3 H3 [(h'.objs.size, go)])
      (by exact List.mem_singleton.mpr rfl) (fun h e => hgd h _ e) hr.hd hr.depth (fun b H' s' I' q' => ?_) (m + 1) _ (hgd _ _ (hgp h')) IY.nolimit ⟨_, Array.getElem?_push_size .., rfl, ?_⟩
    · refine ⟨.bl b, H', ?_, rfl, q'⟩
      refine I3.call' (ch := fp) I'.os I'.base I'.hok I'.bare fun b hb => ?_
      obtain ⟨_, g1, _, g3, g4, g5⟩ := f2 b hb
      exact ⟨g3, g1, g4, g5⟩
    · exact seg_all0 S rfl (hE _ _ _ _ _ _ _ _ hroomk) T hst turn (m + 1) _ _ ⟨m, H3, Nat.lt_succ_self m, inv_same IY rfl rfl (bare_set IY.bare rfl), T.keep _ _ _ st3' fun b _ o e => keepG b o e, fr3, w0⟩
  cases hf : codeAmong gpos ps.toList with
  | none =>
    refine wpAny_genexprCodeX hcode (cd.code hPs htr) (cd.tab hPs) hf fun c' h' tk hx hge hlt hco' _ htab' _ => ?_
    obtain ⟨o1, vs, f1, tf, fl, tg, inF, tx, tt, op, _, _, _, _, _, _, _, _, _, htr', _⟩ := hco'
    have J3 := inv_tab (h' := h') (g' := s2.gens) (d' := s2.drawn) (t' := tk) I2 hP (fun b u hb e => hx b u hb e) htab'.2 I2.bare
    exact thn (cont _ h' tk _ J3 ⟨⟨_, upd_same, htr'⟩, fun b hb => upd_ne hb⟩ (T.keep _ _ _ st2 fun b hb o e => hx b o (fpP b hb) e)) fun bi s4 h4 h'' a1 a2 => Calls.spliced_nil (h4 h'' a1 a2)
  | some cv =>
    refine wpAny_genexprCode_hit hcode (cd.code hPs htr) hf ?_
    exact thn (cont cv s2.heap s2.toks H2 I2 ⟨⟨ps, hP, htr⟩, fun _ _ => rfl⟩ st2) fun bi s4 h4 h'' a1 a2 => Calls.spliced_nil (h4 h'' a1 a2)
end
end Ln


set_option Elab.async false
set_option linter.all false
set_option maxRecDepth 100000
set_option maxHeartbeats 4000000
namespace Ln
open PySem PySem.Spec PyProof.Rows L2

theorem keyIs_scan {k : Key} {v : Value} (h : keyIs k v = true) : v.scannable = true := by
  rcases keyIs_shape h with ⟨i, t, _, rfl⟩ | ⟨x, t, _, rfl⟩ <;> rfl

/-- whether k is among the keys l -/
def memK (l : List Key) (k : Key) : Bool := l.any fun j => decide (j = k)
theorem memK_iff {l : List Key} {k : Key} : memK l k = true ↔ k ∈ l := by
  unfold memK
  rw [List.any_eq_true]
  constructor
  · intro ⟨j, hj, e⟩
    rw [← of_decide_eq_true e]
    exact hj
  · intro h
    exact ⟨k, h, decide_eq_true rfl⟩
theorem memK_app {l : List Key} {k k' : Key} : memK (l ++ [k]) k' = (memK l k' || decide (k' = k)) := by
  unfold memK
  rw [List.any_append]
  congr 1
  show (decide (k = k') || false) = _
  rw [Bool.or_false]
  by_cases e : k = k'
  · rw [e]
  · rw [decide_eq_false e, decide_eq_false fun q => e q.symm]
theorem setOf_eq {P : Program} {w : World} {h : Heap} {a : Addr} {S S' : Key → Bool} {n : Nat} (hS : h.SetOf (mixKind P w) a S n) (e : ∀ k, S k = S' k) : h.SetOf (mixKind P w) a S' n := by
  have : S = S' := funext e
  subst this
  exact hS
/-- the set of the first i keys stands at a: m members -/
def SetUp (P : Program) (w : World) (h : Heap) (a : Addr) (ks : List Key) (i : Nat) : Prop :=
  ∃ m, h.SetOf (mixKind P w) a (memK (ks.take i)) m ∧ m ≤ i ∧ (m = i ↔ (ks.take i).Nodup)
theorem nodup_snoc {α : Type} {l : List α} {x : α} : (l ++ [x]).Nodup ↔ l.Nodup ∧ x ∉ l := by
  rw [List.nodup_append]
  constructor
  · intro ⟨a, _, c⟩
    exact ⟨a, fun hx => c x hx x List.mem_cons_self rfl⟩
  · intro ⟨a, b⟩
    refine ⟨a, List.nodup_cons.mpr ⟨by simp, List.nodup_nil⟩, fun y hy z hz e => ?_⟩
    rw [List.mem_singleton] at hz
    exact b (by rw [← hz, ← e]; exact hy)
theorem setUp_step {P : Program} {w : World} {h' : Heap} {a : Addr} {ks : List Key} {i m : Nat} {k : Key} (hk : ks[i]? = some k) (hm : m ≤ i) (hn : m = i ↔ (ks.take i).Nodup)
    (hs : h'.SetOf (mixKind P w) a (fun k' => memK (ks.take i) k' || decide (k' = k)) (if memK (ks.take i) k then m else m + 1)) : SetUp P w h' a ks (i + 1) := by
  have ht : ks.take (i + 1) = ks.take i ++ [k] := by rw [List.take_add_one, hk]; rfl
  refine ⟨if memK (ks.take i) k then m else m + 1, setOf_eq hs (fun k' => by rw [ht, memK_app]), ?_, ?_⟩
  · split <;> omega
  · rw [ht, nodup_snoc]
    by_cases e : k ∈ ks.take i
    · rw [if_pos (memK_iff.mpr e)]
      exact ⟨fun q => by omega, fun q => absurd e q.2⟩
    · rw [if_neg fun q => e (memK_iff.mp q)]
      exact ⟨fun q => ⟨hn.mp (by omega), e⟩, fun q => by have := hn.mpr q.1; omega⟩

section
variable {P : Program} {w : World} {A : Around} {R : Result → Shared → Prop} {it : Addr} {fp wr : List Addr} {G : Array GenState → Array GenState → Prop} {n : Nat} {Pv : Nat → Value → Prop} {St : Nat → Shared → Prop}
theorem loop_keys (W : WalksS P w A.in1 it fp wr G n Pv St) (S : Addr) (hSf : S ∉ fp) (ks : List Key) (hval : ∀ (i : Nat) (v : Value), Pv i v → ∃ k : Key, ks[i]? = some k ∧ keyIs k v = true) (hb : n + 1 < scanBound) :
    ∀ (d i : Nat) (s : Shared), n - i = d → i ≤ n → St i s → SetUp P w s.heap S ks i →
      (∀ s', Moved (S :: wr) G s s' → SetUp P w s'.heap S ks n → R (.ok (.ret .none)) s') →
      codeAny (model P w) A (.builtin "set.update.loop" ⟨[.ref S, .ref it], []⟩) R s := by
  have nwr : S ∉ wr := fun z => hSf (W.sub _ z)
  have more : ∀ b ∈ wr, b ∈ S :: wr := fun b z => List.mem_cons_of_mem S z
  intro d
  induction d with
  | zero =>
    intro i s hd hi st ⟨m, hS, hm, hn⟩ hR
    obtain rfl : i = n := by omega
    refine codeAny_builtin PyProof.Rows.F.entry_set_update_loop ?_
    rw [Around.under_plainId (PyProof.Rows.F.plain_set_update_loop) _]
    show wpAny (model P w) A.in1 (pyNext (.ref it) >>= _) _ _ s
    refine wpAny_bind (W.done s _ _ st fun s1 hmv => ?_)
    exact wpAny_pure (hR s1 (hmv.mono more) ⟨m, setOf_at hS fun o e => hmv.heap S o nwr e, hm, hn⟩)
  | succ d ih =>
    intro i s hd hi st ⟨m, hS, hm, hn⟩ hR
    have hlt : i < n := by omega
    refine codeAny_builtin PyProof.Rows.F.entry_set_update_loop ?_
    rw [Around.under_plainId (PyProof.Rows.F.plain_set_update_loop) _]
    show wpAny (model P w) A.in1 (pyNext (.ref it) >>= _) _ _ s
    refine wpAny_bind (W.item i s _ _ hlt st fun v s1 hv st1 hmv => ?_)
    obtain ⟨k, hk, kv⟩ := hval i v hv
    have hS1 := setOf_at hS fun o e => hmv.heap S o nwr e
    show wpAny (model P w) A.in1 (holding [v] (setAdd S v) >>= _) _ _ s1
    refine wpAny_bind (wpAny_holding ?_)
    unfold setAdd
    refine wpAny_holding (wpAny_bind ((mixKind P w).pyHash (k := k) kv ?_))
    refine wpAny_setAddHashed_of (knd := mixKind P w) (s := { s1 with toks := s1.toks + 1 }) kv (keyIs_scan kv) hS1 (by omega) fun h2 sb hS2 => ?_
    refine wpAny_pure ⟨plainId_quiet (PyProof.Rows.F.plain_set_update_loop) _, ih (i + 1) _ (by omega) hlt (W.frame _ s1 _ _ st1 (Nat.le_succ _) fun b hbf o e => ?_) (setUp_step hk hm hn hS2) fun s3 hm3 hS3 => ?_⟩
    · exact (sb.2 b fun z => hSf (z ▸ hbf)).trans e
    · refine hR s3 (Moved.trans W.gtrans ((hmv.mono more).then_heap (Nat.le_succ _) fun b o hbw e => ?_) hm3) hS3
      exact (sb.2 b fun z => hbw (by rw [z]; exact List.mem_cons_self)).trans e
end

abbrev sObj (led : Bool) : Obj := { cls := .type "set", dict := none, data := .set #[] 0 (.fresh 0 0 led) }
section
variable {P : Program} {w : World} {A : Around} {E : Value → Shared → Prop} {s : Shared}
theorem call_set_keys {l : Addr} {items : Array Value} {ks : List Key} {Q : Value → Shared → Prop}
    (hh : A.handled = none) (hl : s.heap.IsTuple l items) (hk : ks.length = items.size) (hi : ∀ (i : Nat) (v : Value), items[i]? = some v → ∃ k : Key, ks[i]? = some k ∧ keyIs k v = true) (hb : items.size + 1 < scanBound)
    (h : ∀ (h' : Heap) (tk : Nat), SetUp P w h' s.heap.objs.size ks items.size → (∀ b o, b < s.heap.objs.size → s.heap.get? b = some o → h'.get? b = some o) → Q (.ref s.heap.objs.size) { s with heap := h', toks := tk }) :
    wpAny (model P w) A (call (.type "set") [.ref l]) Q E s := by
  obtain ⟨mro1, mro2, hmro⟩ := PySem.F.called_set.mro
  have made := PySem.F.called_set.made
  have subs := PySem.F.called_set.sub
  refine wpAny_call (codeAny_of_tree ?_)
  show wpAny (model P w) _ (callAny (.type "set") _) _ _ _
  refine wpAny_pure ⟨Code.quiet_builtin _ (by decide +kernel), codeAny_builtin (PySem.F.entry_type_call) ?_⟩
  rw [Around.under_plain (weight_type_call_type "set" [Value.ref l] []) rfl]
  have notT := PySem.F.called_set.notType
  have canC := PySem.F.called_set.canCreate
  have chk := PySem.F.typeCall_set_1 (Value.ref l)
  repeat (any_goals (first | assumption | wp_step))
  refine codeAny_mono (code_set_new_1 (.ref l) (E := E) (Q₁ := fun ob s1 => ∃ led, ob = .ref s.heap.objs.size ∧ s1 = { s with heap := s.heap.push (sObj led) }) fun led => ⟨led, rfl, rfl⟩) fun r s1 hr => ?_
  match r, hr with
  | .error e, hr => exact hr
  | .ok .next, hr => exact hr.elim
  | .ok .brk, hr => exact hr.elim
  | .ok .cont, hr => exact hr.elim
  | .ok (.ret ob), hr =>
    obtain ⟨led, rfl, rfl⟩ := hr
    have hS : (s.heap.push (sObj led)).get? s.heap.objs.size = some (sObj led) := Heap.get?_push_size _ rfl
    have tyS : Shared.TypeIs { s with heap := s.heap.push (sObj led) } (.ref s.heap.objs.size) "set" := ⟨_, hS, rfl⟩
    have lkI := PySem.F.called_set.init.lookup
    have bdI := PySem.F.called_set.init.bind (.ref s.heap.objs.size)
    repeat (any_goals (first | assumption | wp_step))
    refine codeAny_mono (codeAny_call_builtin (R := wants (fun r s2 => r = .none ∧ ∃ h' tk, s2 = { s with heap := h', toks := tk } ∧ SetUp P w h' s.heap.objs.size ks items.size ∧ (∀ b o, b < s.heap.objs.size → s.heap.get? b = some o → h'.get? b = some o)) E)
      (PySem.F.called_set.init.plain) (PySem.F.entry_set_init) (check_set_init_1 tyS ?_)) fun r2 s2 hr2 => ?_
    · obtain ⟨ob, hob, hcl, nl, hdl⟩ := hl
      obtain ⟨oc, od, oda, osl⟩ := ob
      simp only at hcl hdl
      subst hcl
      subst hdl
      have hob1 : (s.heap.push (sObj led)).get? l = some { cls := .type "tuple", dict := od, data := .seq items nl, slots := osl } := Heap.get?_push_of_some _ hob
      have n1 := PySem.F.sub_tuple_set
      have n2 := PySem.F.sub_tuple_frozenset
      have n3 : (Value.type "tuple" == Value.type "dict") = false := by decide
      have tup1 : (s.heap.push (sObj led)).IsTuple l items := ⟨_, hob1, rfl, nl, rfl⟩
      unfold Builtin.«set.__init__» noKeywords Builtin.Frozenset.updateFrom
      generalize hPI : pyIter = PI
      wp_walk
      subst hPI
      refine wpAny_pyIter_tuple tup1 (wpAny_bind (wpAny_runValue ?_))
      have lS : l < s.heap.objs.size := Heap.lt_size hob
      have hne : l ≠ (s.heap.push (sObj led)).objs.size := by
        rw [Heap.size_push]
        exact Nat.ne_of_lt (Nat.lt_succ_of_lt lS)
      have nS : s.heap.objs.size ∉ [(s.heap.push (sObj led)).objs.size, l] := by
        rw [Heap.size_push]
        intro z
        rcases List.mem_cons.mp z with z | z
        · exact absurd z (Nat.ne_of_lt (Nat.lt_succ_self _))
        · exact absurd (List.mem_singleton.mp z) (Nat.ne_of_gt lS)
      refine loop_keys ((Walks.tuple (show A.in1.in1.in1.handled = none by simp [hh]) _ l hne items).toS) s.heap.objs.size nS ks hi hb (items.size - 0) 0 _ (by omega) (Nat.zero_le _) ⟨⟨_, Heap.get?_push_size _ rfl, rfl, rfl⟩, tup1.push _⟩ ?hS0 ?hR
      case hS0 =>
        have got : ((s.heap.push (sObj led)).push { cls := .type "tuple_iterator", data := .fields #[.ref l, .int 0 0] }).get? s.heap.objs.size = some (sObj led) := Heap.get?_push_of_some _ hS
        have e0 : ((s.heap.push (sObj led)).push { cls := .type "tuple_iterator", data := .fields #[.ref l, .int 0 0] }).SetOf (mixKind P w) s.heap.objs.size (memK (ks.take 0)) 0 :=
          ⟨_, #[], 0, _, got, ⟨rfl, rfl, rfl⟩, rfl, (fun e he => by simp at he), (fun k => by simp [memK]), (by decide), (by rfl), rfl⟩
        exact ⟨0, e0, Nat.le_refl _, by simp⟩
      case hR =>
        intro s3 hmv hS3
        obtain ⟨h3, g3, d3, t3, o3⟩ := s3
        have eg : g3 = s.gens := hmv.gens
        have ed : d3 = s.drawn := hmv.drawn
        have eo : o3 = s.os := hmv.os
        subst eg ed eo
        show wpAny (model P w) _ _ _ _ _
        refine wpAny_pure ?_
        show wpAny (model P w) _ (ret Value.none) _ _ _
        refine wpAny_pure ⟨rfl, h3, t3, rfl, hS3, fun b o hb2 e => ?_⟩
        refine hmv.heap b o (fun z => ?_) (Heap.get?_push_of_some _ (Heap.get?_push_of_some _ e))
        rcases List.mem_cons.mp z with z | z
        · exact Nat.ne_of_lt hb2 z
        · have z := List.mem_singleton.mp z
          rw [Heap.size_push] at z
          exact Nat.ne_of_lt (Nat.lt_succ_of_lt hb2) z
    · match r2, hr2 with
      | .error e, hr2 => exact hr2
      | .ok .next, hr2 => exact hr2.elim
      | .ok .brk, hr2 => exact hr2.elim
      | .ok .cont, hr2 => exact hr2.elim
      | .ok (.ret r), hr2 =>
        obtain ⟨rfl, h3, t3, rfl, hS3, hk3⟩ := hr2
        repeat (any_goals (first | assumption | wp_step))
        exact h _ _ hS3 hk3
end
end Ln


set_option Elab.async false
set_option linter.all false
set_option maxRecDepth 100000
set_option maxHeartbeats 2000000
namespace Ln
open PySem PySem.Spec PyProof.Rows L2 GxR
/-! ### the text -/
/-- a def of the text, its code object known -/
structure FunC (K : PySem.W.Frag) (x qual : Str) (st : Stmt) (f : Addr) (fd : FuncData) (c : Addr) : Prop where
  ex : ∃ (oc : Value) (od : Option Addr) (kV doc pm : Value) (an : Option Addr) (ct : Value) (osl : Array (Option Value)),
    fd = PySem.W.fnOf x qual (defArgs st) (defBody st) (defScope st) .none kV doc pm an (.ref c) ct ∧ K.lookup f = some ⟨oc, od, .func fd, osl⟩ ∧ PySem.W.codeIn K (.ref c) qual = true
  kp : PySem.W.keepIn K (.ref f) = true
theorem FunC.fn {K : PySem.W.Frag} {x qual : Str} {st : Stmt} {f : Addr} {fd : FuncData} {c : Addr} (F : FunC K x qual st f fd c) : Fun K x qual st f fd := by
  obtain ⟨oc, od, kV, doc, pm, an, ct, osl, e, lk, hc⟩ := F.ex
  exact ⟨⟨oc, od, kV, doc, pm, an, .ref c, ct, osl, e, lk, hc⟩, F.kp⟩
theorem FunC.ok {P : Program} {w : World} {K : PySem.W.Frag} {mg : Str → Option Value} {base : Heap} {x qual : Str} {st : Stmt} {f : Addr} {fd : FuncData} {c : Addr} {N ps : List Str} {k : Nat} {sp : Sp} (F : FunC K x qual st f fd c) (S : FnScope N ps (defScope st))
    (len : ∀ vs H Q E, sp vs H Q E → vs.length = ps.length)
    (hbody : ∀ (A : Around) (outer : List Env) (s : Shared) (H : Hp) (vs : List V) (Q : VK) (E : XK), Room k (A.deeper (envOfC qual (defScope st) s.heap.objs.size f (.ref c))) → sp vs H Q E →
      ∃ t, PSs (cxOf CX0 P w K mg base N qual (defScope st) f (.ref c) A outer s H E).nox (defBody st) t ∧ t { nx := fun _ H' => Q .non H', rt := Q } (start N vs) H) : FnOk P w K mg base CX0 (k + 1) f fd ps sp := by
  obtain ⟨oc, od, kV, doc, pm, an, ct, osl, rfl, lk, hcd⟩ := F.ex
  refine fn_of lk hcd S len fun A outer s H vs Q E hr hsp => ?_
  obtain ⟨t, h, q⟩ := hbody A outer s H vs Q E hr hsp
  exact ⟨t, h.nox, q⟩

/-! ### heaps -/
/-- what stood stands, but for the tables Ps, which may have grown -/
structure Kp (Ps : List Addr) (H H' : Hp) : Prop where
  at_ : ∀ b o, H b = some o → b ∉ Ps → H' b = some o
  tab : ∀ p ∈ Ps, TabG H' p
def Tabs (Ps : List Addr) (H : Hp) : Prop := ∀ p ∈ Ps, TabG H p
section
variable {Ps : List Addr} {H H1 H2 : Hp} {a p : Addr} {o : HO} {K : PySem.W.Frag} {xs : List V}
theorem Kp.refl (h : Tabs Ps H) : Kp Ps H H := ⟨fun _ _ e _ => e, h⟩
theorem Kp.tabs (h : Kp Ps H H1) : Tabs Ps H1 := h.tab
theorem Kp.trans (h : Kp Ps H H1) (k : Kp Ps H1 H2) : Kp Ps H H2 := ⟨fun b o e n => k.at_ b o (h.at_ b o e n) n, k.tab⟩
theorem tab_ne (h : Tabs Ps H) (e : H a = some o) (hn : ∀ q, o ≠ .tbl q) : a ∉ Ps := fun z => by
  obtain ⟨ps, e2, _⟩ := h a z
  rw [e2] at e
  exact hn ps (Option.some.inj e).symm
theorem tab_free (h : Tabs Ps H) (e : H a = none) : a ∉ Ps := fun z => by
  obtain ⟨ps, e2, _⟩ := h a z
  rw [e2] at e
  cases e
theorem Kp.new (h : Tabs Ps H) (e : H p = none) : Kp Ps H (upd H p o) :=
  ⟨fun b u q _ => by rw [upd_ne (ne_of_none q e)]; exact q, fun q hq => by
    obtain ⟨ps, e2, t⟩ := h q hq
    exact ⟨ps, by rw [upd_ne (ne_of_none e2 e)]; exact e2, t⟩⟩
theorem Kp.tabbed (h : Tabs Ps H) (hp : p ∈ Ps) (t : Tabbed p H H1) : Kp Ps H H1 :=
  ⟨fun b u q n => (t.2 b fun z => n (z ▸ hp)).trans q, fun q hq => by
    by_cases e : q = p
    · rw [e]
      exact t.1
    · obtain ⟨ps, e2, r⟩ := h q hq
      exact ⟨ps, (t.2 q e).trans e2, r⟩⟩
theorem Kp.lst (k : Kp Ps H H1) (h : Tabs Ps H) (e : H a = some (.lst xs)) : H1 a = some (.lst xs) := k.at_ a _ e (tab_ne h e fun q z => by cases z)
theorem Kp.tup (k : Kp Ps H H1) (h : Tabs Ps H) (e : H a = some (.tup xs)) : H1 a = some (.tup xs) := k.at_ a _ e (tab_ne h e fun q z => by cases z)
theorem Kp.ext {φ : Heap → Prop} (k : Kp Ps H H1) (h : Tabs Ps H) (e : H a = some (.ext φ)) : H1 a = some (.ext φ) := k.at_ a _ e (tab_ne h e fun q z => by cases z)
theorem Kp.seqL (k : Kp Ps H H1) (h : Tabs Ps H) (e : SqL K H a xs) : SqL K H1 a xs := by
  rcases e with (e | ⟨ob, e⟩) | e
  · exact .inl (.inl (k.lst h e))
  · exact .inl (.inr ⟨ob, k.at_ a _ e (tab_ne h e fun q z => by cases z)⟩)
  · exact .inr e
theorem Kp.seqT (k : Kp Ps H H1) (h : Tabs Ps H) (e : SqT K H a xs) : SqT K H1 a xs := by
  rcases e with (e | ⟨ob, e⟩) | e
  · exact .inl (.inl (k.tup h e))
  · exact .inl (.inr ⟨ob, k.at_ a _ e (tab_ne h e fun q z => by cases z)⟩)
  · exact .inr e
/-- what is free behind was free before, tables apart -/
theorem Kp.free (k : Kp Ps H H1) (h : Tabs Ps H) (e : H1 p = none) : H p = none := by
  cases q : H p with
  | none => rfl
  | some u =>
    by_cases z : p ∈ Ps
    · exact absurd e (by
        obtain ⟨ps, e2, _⟩ := k.tab p z
        rw [e2]
        exact fun y => by cases y)
    · rw [k.at_ p u q z] at e
      cases e
end
end Ln


set_option Elab.async false
set_option linter.all false
set_option maxRecDepth 100000
set_option maxHeartbeats 2000000
namespace Ln
open PySem PySem.Spec PyProof.Rows L2 GxR
/-- the program's text as it stands: what its defs lean on -/
structure Bi (mg : Str → Option Value) : Prop where
  isi : mg "isinstance" = none
  len : mg "len" = none
  all : mg "all" = none
  str : mg "str" = none
  tup : mg "tuple" = none
  lst : mg "list" = none
  set : mg "set" = none
  zip : mg "zip" = none
def lowB (c : Nat) : Bool := decide (97 ≤ c) && decide (c ≤ 122)
def carB (x : Str) : Bool := decide (1 ≤ x.length) && decide (x.length ≤ 4) && x.cps.toList.all lowB
theorem scIsCar : FnScope ["value"] ["value"] (defScope sIsCar) := ⟨rfl, rfl, rfl, by decide +kernel, rfl, by decide +kernel, by decide +kernel⟩
section
variable {P : Program} {w : World} {K : PySem.W.Frag} {mg : Str → Option Value} {base : Heap} {Ps : List Addr}
def spCar (Ps : List Addr) : Sp := fun vs H Q _ => ∃ c : Str, vs = [.str c] ∧ c.length ≤ sizeLine ∧ Tabs Ps H ∧ ∀ H', Kp Ps H H' → Q (.bl (carB c)) H'
theorem ok_car {f c P1 : Addr} {fd : FuncData} (F : FunC K "is_car" "is_car" sIsCar f fd c) (B : Bi mg) (TB : TabB base mg c P1) (hP : P1 ∈ Ps) : FnOk P w K mg base CX0 2 f fd ["value"] (spCar Ps) := by
  refine F.ok scIsCar (fun vs H Q E h => ?_) (fun A outer s H vs Q E hr h => ?_)
  · obtain ⟨z, rfl, _⟩ := h
    rfl
  · obtain ⟨z, rfl, hz, hT, q⟩ := h
    refine ⟨_, pss_cons (ps_if (PW.pt (pw_or (pt_not (pt_val (pe_callB call_isi (by rfl) B.isi (by decide +kernel) (pa_cons (pv 0) (pa_cons (pe_bltn (by rfl) B.str (by decide +kernel) (v := .ty "str") rfl) pa_nil)))))
        (pw_or1 (pt_not (pt_chain op_le op_le pe_int (pe_callB call_len_str (by rfl) B.len PySem.boot_len (pa_cons (pv 0) pa_nil)) pe_int)))))
        (pss_one (ps_ret pe_bl)) pss_nil)
      (pss_one (ps_ret (pe_allG (k := 0) hr rfl (by rfl) B.all TB rfl ⟨rfl, rfl, by decide +kernel, by decide +kernel, rfl, rfl⟩ (pi_str (pv 0))
        (fun _ _ _ _ _ _ _ _ _ => pe_chain op_le_str op_le_str pe_str (pv 0) pe_str)))), ?_⟩
    refine ⟨_, rfl, .str z, .ty "str", .type "str", .type "str", true, rfl, .ty _, .base (.str z), kit_ty (by decide +kernel), true, rfl, ?_⟩
    refine iteF ?_
    refine ⟨.str z, rfl, z, rfl, hz, 1, (z.length : Int), rfl, rfl, _, rfl, ?_⟩
    have out : ¬ (1 ≤ z.length ∧ z.length ≤ 4) → Q (.bl false) H := fun hn => by
      have e : carB z = false := by
        unfold carB
        by_cases a : 1 ≤ z.length
        · by_cases b : z.length ≤ 4
          · exact absurd ⟨a, b⟩ hn
          · simp [b]
        · simp [a]
      have := q H (Kp.refl hT)
      rw [e] at this
      exact this
    refine ite2 (fun h1 => ?_) (fun h1 => ?_)
    · have h1 : (1 : Int) ≤ z.length := of_decide_eq_true h1
      refine ⟨_, _, rfl, rfl, _, rfl, ?_⟩
      by_cases h4 : z.length ≤ 4
      · rw [decide_eq_true (show (z.length : Int) ≤ 4 by omega)]
        refine iteF ?_
        -- all('a' <= letter <= 'z' ..)
        refine ⟨.str z, rfl, z, rfl, hT P1 hP, fun i m H' => m = z.length - i ∧ Kp Ps H H' ∧ i ≤ z.length ∧ (z.cps.toList.take i).all lowB = true, fun H2 hH => ⟨z.length, by omega, Kp.tabbed hT hP hH, Nat.zero_le _, rfl⟩, fun i m H' hW => ?_⟩
        obtain ⟨rfl, kp, hi, hall⟩ := hW
        by_cases hlt : i < z.length
        · refine .inr ⟨hlt, fun v H3 hy => ?_⟩
          obtain ⟨rfl, c, hc, rfl⟩ := hy
          have cl : ∀ y : Nat, (⟨#[y]⟩ : Str).cps.toList = [y] := fun y => rfl
          have ca : ("a" : Str).cps.toList = [97] := by decide +kernel
          have cz : ("z" : Str).cps.toList = [122] := by decide +kernel
          have lt1 : ∀ x y : Nat, ([x] < [y]) ↔ x < y := fun x y => by rw [List.cons_lt_cons_iff]; simp
          refine ⟨.str ⟨#[c]⟩, rfl, _, _, rfl, rfl, _, rfl, ?_⟩
          have hcl : z.cps.toList[i]? = some c := by rw [Array.getElem?_toList]; exact hc
          have fin : lowB c = false → Q (.bl false) H3 := fun e => by
            have e2 : carB z = false := by
              unfold carB
              have : z.cps.toList.all lowB = false := by
                rw [List.all_eq_false]
                exact ⟨c, List.mem_of_getElem? hcl, by rw [e]; simp⟩
              rw [this, Bool.and_false]
            have := q H3 kp
            rw [e2] at this
            exact this
          by_cases h97 : 97 ≤ c
          · have e1 : (!decide ((⟨#[c]⟩ : Str).cps.toList < ("a" : Str).cps.toList)) = true := by rw [ca, cl, decide_eq_false (by rw [lt1]; omega)]; rfl
            rw [e1]
            refine iteT ⟨_, _, rfl, rfl, _, rfl, ?_⟩
            by_cases h122 : c ≤ 122
            · have e2 : (!decide (("z" : Str).cps.toList < (⟨#[c]⟩ : Str).cps.toList)) = true := by rw [cz, cl, decide_eq_false (by rw [lt1]; omega)]; rfl
              rw [e2]
              refine iteT ⟨z.length - (i + 1), by omega, rfl, kp, hlt, ?_⟩
              rw [List.take_add_one, hcl, List.all_append, hall]
              simp [lowB, h97, h122]
            · have e2 : (!decide (("z" : Str).cps.toList < (⟨#[c]⟩ : Str).cps.toList)) = false := by rw [cz, cl, decide_eq_true (by rw [lt1]; omega)]; rfl
              rw [e2]
              exact iteF (fin (by simp [lowB, h122]))
          · have e1 : (!decide ((⟨#[c]⟩ : Str).cps.toList < ("a" : Str).cps.toList)) = false := by rw [ca, cl, decide_eq_true (by rw [lt1]; omega)]; rfl
            rw [e1]
            exact iteF ⟨_, rfl, iteF (fin (by simp [lowB, h97]))⟩
        · refine .inl ⟨by show z.cps.size ≤ i; exact Nat.le_of_not_lt hlt, ?_⟩
          have e : carB z = true := by
            have : i = z.length := by omega
            rw [this, List.take_of_length_le (Nat.le_of_eq (by show z.cps.toList.length = z.cps.size; simp))] at hall
            have a : 1 ≤ z.length := by omega
            simp [carB, a, h4, hall]
          have := q H' kp
          rw [e] at this
          exact this
      · rw [decide_eq_false (show ¬ (z.length : Int) ≤ 4 by omega)]
        exact iteT (out (by omega))
    · have h1 : ¬ (1 : Int) ≤ z.length := fun z => h1 (decide_eq_true z)
      exact ⟨_, rfl, iteT (out (by omega))⟩
end
end Ln


set_option Elab.async false
set_option linter.all false
set_option maxRecDepth 100000
set_option maxHeartbeats 2000000
namespace Ln
open PySem PySem.Spec PyProof.Rows L2 GxR
section
variable {X : Cx}
/-- set(t), t a tuple of texts -/
def rSetT (K : PySem.W.Frag) (P : Program) (w : World) : List V → Hp → VK → Prop := fun vs H Q => ∃ (a : Addr) (xs : List Str), vs = [.ref a] ∧ SqT K H a (xs.map V.str) ∧ xs.length ≤ 1000 ∧
  ∀ p n, H p = none → n ≤ xs.length → (n = xs.length ↔ xs.Nodup) → Q (.ref p) (upd H p (SetK P w p (memK (xs.map Sum.inr)) n))
theorem nodup_inr {xs : List Str} : (xs.map (Sum.inr : Str → Key)).Nodup ↔ xs.Nodup := by
  constructor
  · intro h
    exact (List.pairwise_map.mp h).imp fun hne e => hne (by rw [e])
  · intro h
    exact List.pairwise_map.mpr (h.imp fun hne e => hne (Sum.inr.inj e))
theorem cr_setT (hc : X.calm = true) : CallR X (.type "set") (rSetT X.K X.prog X.w) := by
  intro pins s σ H vs us Q I r h
  obtain ⟨a, xs, rfl, hS, hlen, q⟩ := h
  obtain ⟨u, rfl, r1⟩ := vals1 r
  obtain rfl : u = Value.ref a := r1
  obtain ⟨its, rv, p, _⟩ := I.tuple hS
  have hl : its.toArray.size = xs.length := by rw [List.size_toArray, ← rv.length, List.length_map]
  refine call_set_keys (ks := xs.map Sum.inr) (I.ok.hd hc) (show s.heap.IsTuple a its.toArray from p) (by rw [hl, List.length_map]) (fun i v hv => ?_) (by rw [hl]; unfold scanBound; omega) fun h' tk hS' hk => ?_
  · have hv' : its[i]? = some v := by simpa using hv
    have hi : i < xs.length := by
      rw [← hl]
      exact (Array.getElem?_eq_some_iff.mp hv).1
    have hx : (xs.map V.str)[i]? = some (V.str xs[i]) := by rw [List.getElem?_map, List.getElem?_eq_getElem hi]; rfl
    obtain ⟨u, hu, ru⟩ := rv.get hx
    rw [hv'] at hu
    obtain rfl : v = u := Option.some.inj hu
    obtain ⟨t, rfl⟩ := ru
    exact ⟨Sum.inr xs[i], by rw [List.getElem?_map, List.getElem?_eq_getElem hi]; rfl, keyIs_str _ _⟩
  · rw [hl] at hS'
    obtain ⟨m, hm, hle, hn⟩ := hS'
    rw [List.take_of_length_le (by rw [List.length_map]; exact Nat.le_refl _)] at hm hn
    have hf : H s.heap.objs.size = none := I.hok.fresh (Nat.le_refl _)
    exact ⟨.ref s.heap.objs.size, _, I.laid (t' := tk) (fun b u e => hk b u (Heap.lt_size e) e) (Nat.le_refl _) (setK_new hm), rfl, q _ m hf hle (hn.trans nodup_inr)⟩
theorem call_len_setK : CallR X (.builtin "len") (fun vs H Q => ∃ a S n, vs = [.ref a] ∧ H a = some (SetK X.prog X.w a S n) ∧ n ≤ 1000 ∧ Q (.int (n : Nat)) H) := by
  intro pins s σ H vs us Q I r h
  obtain ⟨a, S, n, rfl, ha, hn, q⟩ := h
  obtain ⟨u, rfl, r1⟩ := vals1 r
  obtain rfl : u = Value.ref a := r1
  obtain ⟨o, es, ep, t, ho, hex, hd, _, _, _, hf, hsz⟩ := setK_get I ha
  subst hsz
  exact call_len_set ho hex hd hf (by omega) ⟨.int es.size, H, I.tok _, ⟨_, rfl⟩, q⟩
end
theorem tyx_tup {K : PySem.W.Frag} {H : Hp} {a : Addr} {xs : List V} (h : SqT K H a xs) : TyX K H (.ref a) (.type "tuple") := by
  rcases h with (h | ⟨o, h⟩) | ⟨o, its, n, hk, hc, _⟩
  · exact .base (.tup h)
  · exact .fTuple h
  · exact .kTuple hk hc
theorem tyx_lst {K : PySem.W.Frag} {H : Hp} {a : Addr} {xs : List V} (h : SqL K H a xs) : TyX K H (.ref a) (.type "list") := by
  rcases h with (h | ⟨o, h⟩) | ⟨o, its, n, hk, hc, _⟩
  · exact .base (.lst h)
  · exact .base (.frz h)
  · exact .kList hk hc
def laneB (xs : List Str) : Bool := xs.all carB && decide xs.Nodup
theorem scIsLane : FnScope ["value"] ["value"] (defScope sIsLane) := ⟨rfl, rfl, rfl, by decide +kernel, rfl, by decide +kernel, by decide +kernel⟩
section
variable {P : Program} {w : World} {K : PySem.W.Frag} {mg : Str → Option Value} {base : Heap} {Ps : List Addr}
def spLane (K : PySem.W.Frag) (Ps : List Addr) : Sp := fun vs H Q _ => ∃ (a : Addr) (xs : List Str), vs = [.ref a] ∧ SqT K H a (xs.map V.str) ∧ xs.length ≤ 1000 ∧ (∀ x ∈ xs, x.length ≤ sizeLine) ∧ Tabs Ps H ∧ ∀ H', Kp Ps H H' → Q (.bl (laneB xs)) H'
theorem ok_lane {f c P1 fC : Addr} {fd fdC : FuncData} (F : FunC K "is_lane" "is_lane" sIsLane f fd c) (B : Bi mg) (TB : TabB base mg c P1) (hP : P1 ∈ Ps)
    (GC : FnOk P w K mg base CX0 2 fC fdC ["value"] (spCar Ps)) (mgC : mg "is_car" = some (.ref fC)) (kC : PySem.W.keepIn K (.ref fC) = true) (bC : Binds K fdC ["value"] []) : FnOk P w K mg base CX0 4 f fd ["value"] (spLane K Ps) := by
  refine F.ok scIsLane (fun vs H Q E h => ?_) (fun A outer s H vs Q E hr h => ?_)
  · obtain ⟨a, xs, rfl, _⟩ := h
    rfl
  · obtain ⟨a, xs, rfl, hS, hlen, hsz, hT, q⟩ := h
    refine ⟨_, pss_cons (ps_if (PW.pt (pw_or (pt_not (pt_val (pe_callB call_isi (by rfl) B.isi (by decide +kernel) (pa_cons (pv 0) (pa_cons (pe_bltn (by rfl) B.tup (by decide +kernel) (v := .ty "tuple") rfl) pa_nil)))))
        (pw_or1 (pt_not (pt_val (pe_allG (k := 2) hr rfl (by rfl) B.all TB rfl ⟨rfl, rfl, by decide +kernel, by decide +kernel, rfl, rfl⟩ (pi_tup (pv 0))
          (fun _ _ _ _ _ _ _ _ hk => pe_call GC hk rfl mgC kC bC .nil pass0 (pa_cons (pv 0) pa_nil))))))))
        (pss_one (ps_ret pe_bl)) pss_nil)
      (pss_one (ps_ret (pe_cmpR op_eq (pe_callB call_len_setK (by rfl) B.len PySem.boot_len (pa_cons (pe_callTy (cr_setT rfl) (by rfl) B.set (by decide +kernel) (pa_cons (pv 0) pa_nil)) pa_nil))
        (pe_callB call_len_seq (by rfl) B.len PySem.boot_len (pa_cons (pv 0) pa_nil)) (nomark _)))), ?_⟩
    refine ⟨_, rfl, .ref a, .ty "tuple", .type "tuple", .type "tuple", true, rfl, .ty _, tyx_tup hS, kit_ty (by decide +kernel), true, rfl, ?_⟩
    refine iteF ?_
    -- all(is_car(entry) ..)
    refine ⟨.ref a, rfl, a, rfl, ⟨_, hS⟩, hT P1 hP, fun i m H' => m = xs.length - i ∧ Kp Ps H H' ∧ i ≤ xs.length ∧ (xs.take i).all carB = true, fun H2 hH => ⟨xs.length, by omega, Kp.tabbed hT hP hH, Nat.zero_le _, rfl⟩, fun i m H' hW => ?_⟩
    obtain ⟨rfl, kp, hi, hall⟩ := hW
    have hS' := kp.seqT hT hS
    by_cases hlt : i < xs.length
    · have hx : (xs.map V.str)[i]? = some (V.str xs[i]) := by rw [List.getElem?_map, List.getElem?_eq_getElem hlt]; rfl
      refine .inr ⟨⟨_, _, hS', hx⟩, fun v H3 hy => ?_⟩
      obtain ⟨rfl, fv⟩ := hy
      obtain rfl : v = V.str xs[i] := Option.some.inj ((fv _ hS').symm.trans hx)
      refine ⟨_, rfl, xs[i], rfl, hsz _ (List.getElem_mem hlt), kp.tab, fun H4 kp4 => ⟨_, rfl, ?_⟩⟩
      refine ite2 (fun hc => ?_) (fun hc => ?_)
      · refine ⟨_, ?_, rfl, kp.trans kp4, hlt, ?_⟩
        · omega
        · rw [List.take_add_one, List.getElem?_eq_getElem hlt, List.all_append, hall]
          simp [hc]
      · have e : laneB xs = false := by
          unfold laneB
          have : xs.all carB = false := List.all_eq_false.mpr ⟨xs[i], List.getElem_mem hlt, hc⟩
          rw [this, Bool.false_and]
        have := q H4 (kp.trans kp4)
        rw [e] at this
        exact ⟨false, rfl, iteT this⟩
    · refine .inl ⟨⟨_, hS', by rw [List.length_map]; omega⟩, true, rfl, iteF ?_⟩
      have hall' : xs.all carB = true := by
        rw [List.take_of_length_le (by omega)] at hall
        exact hall
      refine ⟨.ref a, rfl, a, xs, rfl, hS', hlen, fun p n hp hn hnd => ?_⟩
      have k2 : Kp Ps H' (upd H' p (SetK P w p (memK (xs.map Sum.inr)) n)) := Kp.new kp.tab hp
      refine ⟨p, _, n, rfl, upd_same, by omega, .ref a, rfl, a, _, rfl, .inr (k2.seqT kp.tab hS'), rfl, ?_⟩
      have e : laneB xs = decide (V.int (n : Nat) = V.int ((xs.map V.str).length : Nat)) := by
        unfold laneB
        rw [hall', Bool.true_and, List.length_map]
        by_cases hh : xs.Nodup
        · rw [decide_eq_true hh, decide_eq_true (by rw [hnd.mpr hh])]
        · rw [decide_eq_false hh, decide_eq_false fun z => hh (hnd.mp (by have := V.int.inj z; omega))]
      have := q _ (kp.trans k2)
      rw [e] at this
      exact this
end
end Ln


set_option Elab.async false
set_option linter.all false
set_option maxRecDepth 100000
set_option maxHeartbeats 2000000
namespace Ln
open PySem PySem.Spec PyProof.Rows L2 GxR
/-- an event -/
inductive Ev where
  | inn (c : Str)
  | out
def Ev.vals : Ev → List V
  | .inn c => [.str "in", .str c]
  | .out => [.str "out"]
/-- a statement that is never reached -/
theorem ps_dead {X : Cx} {st : Stmt} : PS X st (fun _ _ _ => False) := ⟨fun _ _ _ _ _ _ h => h.elim⟩
theorem scHasW : FnScope ["value", "word", "length"] ["value", "word", "length"] (defScope sHasW) := ⟨rfl, rfl, rfl, by decide +kernel, rfl, by decide +kernel, by decide +kernel⟩
theorem scIsArr : FnScope ["value"] ["value"] (defScope sIsArr) := ⟨rfl, rfl, rfl, by decide +kernel, rfl, by decide +kernel, by decide +kernel⟩
theorem scIsDep : FnScope ["value"] ["value"] (defScope sIsDep) := ⟨rfl, rfl, rfl, by decide +kernel, rfl, by decide +kernel, by decide +kernel⟩
theorem scReqLane : FnScope ["value"] ["value"] (defScope sReqLane) := ⟨rfl, rfl, rfl, by decide +kernel, rfl, by decide +kernel, by decide +kernel⟩
section
variable {P : Program} {w : World} {K : PySem.W.Frag} {mg : Str → Option Value} {base : Heap} {Ps : List Addr}
def spHasW (K : PySem.W.Frag) : Sp := fun vs H Q _ => ∃ (a : Addr) (y wd : Str) (ys : List V) (n : Int), vs = [.ref a, .str wd, .int n] ∧ SqT K H a (.str y :: ys) ∧ Q (.bl (decide (((ys.length + 1 : Nat) : Int) = n) && decide (y = wd))) H
theorem ok_hasW {f : Addr} {fd : FuncData} (F : Fun K "has_word" "has_word" sHasW f fd) (B : Bi mg) : FnOk P w K mg base CX0 1 f fd ["value", "word", "length"] (spHasW K) := by
  refine F.ok scHasW (fun vs H Q E h => ?_) (fun cdv A outer s H vs Q E hr h => ?_)
  · obtain ⟨a, y, wd, ys, n, rfl, _⟩ := h
    rfl
  · obtain ⟨a, y, wd, ys, n, rfl, hS, q⟩ := h
    refine ⟨_, pss_one (ps_ret (pe_and (pe_callB call_isi (by rfl) B.isi (by decide +kernel) (pa_cons (pv 0) (pa_cons (pe_bltn (by rfl) B.tup (by decide +kernel) (v := .ty "tuple") rfl) pa_nil)))
      (pe_and (pe_cmpR op_eq (pe_callB call_len_seq (by rfl) B.len PySem.boot_len (pa_cons (pv 0) pa_nil)) (pv 2) (nomark _))
      (pe_and (pe_callB call_isi (by rfl) B.isi (by decide +kernel) (pa_cons (pe_ix ix_tup (pv 0) pe_int (fun _ _ => rfl)) (pa_cons (pe_bltn (by rfl) B.str (by decide +kernel) (v := .ty "str") rfl) pa_nil)))
      (pe_one (pe_cmpR op_eq (pe_ix ix_tup (pv 0) pe_int (fun _ _ => rfl)) (pv 1) (nomark _))))))), ?_⟩
    refine ⟨.ref a, rfl, .ref a, .ty "tuple", .type "tuple", .type "tuple", true, rfl, .ty _, tyx_tup hS, kit_ty (by decide +kernel), true, rfl, iteT ?_⟩
    refine ⟨.ref a, rfl, a, _, rfl, .inr hS, .int n, rfl, rfl, _, rfl, ?_⟩
    have e1 : decide (V.int (((.str y :: ys : List V).length : Nat) : Int) = V.int n) = decide (((ys.length + 1 : Nat) : Int) = n) := by
      by_cases h : ((ys.length + 1 : Nat) : Int) = n
      · rw [decide_eq_true h]
        exact decide_eq_true (by rw [← h]; rfl)
      · rw [decide_eq_false h]
        exact decide_eq_false fun z => h (V.int.inj z)
    rw [e1]
    refine ite2 (fun hn => ?_) (fun hn => ?_)
    · refine ⟨.ref a, rfl, a, _, 0, .str y, rfl, rfl, hS, atI_nat (j := 0) rfl, .str y, .ty "str", .type "str", .type "str", true, rfl, .ty _, .base (.str y), kit_ty (by decide +kernel), true, rfl, iteT ?_⟩
      refine ⟨.ref a, rfl, a, _, 0, .str y, rfl, rfl, hS, atI_nat (j := 0) rfl, .str wd, rfl, rfl, ?_⟩
      have e2 : decide (V.str y = V.str wd) = decide (y = wd) := by
        by_cases h : y = wd
        · rw [decide_eq_true h, decide_eq_true (by rw [h])]
        · rw [decide_eq_false h, decide_eq_false fun z => h (V.str.inj z)]
      rw [e2]
      rw [hn, Bool.true_and] at q
      exact q
    · have hn' : decide (((ys.length + 1 : Nat) : Int) = n) = false := by simpa using hn
      rw [hn', Bool.false_and] at q
      exact q
def spEv (K : PySem.W.Frag) (Ps : List Addr) (g : Ev → Bool) : Sp := fun vs H Q _ => ∃ (a : Addr) (e : Ev), vs = [.ref a] ∧ SqT K H a e.vals ∧ (∀ c, e = .inn c → c.length ≤ sizeLine) ∧ Tabs Ps H ∧ ∀ H', Kp Ps H H' → Q (.bl (g e)) H'
def arrB : Ev → Bool
  | .inn c => carB c
  | .out => false
def depB : Ev → Bool
  | .inn _ => false
  | .out => true
theorem ne_io : ¬ (("in" : Str) = "out") := by decide +kernel
theorem ne_oi : ¬ (("out" : Str) = "in") := by decide +kernel
theorem ok_arr {f fH fC : Addr} {fd fdH fdC : FuncData} (F : Fun K "is_arrival" "is_arrival" sIsArr f fd)
    (GH : FnOk P w K mg base CX0 1 fH fdH ["value", "word", "length"] (spHasW K)) (mgH : mg "has_word" = some (.ref fH)) (kH : PySem.W.keepIn K (.ref fH) = true) (bH : Binds K fdH ["value", "word", "length"] [])
    (GC : FnOk P w K mg base CX0 2 fC fdC ["value"] (spCar Ps)) (mgC : mg "is_car" = some (.ref fC)) (kC : PySem.W.keepIn K (.ref fC) = true) (bC : Binds K fdC ["value"] []) : FnOk P w K mg base CX0 3 f fd ["value"] (spEv K Ps arrB) := by
  refine F.ok scIsArr (fun vs H Q E h => ?_) (fun cdv A outer s H vs Q E hr h => ?_)
  · obtain ⟨a, e, rfl, _⟩ := h
    rfl
  · obtain ⟨a, e, rfl, hS, hsz, hT, q⟩ := h
    refine ⟨_, pss_one (ps_ret (pe_and (pe_call GH (hr.mono (by decide)) (by rfl) mgH kH bH .nil pass0 (pa_cons (pv 0) (pa_cons pe_str (pa_cons pe_int pa_nil))))
      (pe_one (pe_call GC hr (by rfl) mgC kC bC .nil pass0 (pa_cons (pe_ix ix_tup (pv 0) pe_int (fun _ _ => rfl)) pa_nil))))), ?_⟩
    cases e with
    | inn c =>
      refine ⟨.ref a, rfl, a, "in", "in", [.str c], 2, rfl, hS, _, rfl, ?_⟩
      rw [decide_eq_true (show ((([V.str c] : List V).length + 1 : Nat) : Int) = 2 from rfl), decide_eq_true (rfl : ("in" : Str) = "in")]
      refine iteT ⟨.ref a, rfl, a, _, 1, .str c, rfl, rfl, hS, atI_nat (j := 1) rfl, c, rfl, hsz c rfl, hT, fun H' kp => q H' kp⟩
    | out =>
      refine ⟨.ref a, rfl, a, "out", "in", [], 2, rfl, hS, _, rfl, ?_⟩
      rw [decide_eq_false ne_oi, Bool.and_false]
      exact iteF (q H (Kp.refl hT))
theorem ok_dep {f fH : Addr} {fd fdH : FuncData} (F : Fun K "is_departure" "is_departure" sIsDep f fd)
    (GH : FnOk P w K mg base CX0 1 fH fdH ["value", "word", "length"] (spHasW K)) (mgH : mg "has_word" = some (.ref fH)) (kH : PySem.W.keepIn K (.ref fH) = true) (bH : Binds K fdH ["value", "word", "length"] []) : FnOk P w K mg base CX0 2 f fd ["value"] (spEv K Ps depB) := by
  refine F.ok scIsDep (fun vs H Q E h => ?_) (fun cdv A outer s H vs Q E hr h => ?_)
  · obtain ⟨a, e, rfl, _⟩ := h
    rfl
  · obtain ⟨a, e, rfl, hS, hsz, hT, q⟩ := h
    refine ⟨_, pss_one (ps_ret (pe_call GH hr (by rfl) mgH kH bH .nil pass0 (pa_cons (pv 0) (pa_cons pe_str (pa_cons pe_int pa_nil))))), ?_⟩
    cases e with
    | inn c =>
      refine ⟨.ref a, rfl, a, "in", "out", [.str c], 1, rfl, hS, ?_⟩
      rw [decide_eq_false ne_io, Bool.and_false]
      exact q H (Kp.refl hT)
    | out =>
      refine ⟨.ref a, rfl, a, "out", "out", [], 1, rfl, hS, ?_⟩
      rw [decide_eq_true (rfl : ("out" : Str) = "out")]
      exact q H (Kp.refl hT)
/-- nothing is handed back, what stood stands -/
def spReqLane (K : PySem.W.Frag) (Ps : List Addr) : Sp := fun vs H Q _ => ∃ (a : Addr) (xs : List Str), vs = [.ref a] ∧ SqT K H a (xs.map V.str) ∧ xs.length ≤ 1000 ∧ (∀ x ∈ xs, x.length ≤ sizeLine) ∧ laneB xs = true ∧ Tabs Ps H ∧ ∀ H', Kp Ps H H' → Q .non H'
theorem ok_reqLane {f fL : Addr} {fd fdL : FuncData} (F : Fun K "require_lane" "require_lane" sReqLane f fd)
    (GL : FnOk P w K mg base CX0 4 fL fdL ["value"] (spLane K Ps)) (mgL : mg "is_lane" = some (.ref fL)) (kL : PySem.W.keepIn K (.ref fL) = true) (bL : Binds K fdL ["value"] []) : FnOk P w K mg base CX0 5 f fd ["value"] (spReqLane K Ps) := by
  refine F.ok scReqLane (fun vs H Q E h => ?_) (fun cdv A outer s H vs Q E hr h => ?_)
  · obtain ⟨a, xs, rfl, _⟩ := h
    rfl
  · obtain ⟨a, xs, rfl, hS, hlen, hsz, hB, hT, q⟩ := h
    refine ⟨_, pss_one (ps_if (pt_not (pt_val (pe_call GL hr (by rfl) mgL kL bL .nil pass0 (pa_cons (pv 0) pa_nil)))) (pss_one ps_dead) pss_nil), ?_⟩
    refine ⟨.ref a, rfl, a, xs, rfl, hS, hlen, hsz, hT, fun H' kp => ⟨_, rfl, ?_⟩⟩
    rw [hB]
    exact iteF (q H' kp)
end
end Ln


set_option Elab.async false
set_option linter.all false
set_option maxRecDepth 100000
set_option maxHeartbeats 2000000
namespace Ln
open PySem PySem.Spec PyProof.Rows L2 GxR
theorem pair_at {α β : Type} {F : α → β → Prop} : ∀ {as : List α} {bs : List β}, Paired F as bs → ∀ (i : Nat) (b : β), bs[i]? = some b → ∃ a, as[i]? = some a ∧ F a b
  | _, _, .nil, i, b, h => by simp at h
  | _, _, .cons r t, 0, b, h => by
    have e := Option.some.inj h
    exact ⟨_, rfl, e ▸ r⟩
  | _, _, .cons r t, i + 1, b, h => by
    obtain ⟨a, e, q⟩ := pair_at t i b (by simpa using h)
    exact ⟨a, by simpa using e, q⟩
theorem Paired.imp {α β : Type} {F G : α → β → Prop} {as : List α} {bs : List β} (h : Paired F as bs) (f : ∀ a b, F a b → G a b) : Paired G as bs := Paired.mapP h f
/-- may the log es be, the cars used, n present -/
def logB : List Str → Nat → List Ev → Bool
  | _, _, [] => true
  | u, n, .inn c :: r => if carB c = true ∧ ¬ c ∈ u then logB (c :: u) (n + 1) r else false
  | u, n, .out :: r => if 0 < n then logB u (n - 1) r else false
theorem Kp.upd {Ps : List Addr} {H H1 : Hp} {u : Addr} {o : HO} (k : Kp Ps H H1) (hT : Tabs Ps H) (hu : H u = none) : Kp Ps H (upd H1 u o) := by
  have nu := tab_free hT hu
  exact ⟨fun b q e n => by rw [upd_ne (ne_of_none e hu)]; exact k.at_ b q e n, fun q hq => by
    obtain ⟨ps, e, r⟩ := k.tab q hq
    exact ⟨ps, by rw [upd_ne (fun z : q = u => nu (by rw [← z]; exact hq))]; exact e, r⟩⟩
/-- a log's events, each a tuple -/
def EvsAt (K : PySem.W.Frag) (H : Hp) (as : List Addr) (es : List Ev) : Prop := Paired (fun a (e : Ev) => SqT K H a e.vals) as es
theorem EvsAt.kp {K : PySem.W.Frag} {Ps : List Addr} {H H1 : Hp} {as : List Addr} {es : List Ev} (h : EvsAt K H as es) (k : Kp Ps H H1) (hT : Tabs Ps H) : EvsAt K H1 as es := Paired.imp h fun _ _ q => k.seqT hT q
theorem scIsLog : FnScope ["start", "value", "used", "present", "event"] ["start", "value"] (defScope sIsLog) := ⟨rfl, rfl, rfl, by decide +kernel, rfl, by decide +kernel, by decide +kernel⟩
/-- a lane and a log of modest size -/
structure LaneAt (K : PySem.W.Frag) (H : Hp) (a : Addr) (xs : List Str) : Prop where
  at_ : SqT K H a (xs.map V.str)
  few : xs.length ≤ 400
  sz : ∀ x ∈ xs, x.length ≤ sizeLine
structure LogAt (K : PySem.W.Frag) (H : Hp) (l : Addr) (as : List Addr) (es : List Ev) : Prop where
  at_ : SqL K H l (as.map V.ref)
  evs : EvsAt K H as es
  few : es.length ≤ 400
  sz : ∀ c, Ev.inn c ∈ es → c.length ≤ sizeLine
theorem LaneAt.kp {K : PySem.W.Frag} {Ps : List Addr} {H H1 : Hp} {a : Addr} {xs : List Str} (h : LaneAt K H a xs) (k : Kp Ps H H1) (hT : Tabs Ps H) : LaneAt K H1 a xs := ⟨k.seqT hT h.at_, h.few, h.sz⟩
theorem LogAt.kp {K : PySem.W.Frag} {Ps : List Addr} {H H1 : Hp} {l : Addr} {as : List Addr} {es : List Ev} (h : LogAt K H l as es) (k : Kp Ps H H1) (hT : Tabs Ps H) : LogAt K H1 l as es := ⟨k.seqL hT h.at_, h.evs.kp k hT, h.few, h.sz⟩
section
variable {P : Program} {w : World} {K : PySem.W.Frag} {mg : Str → Option Value} {base : Heap} {Ps : List Addr}
def spLog (K : PySem.W.Frag) (Ps : List Addr) : Sp := fun vs H Q _ => ∃ (a l : Addr) (xs : List Str) (as : List Addr) (es : List Ev), vs = [.ref a, .ref l] ∧ LaneAt K H a xs ∧ laneB xs = true ∧ LogAt K H l as es ∧ Tabs Ps H ∧ ∀ H', Kp Ps H H' → Q (.bl (logB xs xs.length es)) H'
theorem ok_log {f fR fA fD : Addr} {fd fdR fdA fdD : FuncData} (F : Fun K "is_log" "is_log" sIsLog f fd) (B : Bi mg)
    (GR : FnOk P w K mg base CX0 5 fR fdR ["value"] (spReqLane K Ps)) (mgR : mg "require_lane" = some (.ref fR)) (kR : PySem.W.keepIn K (.ref fR) = true) (bR : Binds K fdR ["value"] [])
    (GA : FnOk P w K mg base CX0 3 fA fdA ["value"] (spEv K Ps arrB)) (mgA : mg "is_arrival" = some (.ref fA)) (kA : PySem.W.keepIn K (.ref fA) = true) (bA : Binds K fdA ["value"] [])
    (GD : FnOk P w K mg base CX0 2 fD fdD ["value"] (spEv K Ps depB)) (mgD : mg "is_departure" = some (.ref fD)) (kD : PySem.W.keepIn K (.ref fD) = true) (bD : Binds K fdD ["value"] []) :
    FnOk P w K mg base CX0 6 f fd ["start", "value"] (spLog K Ps) := by
  refine F.ok scIsLog (fun vs H Q E h => ?_) (fun cdv A outer s H vs Q E hr h => ?_)
  · obtain ⟨a, l, xs, as, es, rfl, _⟩ := h
    rfl
  · obtain ⟨a, l, xs, as, es, rfl, hL, hB, hE, hT, q⟩ := h
    refine ⟨_, pss_cons (ps_expr (pe_call GR hr (by rfl) mgR kR bR .nil pass0 (pa_cons (pv 0) pa_nil)))
      (pss_cons (ps_if (pt_not (pt_val (pe_callB call_isi (by rfl) B.isi (by decide +kernel) (pa_cons (pv 1) (pa_cons (pe_bltn (by rfl) B.lst (by decide +kernel) (v := .ty "list") rfl) pa_nil))))) (pss_one (ps_ret pe_bl)) pss_nil)
      (pss_cons (ps_set (i := 2) scIsLog.nd rfl (.inl rfl) (pe_callTy (cr_setT rfl) (by rfl) B.set (by decide +kernel) (pa_cons (pv 0) pa_nil)))
      (pss_cons (ps_set (i := 3) scIsLog.nd rfl (.inl rfl) (pe_callB call_len_seq (by rfl) B.len PySem.boot_len (pa_cons (pv 0) pa_nil)))
      (pss_cons (ps_for PassesOwn.never rfl (pi_list (pv 1)) (pg_name (i := 4) scIsLog.nd rfl (.inl rfl))
        (pss_one (ps_if (PW.pt (pw_and (pt_val (pe_call GA (hr.mono (by decide)) (by rfl) mgA kA bA .nil pass0 (pa_cons (pv 4) pa_nil))) (pw_and1 (pt_cmpR or_snotinK (pe_ix ix_tup (pv 4) pe_int (fun _ _ => rfl)) (pv 2) (by rfl)))))
          (pss_cons (ps_expr (pe_saddK (pv 2) (pa_cons (pe_ix ix_tup (pv 4) pe_int (fun _ _ => rfl)) pa_nil))) (pss_one (ps_aug (i := 3) scIsLog.nd rfl (.inl rfl) pe_int ip_add)))
          (pss_one (ps_if (PW.pt (pw_and (pt_val (pe_call GD (hr.mono (by decide)) (by rfl) mgD kD bD .nil pass0 (pa_cons (pv 4) pa_nil))) (pw_and1 (pt_cmpR op_gt (pv 3) pe_int (nomark _)))))
            (pss_one (ps_aug (i := 3) scIsLog.nd rfl (.inl rfl) pe_int ip_sub))
            (pss_one (ps_ret pe_bl)))))))
      (pss_one (ps_ret pe_bl)))))), ?_⟩
    -- require_lane(start)
    refine ⟨.ref a, rfl, a, xs, rfl, hL.at_, by have := hL.few; omega, hL.sz, hB, hT, fun H1 k1 => ?_⟩
    have hL1 := hL.kp k1 hT
    have hE1 := hE.kp k1 hT
    refine ⟨.ref l, rfl, .ref l, .ty "list", .type "list", .type "list", true, rfl, .ty _, tyx_lst hE1.at_, kit_ty (by decide +kernel), true, rfl, iteF ?_⟩
    -- used = set(start); present = len(start)
    refine ⟨.ref a, rfl, a, xs, rfl, hL1.at_, by have := hL.few; omega, fun u n hu hn _ => ?_⟩
    have hu0 : H u = none := k1.free hT hu
    have k2 : Kp Ps H (upd H1 u (SetK P w u (memK (xs.map Sum.inr)) n)) := k1.upd hT hu0
    have hL2 := hL.kp k2 hT
    refine ⟨.ref a, rfl, a, _, rfl, .inr hL2.at_, ?_⟩
    have hE2 := hE.kp k2 hT
    refine ⟨.ref l, rfl, l, rfl, ⟨_, hE2.at_⟩, for_list (K := K) (a := l) (xs := as.map V.ref) (fun i σ H' => ∃ (v4 : Option V) (m : Nat) (S : Key → Bool) (us : List Str) (c : Nat), σ = [some (.ref a), some (.ref l), some (.ref u), some (.int (m : Nat)), v4] ∧ Kp Ps H H' ∧
        H' u = some (SetK P w u S c) ∧ c ≤ xs.length + i ∧ (∀ x : Str, S (.inr x) = true ↔ x ∈ us) ∧ i ≤ es.length ∧ logB xs xs.length es = logB us m (es.drop i)) ?_ ?_ ?_ ?_⟩
    · refine ⟨none, xs.length, _, xs, n, ?_, k2, upd_same, by omega, fun x => ?_, Nat.zero_le _, rfl⟩
      · rw [List.length_map]
        rfl
      · rw [memK_iff, List.mem_map]
        constructor
        · intro ⟨y, hy, e⟩
          rw [← Sum.inr.inj e]
          exact hy
        · intro h
          exact ⟨x, h, rfl⟩
    · rintro i σ H' _ ⟨_, _, _, _, _, _, kp, _⟩
      exact (hE.kp kp hT).at_
    · rintro i y σ H' hi ⟨v4, m, S, us, c, rfl, kp, hSet, hc, hS, hie, hlog⟩
      have hlen := Paired.length hE.evs
      have hlt : i < es.length := by
        have h1 := (List.getElem?_eq_some_iff.mp hi).1
        rw [List.length_map] at h1
        omega
      obtain ⟨ev, hev⟩ : ∃ ev, es[i]? = some ev := ⟨es[i], List.getElem?_eq_getElem hlt⟩
      obtain ⟨b, hb, hbt⟩ := pair_at (hE.kp kp hT).evs i ev hev
      have hy : y = .ref b := by
        rw [List.getElem?_map, hb] at hi
        exact (Option.some.inj hi).symm
      subst hy
      have hdrop : es.drop i = ev :: es.drop (i + 1) := by
        rw [List.drop_eq_getElem_cons hlt]
        rw [List.getElem?_eq_getElem hlt] at hev
        rw [Option.some.inj hev]
      rw [hdrop] at hlog
      have hsz : ∀ c', ev = .inn c' → c'.length ≤ sizeLine := fun c' e => hE.sz c' (e ▸ List.mem_of_getElem? hev)
      have few1 := hL.few
      have few2 := hE.few
      -- is_arrival(event)
      refine ⟨.ref b, rfl, b, ev, rfl, hbt, hsz, kp.tab, fun H3 k3 => ⟨_, rfl, ?_⟩⟩
      have kp3 := kp.trans k3
      have hSet3 := k3.ext kp.tab hSet
      have hbt3 := k3.seqT kp.tab hbt
      -- elif is_departure(event) and present > 0
      have dep : ∀ H4, Kp Ps H3 H4 → (depB ev && decide (0 < m)) = false → logB us m (ev :: es.drop (i + 1)) = false → Q (.bl false) H4 := fun H4 k4 _ hf => by
        have := q H4 (kp3.trans k4)
        rw [hlog, hf] at this
        exact this
      cases ev with
      | out =>
        refine iteF (iteF ?_)
        refine ⟨.ref b, rfl, b, .out, rfl, hbt3, fun _ e => (by cases e), kp3.tab, fun H4 k4 => ⟨_, rfl, iteT ?_⟩⟩
        refine ⟨_, rfl, _, _, rfl, rfl, _, rfl, ite2 (fun hm => ?_) (fun hm => ?_)⟩
        · have hm : (0 : Int) < (m : Nat) := of_decide_eq_true hm
          refine ⟨_, rfl, _, _, rfl, rfl, some (.ref b), m - 1, S, us, c, ?_, kp3.trans k4, k4.ext kp3.tab hSet3, by omega, hS, hlt, ?_⟩
          · show [some (V.ref a), some (V.ref l), some (V.ref u), some (V.int ((m : Nat) - 1)), some (V.ref b)] = _
            rw [show ((m : Nat) : Int) - 1 = ((m - 1 : Nat) : Int) by omega]
          · rw [hlog]
            show (if 0 < m then _ else _) = _
            rw [if_pos (by omega)]
        · have hm : ¬ 0 < m := fun z => hm (decide_eq_true (by omega))
          exact dep H4 k4 (by simp [hm]) (by show (if 0 < m then _ else _) = _; rw [if_neg hm])
      | inn x =>
        refine ite2 (fun hx => ?_) (fun hx => ?_)
        · have hx : carB x = true := hx
          refine ⟨.ref b, rfl, b, _, 1, .str x, rfl, rfl, hbt3, atI_nat (j := 1) rfl, .ref u, rfl, .inr x, u, S, c, rfl, rfl, hSet3, _, rfl, ?_⟩
          show if (!S (.inr x)) = true then _ else _
          cases hin : S (.inr x) with
          | false =>
            have hxu : ¬ x ∈ us := fun z => by
              rw [(hS x).mpr z] at hin
              cases hin
            refine iteT ⟨.ref u, rfl, ⟨u, S, c, rfl, hSet3⟩, .ref b, rfl, b, _, 1, .str x, rfl, rfl, hbt3, atI_nat (j := 1) rfl, u, .inr x, S, c, rfl, rfl, hSet3, by unfold scanBound; omega, ?_⟩
            refine ⟨_, rfl, _, _, rfl, rfl, some (.ref b), m + 1, _, x :: us, _, rfl, kp3.upd hT hu0, upd_same, ?_, fun z => ?_, hlt, ?_⟩
            · rw [hin, if_neg Bool.false_ne_true]
              omega
            · show (S (.inr z) || decide ((Sum.inr z : Key) = Sum.inr x)) = true ↔ _
              rw [Bool.or_eq_true, hS z, decide_eq_true_iff, List.mem_cons]
              constructor
              · rintro (h | h)
                · exact .inr h
                · exact .inl (Sum.inr.inj h)
              · rintro (h | h)
                · exact .inr (by rw [h])
                · exact .inl h
            · rw [hlog]
              show (if carB x = true ∧ ¬ x ∈ us then _ else _) = _
              rw [if_pos ⟨hx, hxu⟩]
          | true =>
            have hxu : x ∈ us := (hS x).mp hin
            refine iteF ?_
            refine ⟨.ref b, rfl, b, .inn x, rfl, hbt3, hsz, kp3.tab, fun H4 k4 => ⟨_, rfl, iteF (iteF ?_)⟩⟩
            exact dep H4 k4 rfl (by show (if carB x = true ∧ ¬ x ∈ us then _ else _) = _; rw [if_neg fun z => z.2 hxu])
        · have hx : ¬ carB x = true := hx
          refine iteF ?_
          refine ⟨.ref b, rfl, b, .inn x, rfl, hbt3, hsz, kp3.tab, fun H4 k4 => ⟨_, rfl, iteF (iteF ?_)⟩⟩
          exact dep H4 k4 rfl (by show (if carB x = true ∧ ¬ x ∈ us then _ else _) = _; rw [if_neg fun z => hx z.1])
    · rintro σ H' ⟨v4, m, S, us, c, rfl, kp, hSet, hc, hS, hie, hlog⟩
      have := q H' kp
      rw [hlog, List.length_map, Paired.length hE.evs, List.drop_length] at this
      exact this
end
end Ln


set_option Elab.async false
set_option linter.all false
set_option maxRecDepth 100000
set_option maxHeartbeats 2000000
namespace Ln
open PySem PySem.Spec PyProof.Rows L2 GxR
theorem scReqLog : FnScope ["start", "log"] ["start", "log"] (defScope sReqLog) := ⟨rfl, rfl, rfl, by decide +kernel, rfl, by decide +kernel, by decide +kernel⟩
theorem scIsSide : FnScope ["value"] ["value"] (defScope sIsSide) := ⟨rfl, rfl, rfl, by decide +kernel, rfl, by decide +kernel, by decide +kernel⟩
theorem scReqSides : FnScope ["log", "sides"] ["log", "sides"] (defScope sReqSides) := ⟨rfl, rfl, rfl, by decide +kernel, rfl, by decide +kernel, by decide +kernel⟩
theorem scSizes : FnScope ["start", "log", "counts", "event", "change"] ["start", "log"] (defScope sSizes) := ⟨rfl, rfl, rfl, by decide +kernel, rfl, by decide +kernel, by decide +kernel⟩
def szs : Int → List Ev → List Int
  | n, [] => [n]
  | n, .inn _ :: r => n :: szs (n + 1) r
  | n, .out :: r => n :: szs (n - 1) r
def Ev.dn : Ev → Int
  | .inn _ => 1
  | .out => -1
theorem szs_head (n : Int) (es : List Ev) : (szs n es)[0]? = some n := by
  cases es with
  | nil => rfl
  | cons e r => cases e <;> rfl
theorem szs_len : ∀ (n : Int) (es : List Ev), (szs n es).length = es.length + 1
  | _, [] => rfl
  | n, .inn _ :: r => by show (szs (n + 1) r).length + 1 = _; rw [szs_len]; rfl
  | n, .out :: r => by show (szs (n - 1) r).length + 1 = _; rw [szs_len]; rfl
theorem szs_step : ∀ (n : Int) (es : List Ev) (i : Nat) (e : Ev) (k : Int), es[i]? = some e → (szs n es)[i]? = some k → (szs n es)[i + 1]? = some (k + e.dn)
  | n, [], i, e, k, h, _ => by simp at h
  | n, .inn c :: r, 0, e, k, h, h2 => by
    have e1 := Option.some.inj h
    have e2 := Option.some.inj h2
    subst e1 e2
    show (szs (n + 1) r)[0]? = _
    rw [szs_head]
    rfl
  | n, .out :: r, 0, e, k, h, h2 => by
    have e1 := Option.some.inj h
    have e2 := Option.some.inj h2
    subst e1 e2
    show (szs (n - 1) r)[0]? = _
    rw [szs_head]
    rfl
  | n, .inn c :: r, i + 1, e, k, h, h2 => szs_step (n + 1) r i e k (by simpa using h) h2
  | n, .out :: r, i + 1, e, k, h, h2 => szs_step (n - 1) r i e k (by simpa using h) h2
def sideB (x : Str) : Bool := decide (x = "L") || decide (x = "R")
section
variable {P : Program} {w : World} {K : PySem.W.Frag} {mg : Str → Option Value} {base : Heap} {Ps : List Addr}
def spReqLog (K : PySem.W.Frag) (Ps : List Addr) : Sp := fun vs H Q _ => ∃ (a l : Addr) (xs : List Str) (as : List Addr) (es : List Ev), vs = [.ref a, .ref l] ∧ LaneAt K H a xs ∧ laneB xs = true ∧ LogAt K H l as es ∧ logB xs xs.length es = true ∧ Tabs Ps H ∧ ∀ H', Kp Ps H H' → Q .non H'
theorem ok_reqLog {f fL : Addr} {fd fdL : FuncData} (F : Fun K "require_log" "require_log" sReqLog f fd)
    (GL : FnOk P w K mg base CX0 6 fL fdL ["start", "value"] (spLog K Ps)) (mgL : mg "is_log" = some (.ref fL)) (kL : PySem.W.keepIn K (.ref fL) = true) (bL : Binds K fdL ["start", "value"] []) : FnOk P w K mg base CX0 7 f fd ["start", "log"] (spReqLog K Ps) := by
  refine F.ok scReqLog (fun vs H Q E h => ?_) (fun cdv A outer s H vs Q E hr h => ?_)
  · obtain ⟨a, l, xs, as, es, rfl, _⟩ := h
    rfl
  · obtain ⟨a, l, xs, as, es, rfl, hL, hB, hE, hB2, hT, q⟩ := h
    refine ⟨_, pss_one (ps_if (pt_not (pt_val (pe_call GL hr (by rfl) mgL kL bL .nil pass0 (pa_cons (pv 0) (pa_cons (pv 1) pa_nil))))) (pss_one ps_dead) pss_nil), ?_⟩
    refine ⟨.ref a, rfl, .ref l, rfl, a, l, xs, as, es, rfl, hL, hB, hE, hT, fun H' kp => ⟨_, rfl, ?_⟩⟩
    rw [hB2]
    exact iteF (q H' kp)
def spSide (Ps : List Addr) : Sp := fun vs H Q _ => ∃ x : Str, vs = [.str x] ∧ Tabs Ps H ∧ ∀ H', Kp Ps H H' → Q (.bl (sideB x)) H'
theorem ok_side {f : Addr} {fd : FuncData} (F : Fun K "is_side" "is_side" sIsSide f fd) (B : Bi mg) : FnOk P w K mg base CX0 1 f fd ["value"] (spSide Ps) := by
  refine F.ok scIsSide (fun vs H Q E h => ?_) (fun cdv A outer s H vs Q E hr h => ?_)
  · obtain ⟨x, rfl, _⟩ := h
    rfl
  · obtain ⟨x, rfl, hT, q⟩ := h
    refine ⟨_, pss_one (ps_ret (pe_and (pe_callB call_isi (by rfl) B.isi (by decide +kernel) (pa_cons (pv 0) (pa_cons (pe_bltn (by rfl) B.str (by decide +kernel) (v := .ty "str") rfl) pa_nil)))
      (pe_one (pe_cmpR op_in_seq (pv 0) (pe_tup (pa_cons pe_str (pa_cons pe_str pa_nil))) (by rfl))))), ?_⟩
    refine ⟨_, rfl, .str x, .ty "str", .type "str", .type "str", true, rfl, .ty _, .base (.str x), kit_ty (by decide +kernel), true, rfl, iteT ?_⟩
    refine ⟨_, rfl, by show 2 ≤ sizeLine; decide, fun p hp => ⟨p, _, rfl, .inr (SqT.of upd_same), rfl, rfl, ?_⟩⟩
    have e : inV (.str x) [.str "L", .str "R"] = sideB x := by
      unfold inV sideB
      show (decide ("L" = x) || (decide ("R" = x) || false)) = _
      rw [Bool.or_false]
      congr 1
      · exact decide_eq_decide.mpr ⟨fun h => h.symm, fun h => h.symm⟩
      · exact decide_eq_decide.mpr ⟨fun h => h.symm, fun h => h.symm⟩
    show Q (.bl (inV (.str x) [.str "L", .str "R"])) _
    rw [e]
    exact q _ (Kp.new hT hp)
end
end Ln


set_option Elab.async false
set_option linter.all false
set_option maxRecDepth 100000
set_option maxHeartbeats 2000000
namespace Ln
open PySem PySem.Spec PyProof.Rows L2 GxR
section
variable {P : Program} {w : World} {K : PySem.W.Frag} {mg : Str → Option Value} {base : Heap} {Ps : List Addr}
def spReqSides (K : PySem.W.Frag) (Ps : List Addr) : Sp := fun vs H Q _ => ∃ (l m : Addr) (as : List V) (sd : List Str), vs = [.ref l, .ref m] ∧ SqL K H l as ∧ SqL K H m (sd.map V.str) ∧ sd.length = as.length ∧ sd.all sideB = true ∧ Tabs Ps H ∧ ∀ H', Kp Ps H H' → Q .non H'
theorem ok_reqSides {f c P1 fS : Addr} {fd fdS : FuncData} (F : FunC K "require_sides" "require_sides" sReqSides f fd c) (B : Bi mg) (TB : TabB base mg c P1) (hP : P1 ∈ Ps)
    (GS : FnOk P w K mg base CX0 1 fS fdS ["value"] (spSide Ps)) (mgS : mg "is_side" = some (.ref fS)) (kS : PySem.W.keepIn K (.ref fS) = true) (bS : Binds K fdS ["value"] []) : FnOk P w K mg base CX0 3 f fd ["log", "sides"] (spReqSides K Ps) := by
  refine F.ok scReqSides (fun vs H Q E h => ?_) (fun A outer s H vs Q E hr h => ?_)
  · obtain ⟨l, m, as, sd, rfl, _⟩ := h
    rfl
  · obtain ⟨l, m, as, sd, rfl, hL, hS, hlen, hall, hT, q⟩ := h
    refine ⟨_, pss_cons (ps_if (PW.pt (pw_or (pt_not (pt_val (pe_callB call_isi (by rfl) B.isi (by decide +kernel) (pa_cons (pv 1) (pa_cons (pe_bltn (by rfl) B.lst (by decide +kernel) (v := .ty "list") rfl) pa_nil)))))
        (pw_or1 (pt_cmpR op_ne (pe_callB call_len_seq (by rfl) B.len PySem.boot_len (pa_cons (pv 1) pa_nil)) (pe_callB call_len_seq (by rfl) B.len PySem.boot_len (pa_cons (pv 0) pa_nil)) (nomark _)))))
        (pss_one ps_dead) pss_nil)
      (pss_one (ps_if (pt_not (pt_val (pe_allG (k := 1) hr rfl (by rfl) B.all TB rfl ⟨rfl, rfl, by decide +kernel, by decide +kernel, rfl, rfl⟩ (pi_list (pv 1))
          (fun _ _ _ _ _ _ _ _ hk => pe_call GS hk rfl mgS kS bS .nil pass0 (pa_cons (pv 0) pa_nil)))))
        (pss_one ps_dead) pss_nil)), ?_⟩
    refine ⟨_, rfl, .ref m, .ty "list", .type "list", .type "list", true, rfl, .ty _, tyx_lst hS, kit_ty (by decide +kernel), true, rfl, iteF ?_⟩
    refine ⟨.ref m, rfl, m, _, rfl, .inl hS, .ref l, rfl, l, _, rfl, .inl hL, rfl, _, rfl, ?_⟩
    have e0 : (!decide (V.int (((sd.map V.str).length : Nat) : Int) = V.int ((as.length : Nat) : Int))) = false := by
      rw [List.length_map, hlen, decide_eq_true rfl]
      rfl
    rw [e0]
    refine iteF ?_
    refine ⟨.ref m, rfl, m, rfl, ⟨_, hS⟩, hT P1 hP, fun i n H' => n = sd.length - i ∧ Kp Ps H H' ∧ i ≤ sd.length, fun H2 hH => ⟨sd.length, by omega, Kp.tabbed hT hP hH, Nat.zero_le _⟩, fun i n H' hW => ?_⟩
    obtain ⟨rfl, kp, hi⟩ := hW
    have hS' := kp.seqL hT hS
    by_cases hlt : i < sd.length
    · have hx : (sd.map V.str)[i]? = some (V.str sd[i]) := by rw [List.getElem?_map, List.getElem?_eq_getElem hlt]; rfl
      refine .inr ⟨⟨_, _, hS', hx⟩, fun v H3 hy => ?_⟩
      obtain ⟨rfl, fv⟩ := hy
      obtain rfl : v = V.str sd[i] := Option.some.inj ((fv _ hS').symm.trans hx)
      refine ⟨_, rfl, sd[i], rfl, kp.tab, fun H4 kp4 => ⟨_, rfl, ?_⟩⟩
      rw [List.all_eq_true.mp hall _ (List.getElem_mem hlt)]
      exact iteT ⟨_, by omega, rfl, kp.trans kp4, hlt⟩
    · exact .inl ⟨⟨_, hS', by rw [List.length_map]; omega⟩, true, rfl, iteF (q H' kp)⟩
def spSizes (K : PySem.W.Frag) (Ps : List Addr) : Sp := fun vs H Q _ => ∃ (a l : Addr) (xs : List Str) (as : List Addr) (es : List Ev), vs = [.ref a, .ref l] ∧ LaneAt K H a xs ∧ laneB xs = true ∧ LogAt K H l as es ∧ logB xs xs.length es = true ∧ Tabs Ps H ∧
  ∀ H' p, Kp Ps H H' → H p = none → H' p = some (.lst ((szs xs.length es).map V.int)) → Q (.ref p) H'
theorem Kp.setNew {H H1 : Hp} {u : Addr} {o : HO} (k : Kp Ps H H1) (hT : Tabs Ps H) (hu : H u = none) : Kp Ps H (L2.upd H1 u o) := k.upd hT hu
theorem ok_sizes {f fL : Addr} {fd fdL : FuncData} (F : Fun K "sizes" "sizes" sSizes f fd) (B : Bi mg)
    (GL : FnOk P w K mg base CX0 7 fL fdL ["start", "log"] (spReqLog K Ps)) (mgL : mg "require_log" = some (.ref fL)) (kL : PySem.W.keepIn K (.ref fL) = true) (bL : Binds K fdL ["start", "log"] []) : FnOk P w K mg base CX0 8 f fd ["start", "log"] (spSizes K Ps) := by
  refine F.ok scSizes (fun vs H Q E h => ?_) (fun cdv A outer s H vs Q E hr h => ?_)
  · obtain ⟨a, l, xs, as, es, rfl, _⟩ := h
    rfl
  · obtain ⟨a, l, xs, as, es, rfl, hL, hB, hE, hB2, hT, q⟩ := h
    refine ⟨_, pss_cons (ps_expr (pe_call GL hr (by rfl) mgL kL bL .nil pass0 (pa_cons (pv 0) (pa_cons (pv 1) pa_nil))))
      (pss_cons (ps_set (i := 2) scSizes.nd rfl (.inl rfl) (pe_lst (pa_cons (pe_callB call_len_seq (by rfl) B.len PySem.boot_len (pa_cons (pv 0) pa_nil)) pa_nil)))
      (pss_cons (ps_for PassesOwn.never rfl (pi_list (pv 1)) (pg_name (i := 3) scSizes.nd rfl (.inl rfl))
        (pss_cons (ps_set (i := 4) scSizes.nd rfl (.inl rfl) (pe_ifExp (pt_cmpR op_eq (pe_ix ix_tup (pv 3) pe_int (fun _ _ => rfl)) pe_str (nomark _)) pe_int (pe_un un_neg pe_int)))
        (pss_one (ps_expr (pe_bm PySem.F.plainAttrs_list PySem.F.slot_list_append PySem.F.type_list_append mt_append (pv 2) (pa_cons (pe_op op_add (pe_ix ix_list (pv 2) (pe_un un_neg pe_int) (fun _ _ => rfl)) (pv 4)) pa_nil))))))
      (pss_one (ps_ret (pv 2))))), ?_⟩
    refine ⟨.ref a, rfl, .ref l, rfl, a, l, xs, as, es, rfl, hL, hB, hE, hB2, hT, fun H1 k1 => ?_⟩
    have hL1 := hL.kp k1 hT
    have hE1 := hE.kp k1 hT
    refine ⟨.ref a, rfl, a, _, rfl, .inr hL1.at_, by show 1 ≤ sizeLine; decide, fun o ho => ?_⟩
    have hoo : H o = none := k1.free hT ho
    have k2 : Kp Ps H (L2.upd H1 o (.lst [V.int ((xs.map V.str).length : Nat)])) := k1.upd hT hoo
    have hlen := Paired.length hE.evs
    refine ⟨.ref l, rfl, l, rfl, ⟨_, (hE.kp k2 hT).at_⟩, for_list (K := K) (a := l) (xs := as.map V.ref) (fun i σ H' => ∃ v3 v4 : Option V, σ = [some (.ref a), some (.ref l), some (.ref o), v3, v4] ∧ Kp Ps H H' ∧ i ≤ es.length ∧ H' o = some (.lst (((szs xs.length es).take (i + 1)).map V.int))) ?_ ?_ ?_ ?_⟩
    · refine ⟨none, none, rfl, k2, Nat.zero_le _, ?_⟩
      rw [upd_same, List.take_add_one, szs_head, List.length_map]
      rfl
    · rintro i σ H' _ ⟨_, _, _, kp, _⟩
      exact (hE.kp kp hT).at_
    · rintro i y σ H' hi ⟨v3, v4, rfl, kp, hie, ho'⟩
      have hlt : i < es.length := by
        have h1 := (List.getElem?_eq_some_iff.mp hi).1
        rw [List.length_map] at h1
        omega
      have hev : es[i]? = some es[i] := List.getElem?_eq_getElem hlt
      obtain ⟨b, hb, hbt⟩ := pair_at (hE.kp kp hT).evs i _ hev
      have hy : y = .ref b := by
        rw [List.getElem?_map, hb] at hi
        exact (Option.some.inj hi).symm
      subst hy
      have hz : i < (szs xs.length es).length := by rw [szs_len]; omega
      have few2 := hE.few
      have hk : (szs xs.length es)[i]? = some (szs xs.length es)[i] := List.getElem?_eq_getElem hz
      have hlast : ((szs xs.length es).take (i + 1)).map V.int = ((szs xs.length es).take i).map V.int ++ [V.int (szs xs.length es)[i]] := by
        rw [List.take_add_one, hk, List.map_append]
        rfl
      have hstep := szs_step _ es i _ _ hev hk
      have fin : ∀ d : Int, d = (es[i]).dn → L2.upd H' o (.lst (((szs xs.length es).take (i + 1)).map V.int ++ [V.int ((szs xs.length es)[i] + d)])) o = some (.lst (((szs xs.length es).take (i + 1 + 1)).map V.int)) := fun d e => by
        rw [upd_same, List.take_add_one (i := i + 1), hstep, List.map_append, e]
        rfl
      have room : (((szs xs.length es).take (i + 1)).map V.int).length < sizeLine := by
        rw [List.length_map, List.length_take]
        exact Nat.lt_of_le_of_lt (Nat.min_le_left _ _) (small1000 (by omega))
      have lastAt : atI (((szs xs.length es).take (i + 1)).map V.int) (-1) = some (V.int (szs xs.length es)[i]) := by
        rw [hlast]
        exact atI_last _ _
      cases hE2 : es[i] with
      | inn c =>
        rw [hE2] at hbt
        refine ⟨.ref b, rfl, b, _, 0, .str "in", rfl, rfl, hbt, atI_nat (j := 0) rfl, rfl, _, rfl, ?_⟩
        rw [decide_eq_true (rfl : V.str "in" = V.str "in")]
        refine iteT ?_
        refine ⟨.ref o, rfl, .inl ⟨rfl, _, .inl (.inl ho')⟩, .ref o, rfl, 1, rfl, o, _, -1, _, rfl, rfl, .inl (.inl ho'), lastAt, .int 1, rfl, _, _, rfl, rfl, o, _, _, rfl, rfl, ho', room, ?_⟩
        exact ⟨some (.ref b), some (.int 1), rfl, kp.upd hT hoo, hlt, fin 1 (by rw [hE2]; rfl)⟩
      | out =>
        rw [hE2] at hbt
        refine ⟨.ref b, rfl, b, _, 0, .str "out", rfl, rfl, hbt, atI_nat (j := 0) rfl, rfl, _, rfl, ?_⟩
        rw [decide_eq_false (fun z => ne_oi (V.str.inj z))]
        refine iteF ⟨1, rfl, ?_⟩
        refine ⟨.ref o, rfl, .inl ⟨rfl, _, .inl (.inl ho')⟩, .ref o, rfl, 1, rfl, o, _, -1, _, rfl, rfl, .inl (.inl ho'), lastAt, .int (-1), rfl, _, _, rfl, rfl, o, _, _, rfl, rfl, ho', room, ?_⟩
        exact ⟨some (.ref b), some (.int (-1)), rfl, kp.upd hT hoo, hlt, fin (-1) (by rw [hE2]; rfl)⟩
    · rintro σ H' ⟨v3, v4, rfl, kp, hie, ho'⟩
      refine ⟨.ref o, rfl, q H' o kp hoo ?_⟩
      rw [ho', List.length_map, hlen, List.take_of_length_le (by rw [szs_len]; exact Nat.le_refl _)]
end
end Ln


set_option Elab.async false
set_option linter.all false
set_option maxRecDepth 100000
set_option maxHeartbeats 2000000
namespace Ln
open PySem PySem.Spec PyProof.Rows L2 GxR
theorem scNumbers : FnScope ["start", "log", "event"] ["start", "log"] (defScope sNumbers) := ⟨rfl, rfl, rfl, by decide +kernel, rfl, by decide +kernel, by decide +kernel⟩
theorem scMove : FnScope ["present", "event", "side"] ["present", "event", "side"] (defScope sMove) := ⟨rfl, rfl, rfl, by decide +kernel, rfl, by decide +kernel, by decide +kernel⟩
theorem scReplay : FnScope ["start", "log", "sides", "present", "departed", "event", "side", "car"] ["start", "log", "sides"] (defScope sReplay) := ⟨rfl, rfl, rfl, by decide +kernel, rfl, by decide +kernel, by decide +kernel⟩
/-- the cars that arrive -/
def arrs : List Ev → List Str
  | [] => []
  | .inn c :: r => c :: arrs r
  | .out :: r => arrs r
theorem arrs_app : ∀ (a b : List Ev), arrs (a ++ b) = arrs a ++ arrs b
  | [], b => rfl
  | .inn c :: r, b => by show c :: arrs (r ++ b) = _; rw [arrs_app]; rfl
  | .out :: r, b => arrs_app r b
theorem arrs_len : ∀ (a : List Ev), (arrs a).length ≤ a.length
  | [] => Nat.le_refl _
  | .inn c :: r => Nat.succ_le_succ (arrs_len r)
  | .out :: r => Nat.le_succ_of_le (arrs_len r)
section
variable {P : Program} {w : World} {K : PySem.W.Frag} {mg : Str → Option Value} {base : Heap} {Ps : List Addr}
def spNumbers (K : PySem.W.Frag) (Ps : List Addr) : Sp := fun vs H Q _ => ∃ (a l : Addr) (xs : List Str) (as : List Addr) (es : List Ev), vs = [.ref a, .ref l] ∧ LaneAt K H a xs ∧ laneB xs = true ∧ LogAt K H l as es ∧ logB xs xs.length es = true ∧ Tabs Ps H ∧
  ∀ H' p, Kp Ps H H' → H p = none → H' p = some (.lst ((xs ++ arrs es).map V.str)) → Q (.ref p) H'
theorem ok_numbers {f fL : Addr} {fd fdL : FuncData} (F : Fun K "numbers" "numbers" sNumbers f fd) (B : Bi mg)
    (GL : FnOk P w K mg base CX0 7 fL fdL ["start", "log"] (spReqLog K Ps)) (mgL : mg "require_log" = some (.ref fL)) (kL : PySem.W.keepIn K (.ref fL) = true) (bL : Binds K fdL ["start", "log"] []) : FnOk P w K mg base CX0 8 f fd ["start", "log"] (spNumbers K Ps) := by
  refine F.ok scNumbers (fun vs H Q E h => ?_) (fun cdv A outer s H vs Q E hr h => ?_)
  · obtain ⟨a, l, xs, as, es, rfl, _⟩ := h
    rfl
  · obtain ⟨a, l, xs, as, es, rfl, hL, hB, hE, hB2, hT, q⟩ := h
    refine ⟨_, pss_cons (ps_expr (pe_call GL hr (by rfl) mgL kL bL .nil pass0 (pa_cons (pv 0) (pa_cons (pv 1) pa_nil))))
      (pss_one (ps_ret (pe_op op_cat (pe_callTy call_list_of (by rfl) B.lst (by decide +kernel) (pa_cons (pv 0) pa_nil))
        (pe_lc (own := [("event", 2)]) (g := gName 2) (by rfl) scNumbers.nd (pi_list (pv 1)) (blkOk_by (own := [("event", 2)]) (N := ["start", "log", "event"]) (sc := defScope sNumbers) (by decide +kernel))
          (fun _ _ _ _ _ => pg_name (i := 2) scNumbers.nd rfl (Or.inl rfl)) (fun _ _ _ _ _ => pts_one (pt_cmpR op_eq (pe_ix (r := rIxT K) ix_tup (pv 2) pe_int (fun _ _ => rfl)) pe_str (nomark _))) (fun _ _ _ _ _ => pe_ix (r := rIxT K) ix_tup (pv 2) pe_int (fun _ _ => rfl)))))), ?_⟩
    refine ⟨.ref a, rfl, .ref l, rfl, a, l, xs, as, es, rfl, hL, hB, hE, hB2, hT, fun H1 k1 => ?_⟩
    have hL1 := hL.kp k1 hT
    refine ⟨.ref a, rfl, a, _, rfl, .inr hL1.at_, fun o ho => ?_⟩
    have hoo : H o = none := k1.free hT ho
    have k2 : Kp Ps H (L2.upd H1 o (.lst (xs.map V.str))) := k1.upd hT hoo
    have hlen := Paired.length hE.evs
    refine ⟨.ref l, rfl, l, rfl, ⟨_, (hE.kp k2 hT).at_⟩, fun D hD => ?_⟩
    have hDD : H D = none := k2.free hT hD
    have hDo : D ≠ o := fun z => by
      rw [z, upd_same] at hD
      cases hD
    refine lc_list (K := K) (a := l) (xs := as.map V.ref) (fun i H' => Kp Ps H H' ∧ i ≤ es.length ∧ H' o = some (.lst (xs.map V.str)) ∧ H' D = some (.lst ((arrs (es.take i)).map V.str))) ?_ ?_ ?_ ?_
    · exact ⟨k2.upd hT hDD, Nat.zero_le _, by rw [upd_ne hDo.symm, upd_same], upd_same⟩
    · rintro i H' _ ⟨kp, _⟩
      exact (hE.kp kp hT).at_
    · rintro i y H' hi ⟨kp, hie, ho', hD'⟩
      have hlt : i < es.length := by
        have h1 := (List.getElem?_eq_some_iff.mp hi).1
        rw [List.length_map] at h1
        omega
      have hev : es[i]? = some es[i] := List.getElem?_eq_getElem hlt
      obtain ⟨b, hb, hbt⟩ := pair_at (hE.kp kp hT).evs i _ hev
      have hy : y = .ref b := by
        rw [List.getElem?_map, hb] at hi
        exact (Option.some.inj hi).symm
      subst hy
      have few2 := hE.few
      have htake : es.take (i + 1) = es.take i ++ [es[i]] := by rw [List.take_add_one, hev]; rfl
      refine ⟨rfl, ?_⟩
      cases hE2 : es[i] with
      | inn c =>
        rw [hE2] at hbt htake
        refine ⟨.ref b, rfl, b, _, 0, .str "in", rfl, rfl, hbt, atI_nat (j := 0) rfl, rfl, _, rfl, ?_⟩
        rw [decide_eq_true (rfl : V.str "in" = V.str "in")]
        refine iteT ⟨.ref b, rfl, b, _, 1, .str c, rfl, rfl, hbt, atI_nat (j := 1) rfl, _, hD', ?_, kp.upd hT hDD, hlt, ?_, ?_⟩
        · rw [List.length_map]
          refine small1000 ?_
          have := arrs_len (es.take i)
          rw [List.length_take] at this
          omega
        · rw [upd_ne hDo.symm]
          exact ho'
        · rw [upd_same, htake, arrs_app, List.map_append]
          rfl
      | out =>
        rw [hE2] at hbt htake
        refine ⟨.ref b, rfl, b, _, 0, .str "out", rfl, rfl, hbt, atI_nat (j := 0) rfl, rfl, _, rfl, ?_⟩
        rw [decide_eq_false (fun z => ne_oi (V.str.inj z))]
        refine iteF ⟨kp, hlt, ho', ?_⟩
        rw [hD', htake, arrs_app]
        show _ = some (HO.lst ((arrs (es.take i) ++ []).map V.str))
        rw [List.append_nil]
    · rintro H' ⟨kp, hie, ho', hD'⟩
      rw [List.length_map, hlen, List.take_length] at hD'
      refine ⟨o, D, _, _, rfl, rfl, ho', hD', ?_, fun p hp => ?_⟩
      · have h1 := hL.few
        have h2 := hE.few
        have h3 := arrs_len es
        rw [List.length_map, List.length_map]
        exact Nat.le_of_lt (small1000 (by omega))
      · have hpp : H p = none := kp.free hT hp
        refine q _ p (kp.upd hT hpp) hpp ?_
        rw [upd_same, List.map_append]
end
end Ln


set_option Elab.async false
set_option linter.all false
set_option maxRecDepth 100000
set_option maxHeartbeats 2000000
namespace Ln
open PySem PySem.Spec PyProof.Rows L2 GxR
/-- the lane and the departed cars after one event -/
def stepR (p : List Str × List Str) (x : Ev × Str) : List Str × List Str :=
  match x.1 with
  | .inn c => (if x.2 = "L" then c :: p.1 else p.1 ++ [c], p.2)
  | .out => if x.2 = "L" then (p.1.drop 1, p.2 ++ p.1.take 1) else (p.1.dropLast, p.2 ++ p.1.drop (p.1.length - 1))
/-- behind the first i events -/
def atR (xs : List Str) (es : List Ev) (sd : List Str) (i : Nat) : List Str × List Str := ((es.zip sd).take i).foldl stepR (xs, [])
theorem atR_succ {xs : List Str} {es : List Ev} {sd : List Str} {i : Nat} {e : Ev} {x : Str} (h1 : es[i]? = some e) (h2 : sd[i]? = some x) : atR xs es sd (i + 1) = stepR (atR xs es sd i) (e, x) := by
  unfold atR
  have : (es.zip sd)[i]? = some (e, x) := by rw [List.getElem?_zip_eq_some]; exact ⟨h1, h2⟩
  rw [List.take_add_one, this, List.foldl_append]
  rfl
/-- how many are present, and that the rest of the log goes on -/
def Live (xs : List Str) (es : List Ev) (i m : Nat) : Prop := ∃ us, logB us m (es.drop i) = true
theorem live_step {xs : List Str} {es : List Ev} {i m : Nat} {e : Ev} (h : Live xs es i m) (he : es[i]? = some e) : match e with
  | .inn _ => Live xs es (i + 1) (m + 1)
  | .out => 0 < m ∧ Live xs es (i + 1) (m - 1) := by
  obtain ⟨us, hl⟩ := h
  have hlt := (List.getElem?_eq_some_iff.mp he).1
  have hd : es.drop i = e :: es.drop (i + 1) := by
    rw [List.drop_eq_getElem_cons hlt, (List.getElem?_eq_some_iff.mp he).2]
  rw [hd] at hl
  cases e with
  | inn c =>
    have hl : (if carB c = true ∧ ¬ c ∈ us then logB (c :: us) (m + 1) (es.drop (i + 1)) else false) = true := hl
    by_cases q : carB c = true ∧ ¬ c ∈ us
    · rw [if_pos q] at hl
      exact ⟨_, hl⟩
    · rw [if_neg q] at hl
      cases hl
  | out =>
    have hl : (if 0 < m then logB us (m - 1) (es.drop (i + 1)) else false) = true := hl
    by_cases q : 0 < m
    · rw [if_pos q] at hl
      exact ⟨q, _, hl⟩
    · rw [if_neg q] at hl
      cases hl
theorem side_cases {x : Str} (h : sideB x = true) : x = "L" ∨ x = "R" := by
  unfold sideB at h
  rcases Bool.or_eq_true _ _ ▸ h with h | h
  · exact .inl (of_decide_eq_true h)
  · exact .inr (of_decide_eq_true h)
theorem ne_RL : ¬ (("R" : Str) = "L") := by decide +kernel
section
variable {P : Program} {w : World} {K : PySem.W.Frag} {mg : Str → Option Value} {base : Heap} {Ps : List Addr}
def spReplay (K : PySem.W.Frag) (Ps : List Addr) : Sp := fun vs H Q _ => ∃ (a l m : Addr) (xs : List Str) (as : List Addr) (es : List Ev) (sd : List Str), vs = [.ref a, .ref l, .ref m] ∧ LaneAt K H a xs ∧ laneB xs = true ∧ LogAt K H l as es ∧ logB xs xs.length es = true ∧
  SqL K H m (sd.map V.str) ∧ sd.length = es.length ∧ sd.all sideB = true ∧ Tabs Ps H ∧
  ∀ H' p t d, Kp Ps H H' → H p = none → H t = none → H d = none → H' p = some (.tup [.ref t, .ref d]) → H' t = some (.tup ((atR xs es sd es.length).1.map V.str)) → H' d = some (.lst ((atR xs es sd es.length).2.map V.str)) → Q (.ref p) H'
def spMove (K : PySem.W.Frag) : Sp := fun vs H Q _ => ∃ (u b : Addr) (sx : Str) (lane : List Str) (e : Ev), vs = [.ref u, .ref b, .str sx] ∧ H u = some (.lst (lane.map V.str)) ∧ SqT K H b e.vals ∧ (sx = "L" ∨ sx = "R") ∧ lane.length ≤ 900 ∧
  (∀ c, e = .inn c → Q .non (L2.upd H u (.lst ((stepR (lane, []) (e, sx)).1.map V.str)))) ∧ (e = .out → lane ≠ [] ∧ ∀ x, (stepR (lane, []) (e, sx)).2 = [x] → Q (.str x) (L2.upd H u (.lst ((stepR (lane, []) (e, sx)).1.map V.str))))
theorem stepR_g (x g : List Str) (e : Ev × Str) : stepR (x, g) e = ((stepR (x, []) e).1, g ++ (stepR (x, []) e).2) := by
  obtain ⟨ev, s⟩ := e
  cases ev with
  | inn c => exact Prod.ext rfl (List.append_nil g).symm
  | out =>
    show (if s = "L" then (x.drop 1, g ++ x.take 1) else (x.dropLast, g ++ x.drop (x.length - 1)) : List Str × List Str) = ((if s = "L" then (x.drop 1, [] ++ x.take 1) else (x.dropLast, [] ++ x.drop (x.length - 1)) : List Str × List Str).1, g ++ (if s = "L" then (x.drop 1, [] ++ x.take 1) else (x.dropLast, [] ++ x.drop (x.length - 1)) : List Str × List Str).2)
    split <;> rfl
theorem ok_move {f : Addr} {fd : FuncData} (F : Fun K "move" "move" sMove f fd) (B : Bi mg) : FnOk P w K mg base CX0 1 f fd ["present", "event", "side"] (spMove K) := by
  refine F.ok scMove (fun vs H Q E h => ?_) (fun cdv A outer s H vs Q E hr h => ?_)
  · obtain ⟨u, b, sx, lane, e, rfl, _⟩ := h
    rfl
  · obtain ⟨u, b, sx, lane, e, rfl, hu, hbt, hsd, hlen, qi, qo⟩ := h
    refine ⟨_, pss_cons (ps_if (pt_cmpR op_eq (pe_ix ix_tup (pv 1) pe_int (fun _ _ => rfl)) pe_str (nomark _))
        (pss_cons (ps_expr (pe_bm PySem.F.plainAttrs_list PySem.F.slot_list_insert PySem.F.type_list_insert mt_insert (pv 0) (pa_cons (pe_ifExp (pt_cmpR op_eq (pv 2) pe_str (nomark _)) pe_int (pe_callB call_len_seq (by rfl) B.len PySem.boot_len (pa_cons (pv 0) pa_nil))) (pa_cons (pe_ix ix_tup (pv 1) pe_int (fun _ _ => rfl)) pa_nil))))
          (pss_one (ps_ret pe_non))) pss_nil)
      (pss_one (ps_ret (pe_bm PySem.F.plainAttrs_list PySem.F.slot_list_pop PySem.F.type_list_pop mt_popAt (pv 0) (pa_cons (pe_ifExp (pt_cmpR op_eq (pv 2) pe_str (nomark _)) pe_int (pe_un un_neg pe_int)) pa_nil)))), ?_⟩
    have lenb : (lane.map V.str).length < sizeLine := by rw [List.length_map]; exact small1000 (by omega)
    cases e with
    | inn c =>
      have qi := qi c rfl
      refine ⟨.ref b, rfl, b, _, 0, .str "in", rfl, rfl, hbt, atI_nat (j := 0) rfl, rfl, _, rfl, ?_⟩
      rw [decide_eq_true (rfl : V.str "in" = V.str "in")]
      refine iteT ?_
      rcases hsd with rfl | rfl
      · refine ⟨.ref u, rfl, .inl ⟨rfl, _, .inl (.inl hu)⟩, _, rfl, rfl, _, rfl, ?_⟩
        rw [decide_eq_true (rfl : V.str "L" = V.str "L")]
        refine iteT ⟨.ref b, rfl, b, _, 1, .str c, rfl, rfl, hbt, atI_nat (j := 1) rfl, u, _, 0, _, rfl, rfl, hu, lenb, by decide, by decide, ?_⟩
        exact qi
      · refine ⟨.ref u, rfl, .inl ⟨rfl, _, .inl (.inl hu)⟩, _, rfl, rfl, _, rfl, ?_⟩
        rw [decide_eq_false (fun z => ne_RL (V.str.inj z))]
        refine iteF ⟨.ref u, rfl, u, _, rfl, .inl (.inl (.inl hu)), .ref b, rfl, b, _, 1, .str c, rfl, rfl, hbt, atI_nat (j := 1) rfl, u, _, _, _, rfl, rfl, hu, lenb, by omega, by rw [List.length_map]; omega, ?_⟩
        have e1 : (List.take (Int.toNat (((List.map V.str lane).length : Nat) : Int)) (List.map V.str lane) ++ [V.str c] ++ List.drop (Int.toNat (((List.map V.str lane).length : Nat) : Int)) (List.map V.str lane)) = ((stepR (lane, []) (.inn c, "R")).1.map V.str) := by
          show _ = ((if ("R" : Str) = "L" then c :: lane else lane ++ [c]).map V.str)
          rw [if_neg ne_RL, Int.toNat_natCast, List.take_length, List.drop_length, List.append_nil, List.map_append]
          rfl
        rw [e1]
        exact qi
    | out =>
      obtain ⟨hne, qo⟩ := qo rfl
      refine ⟨.ref b, rfl, b, _, 0, .str "out", rfl, rfl, hbt, atI_nat (j := 0) rfl, rfl, _, rfl, ?_⟩
      rw [decide_eq_false (fun z => ne_oi (V.str.inj z))]
      refine iteF ?_
      rcases hsd with rfl | rfl
      · obtain ⟨x, r, rfl⟩ : ∃ x r, lane = x :: r := by
          cases lane with
          | nil => exact absurd rfl hne
          | cons x r => exact ⟨x, r, rfl⟩
        refine ⟨.ref u, rfl, .inl ⟨rfl, _, .inl (.inl hu)⟩, _, rfl, rfl, _, rfl, ?_⟩
        rw [decide_eq_true (rfl : V.str "L" = V.str "L")]
        refine iteT ⟨u, _, 0, 0, V.str x, rfl, rfl, hu, by decide, by decide, ?_, rfl, ?_⟩
        · exact (ixN_seq (i := 0) (j := 0) (by unfold ixN; rw [if_pos (by decide), if_pos (by rw [List.length_map, List.length_cons]; omega)]; rfl)).1
        exact qo x rfl
      · obtain ⟨x, r, rfl⟩ : ∃ x r, lane = r ++ [x] := ⟨_, _, (List.dropLast_concat_getLast hne).symm⟩
        have em : (r ++ [x]).map V.str = r.map V.str ++ [V.str x] := by rw [List.map_append]; rfl
        refine ⟨.ref u, rfl, .inl ⟨rfl, _, .inl (.inl hu)⟩, _, rfl, rfl, _, rfl, ?_⟩
        rw [decide_eq_false (fun z => ne_RL (V.str.inj z))]
        refine iteF ⟨1, rfl, u, _, -1, r.length, V.str x, rfl, rfl, hu, by decide, by decide, ?_, ?_, ?_⟩
        · refine (ixN_seq (i := -1) (j := r.length) ?_).1
          have el : ((r ++ [x]).map V.str).length = r.length + 1 := by rw [List.length_map, List.length_append]; rfl
          rw [el]
          unfold ixN
          rw [if_neg (by decide), if_pos (by omega)]
          congr 1
          omega
        · rw [em, List.getElem?_append_right (by rw [List.length_map]; exact Nat.le_refl _), List.length_map, Nat.sub_self]
          rfl
        have e2 : (stepR (r ++ [x], []) (.out, "R")) = (r, [x]) := by
          show (if ("R" : Str) = "L" then ((r ++ [x]).drop 1, [] ++ (r ++ [x]).take 1) else ((r ++ [x]).dropLast, [] ++ (r ++ [x]).drop ((r ++ [x]).length - 1)) : List Str × List Str) = _
          rw [if_neg ne_RL, show (r ++ [x]).length - 1 = r.length by rw [List.length_append]; rfl, List.drop_left, List.dropLast_concat]
          rfl
        have qo := qo x (by rw [e2])
        rw [e2] at qo
        have e3 : ((r ++ [x]).map V.str).eraseIdx r.length = r.map V.str := by
          rw [em, List.eraseIdx_append_of_length_le (by rw [List.length_map]; exact Nat.le_refl _), List.length_map, Nat.sub_self]
          show r.map V.str ++ [] = _
          rw [List.append_nil]
        rw [e3]
        exact qo
theorem ok_replay {f fL fS fM : Addr} {fd fdL fdS fdM : FuncData} (F : Fun K "replay" "replay" sReplay f fd) (B : Bi mg)
    (GL : FnOk P w K mg base CX0 7 fL fdL ["start", "log"] (spReqLog K Ps)) (mgL : mg "require_log" = some (.ref fL)) (kL : PySem.W.keepIn K (.ref fL) = true) (bL : Binds K fdL ["start", "log"] [])
    (GS : FnOk P w K mg base CX0 3 fS fdS ["log", "sides"] (spReqSides K Ps)) (mgS : mg "require_sides" = some (.ref fS)) (kS : PySem.W.keepIn K (.ref fS) = true) (bS : Binds K fdS ["log", "sides"] [])
    (GM : FnOk P w K mg base CX0 1 fM fdM ["present", "event", "side"] (spMove K)) (mgM : mg "move" = some (.ref fM)) (kM : PySem.W.keepIn K (.ref fM) = true) (bM : Binds K fdM ["present", "event", "side"] []) : FnOk P w K mg base CX0 8 f fd ["start", "log", "sides"] (spReplay K Ps) := by
  refine F.ok scReplay (fun vs H Q E h => ?_) (fun cdv A outer s H vs Q E hr h => ?_)
  · obtain ⟨a, l, m, xs, as, es, sd, rfl, _⟩ := h
    rfl
  · obtain ⟨a, l, m, xs, as, es, sd, rfl, hL, hB, hE, hB2, hS, hsl, hsa, hT, q⟩ := h
    refine ⟨_, pss_cons (ps_expr (pe_call GL hr (by rfl) mgL kL bL .nil pass0 (pa_cons (pv 0) (pa_cons (pv 1) pa_nil))))
      (pss_cons (ps_expr (pe_call GS (hr.mono (by decide)) (by rfl) mgS kS bS .nil pass0 (pa_cons (pv 1) (pa_cons (pv 2) pa_nil))))
      (pss_cons (ps_set (i := 3) scReplay.nd rfl (.inl rfl) (pe_callTy call_list_of (by rfl) B.lst (by decide +kernel) (pa_cons (pv 0) pa_nil)))
      (pss_cons (ps_set (i := 4) scReplay.nd rfl (.inl rfl) (pe_lst pa_nil))
      (pss_cons (ps_for PassesOwn.never rfl (pi_zip (by rfl) B.zip (pa_cons (pv 1) (pa_cons (pv 2) pa_nil)))
          (pg_tup rfl (pgs_cons (pg_name (i := 5) scReplay.nd rfl (.inl rfl)) (pgs_cons (pg_name (i := 6) scReplay.nd rfl (.inl rfl)) pgs_nil)))
        (pss_cons (ps_set (i := 7) scReplay.nd rfl (.inl rfl) (pe_call GM (hr.mono (by decide)) (by rfl) mgM kM bM .nil pass0 (pa_cons (pv 3) (pa_cons (pv 5) (pa_cons (pv 6) pa_nil)))))
          (pss_one (ps_if (pt_cmpR op_notN (pv 7) pe_non (nomark _))
            (pss_one (ps_expr (pe_bm PySem.F.plainAttrs_list PySem.F.slot_list_append PySem.F.type_list_append mt_append (pv 4) (pa_cons (pv 7) pa_nil)))) pss_nil))))
      (pss_one (ps_ret (pe_tup (pa_cons (pe_callTy call_tuple_of (by rfl) B.tup (by decide +kernel) (pa_cons (pv 3) pa_nil)) (pa_cons (pv 4) pa_nil))))))))), ?_⟩
    refine ⟨.ref a, rfl, .ref l, rfl, a, l, xs, as, es, rfl, hL, hB, hE, hB2, hT, fun H1 k1 => ?_⟩
    have hlen := Paired.length hE.evs
    refine ⟨.ref l, rfl, .ref m, rfl, l, m, _, sd, rfl, (hE.kp k1 hT).at_, k1.seqL hT hS, by rw [List.length_map]; omega, hsa, k1.tab, fun H2 k2' => ?_⟩
    have k2 := k1.trans k2'
    refine ⟨.ref a, rfl, a, _, rfl, .inr (hL.kp k2 hT).at_, fun u hu => ?_⟩
    have hu0 : H u = none := k2.free hT hu
    have k3 : Kp Ps H (L2.upd H2 u (.lst (xs.map V.str))) := k2.upd hT hu0
    refine ⟨Nat.zero_le _, fun d hd => ?_⟩
    have hd0 : H d = none := k3.free hT hd
    have hdu : d ≠ u := fun z => by
      rw [z, upd_same] at hd
      cases hd
    have k4 : Kp Ps H (L2.upd (L2.upd H2 u (.lst (xs.map V.str))) d (.lst [])) := k3.upd hT hd0
    have few1 := hL.few
    have few2 := hE.few
    refine ⟨.ref l, rfl, .ref m, rfl, l, m, as.map V.ref, sd.map V.str, rfl, (hE.kp k4 hT).at_, k4.seqL hT hS, RZ.for_zipL (K := K) (a := l) (b := m) (xs := as.map V.ref) (ys := sd.map V.str) (by rw [List.length_map, List.length_map]; omega)
      (fun i σ H' => ∃ (v5 v6 v7 : Option V) (n : Nat), σ = [some (.ref a), some (.ref l), some (.ref m), some (.ref u), some (.ref d), v5, v6, v7] ∧ Kp Ps H H' ∧ i ≤ es.length ∧ H' u = some (.lst ((atR xs es sd i).1.map V.str)) ∧ H' d = some (.lst ((atR xs es sd i).2.map V.str)) ∧
        (atR xs es sd i).1.length = n ∧ n ≤ xs.length + i ∧ (atR xs es sd i).2.length ≤ i ∧ Live xs es i n) ?_ ?_ ?_ ?_⟩
    · exact ⟨none, none, none, xs.length, rfl, k4, Nat.zero_le _, by rw [upd_ne hdu.symm, upd_same]; rfl, by rw [upd_same]; rfl, rfl, Nat.le_refl _, Nat.le_refl _, xs, hB2⟩
    · rintro i σ H' ⟨_, _, _, _, _, kp, _⟩
      exact ⟨(hE.kp kp hT).at_, kp.seqL hT hS⟩
    · rintro i y z T σ H' hi hsi ⟨v5, v6, v7, n, rfl, kp, hie, hu', hd', hn, hnb, hgb, hlive⟩ hTn
      have hlt : i < es.length := by
        have h1 := (List.getElem?_eq_some_iff.mp hi).1
        rw [List.length_map] at h1
        omega
      have hlt2 : i < sd.length := by omega
      obtain ⟨ev, hev⟩ : ∃ ev, es[i]? = some ev := ⟨es[i], List.getElem?_eq_getElem hlt⟩
      obtain ⟨sx, hsv⟩ : ∃ sx, sd[i]? = some sx := ⟨sd[i], List.getElem?_eq_getElem hlt2⟩
      have hT0 : H T = none := kp.free hT hTn
      have kp1 : Kp Ps H (L2.upd H' T (.tup [y, z])) := kp.upd hT hT0
      have nTu : u ≠ T := ne_of_none hu' hTn
      have nTd : d ≠ T := ne_of_none hd' hTn
      obtain ⟨b, hb, hbt⟩ := pair_at (hE.kp kp1 hT).evs i _ hev
      have hy : y = .ref b := by
        rw [List.getElem?_map, hb] at hi
        exact (Option.some.inj hi).symm
      subst hy
      have hz : z = .str sx := by
        rw [List.getElem?_map, hsv] at hsi
        exact (Option.some.inj hsi).symm
      subst hz
      have hu1 : (L2.upd H' T (.tup [.ref b, .str sx])) u = some (.lst ((atR xs es sd i).1.map V.str)) := by rw [upd_ne nTu]; exact hu'
      have hd1 : (L2.upd H' T (.tup [.ref b, .str sx])) d = some (.lst ((atR xs es sd i).2.map V.str)) := by rw [upd_ne nTd]; exact hd'
      have hsuc := atR_succ (xs := xs) hev hsv
      have hls := live_step hlive hev
      have hsd := side_cases (List.all_eq_true.mp hsa _ (List.mem_of_getElem? hsv))
      refine ⟨T, _, rfl, .inl (.inl upd_same), rfl, _, _, rfl, _, _, rfl, rfl, ?_⟩
      generalize hlane : (atR xs es sd i).1 = lane at *
      generalize hgone : (atR xs es sd i).2 = gone at *
      have hsuc : atR xs es sd (i + 1) = stepR (lane, gone) (ev, sx) := by rw [hsuc, ← hlane, ← hgone]
      rw [stepR_g lane gone] at hsuc
      have hs1 : (atR xs es sd (i + 1)).1 = (stepR (lane, []) (ev, sx)).1 := by rw [hsuc]
      have hs2 : (atR xs es sd (i + 1)).2 = gone ++ (stepR (lane, []) (ev, sx)).2 := by rw [hsuc]
      refine ⟨.ref u, rfl, .ref b, rfl, _, rfl, u, b, sx, lane, ev, rfl, hu1, hbt, hsd, by omega, fun c hc => ?_, fun ho => ?_⟩
      · subst hc
        refine ⟨_, rfl, rfl, _, rfl, iteF ?_⟩
        refine ⟨_, _, _, n + 1, rfl, kp1.upd hT hu0, hlt, ?_, ?_, ?_, by omega, ?_, hls⟩
        · rw [upd_same, hs1]
        · rw [upd_ne hdu, hs2]
          show _ = some (HO.lst ((gone ++ []).map V.str))
          rw [List.append_nil]
          exact hd1
        · rw [hs1, ← hn]
          show (if sx = "L" then c :: lane else lane ++ [c]).length = _
          split
          · rfl
          · rw [List.length_append]
            rfl
        · rw [hs2]
          show (gone ++ []).length ≤ _
          rw [List.append_nil]
          omega
      · subst ho
        obtain ⟨hpos, hls⟩ := hls
        refine ⟨fun z => by rw [z, List.length_nil] at hn; omega, fun x hx => ?_⟩
        refine ⟨_, rfl, rfl, _, rfl, ?_⟩
        rw [decide_eq_false (show ¬ (V.str x = V.non) from fun z => by cases z)]
        have lenb2 : (gone.map V.str).length < sizeLine := by rw [List.length_map]; exact small1000 (by omega)
        refine iteT ⟨.ref d, rfl, .inl ⟨rfl, _, .inl (.inl (by rw [upd_ne hdu]; exact hd1))⟩, _, rfl, d, _, _, rfl, rfl, by rw [upd_ne hdu]; exact hd1, lenb2, ?_⟩
        refine ⟨_, _, _, n - 1, rfl, (kp1.upd hT hu0).upd hT hd0, hlt, ?_, ?_, ?_, by omega, ?_, hls⟩
        · rw [upd_ne hdu.symm, upd_same, hs1]
        · rw [upd_same, hs2, hx, List.map_append]
          rfl
        · rw [hs1]
          show (if sx = "L" then (lane.drop 1, [] ++ lane.take 1) else (lane.dropLast, [] ++ lane.drop (lane.length - 1)) : List Str × List Str).1.length = _
          split
          · show (lane.drop 1).length = _
            rw [List.length_drop, hn]
          · show lane.dropLast.length = _
            rw [List.length_dropLast, hn]
        · rw [hs2, hx, List.length_append]
          show gone.length + 1 ≤ _
          omega
    · rintro σ H' ⟨v5, v6, v7, n, rfl, kp, hie, hu', hd', hn, hnb, hgb, hlive⟩
      rw [List.length_map, hlen] at hu' hd'
      refine ⟨.ref u, rfl, u, _, rfl, .inl ⟨.inl (.inl hu'), fun t ht => ?_⟩⟩
      have ht0 : H t = none := kp.free hT ht
      have ntd : d ≠ t := ne_of_none hd' ht
      have kpt : Kp Ps H (L2.upd H' t (.tup ((atR xs es sd es.length).1.map V.str))) := kp.upd hT ht0
      refine ⟨.ref d, rfl, by show 2 ≤ sizeLine; decide, fun p hp => ?_⟩
      have hp0 : H p = none := kpt.free hT hp
      have npt : t ≠ p := fun z => by
        rw [← z, upd_same] at hp
        cases hp
      have npd : d ≠ p := fun z => by
        rw [← z, upd_ne ntd, hd'] at hp
        cases hp
      exact q _ p t d (kpt.upd hT hp0) hp0 ht0 hd0 upd_same (by rw [upd_ne npt, upd_same]) (by rw [upd_ne npd, upd_ne ntd]; exact hd')
end
end Ln


set_option Elab.async false
set_option linter.all false
set_option maxRecDepth 100000
set_option maxHeartbeats 2000000
namespace Ln
open PySem PySem.Spec PyProof.Rows L2 GxR
structure Bl (mg : Str → Option Value) : Prop where
  max : mg "max" = none
  min : mg "min" = none
  abs : mg "abs" = none
  rng : mg "range" = none
  rep : mg "repr" = none
theorem scSource : FnScope ["script", "k", "cell"] ["script", "k"] (defScope sSource) := ⟨rfl, rfl, rfl, by decide +kernel, rfl, by decide +kernel, by decide +kernel⟩
theorem scDraw : FnScope ["source", "limit", "found", "mixed"] ["source", "limit"] (defScope sDraw) := ⟨rfl, rfl, rfl, by decide +kernel, rfl, by decide +kernel, by decide +kernel⟩
/-- i ** j of great i -/
def CPowW (i j : Int) : Prop := 0 ≤ j ∧ j ≤ 10 ∧ i.natAbs < 2 ^ 1000
theorem op_powW {X : Cx} : OpR X (binaryOp .Pow) (rI CPowW fun i j => .int (i ^ j.toNat)) := opI fun i j _ _ _ _ _ hc q => by
  obtain ⟨h0, h1, h2⟩ := hc
  refine pow_int h0 ?_ q
  have hb : Builtin.Int.intBits i ≤ 1000 := by
    unfold Builtin.Int.intBits
    split
    · omega
    · have := PySem.Flt.log2_lt_of (show 0 < 1000 by decide) h2
      omega
  calc (Builtin.Int.intBits i : Int) * j ≤ 1000 * 10 := Int.mul_le_mul (by omega) h1 h0 (by decide)
    _ ≤ 2 ^ 27 := by decide
/-- a source of draws: at most n have been made -/
def SrcV (n : Nat) (l : List V) : Prop := ∃ a b c : Int, l = [.int a, .int b, .int c] ∧ 0 ≤ a ∧ 0 ≤ b ∧ b < 2 ^ 130 ∧ 0 ≤ c ∧ c ≤ n
theorem SrcV.mono {n m : Nat} {l : List V} (h : SrcV n l) (hm : n ≤ m) : SrcV m l := by
  obtain ⟨a, b, c, e, h1, h2, h3, h4, h5⟩ := h
  exact ⟨a, b, c, e, h1, h2, h3, h4, by omega⟩
theorem SrcV.len {n : Nat} {l : List V} (h : SrcV n l) : l.length = 3 := by
  obtain ⟨a, b, c, e, _⟩ := h
  rw [e]
  rfl
section
variable {P : Program} {w : World} {K : PySem.W.Frag} {mg : Str → Option Value} {base : Heap} {Ps : List Addr}
def spSource (K : PySem.W.Frag) : Sp := fun vs H Q _ => ∃ (a : Addr) (ns : List Int) (k : Nat), vs = [.ref a, .int k] ∧ SqL K H a (ns.map V.int) ∧ k ≤ 8 ∧ ∀ p l, H p = none → SrcV 0 l → Q (.ref p) (upd H p (.lst l))
theorem ok_source {f : Addr} {fd : FuncData} (F : Fun K "_law_source" "_law_source" sSource f fd) (B : Bi mg) (B2 : Bl mg) : FnOk P w K mg base CX0 1 f fd ["script", "k"] (spSource K) := by
  refine F.ok scSource (fun vs H Q E h => ?_) (fun cdv A outer s H vs Q E hr h => ?_)
  · obtain ⟨a, ns, k, rfl, _⟩ := h
    rfl
  · obtain ⟨a, ns, k, rfl, hS, hk, q⟩ := h
    refine ⟨_, pss_cons (ps_set (i := 2) scSource.nd rfl (.inl rfl) (pe_ifExp (pt_cmpR op_lt (pv 1) (pe_callB call_len_seq (by rfl) B.len PySem.boot_len (pa_cons (pv 0) pa_nil)) (nomark _)) (pe_ix ix_list (pv 0) (pv 1) (fun _ _ => rfl)) pe_int))
      (pss_one (ps_ret (pe_lst (pa_cons (pe_callB (call_max2 rfl) (by rfl) B2.max (by decide +kernel) (pa_cons pe_int (pa_cons (pe_op op_sub (pe_callB call_abs (by rfl) B2.abs (by decide +kernel) (pa_cons (pv 2) pa_nil)) (pe_op op_pow pe_int pe_int)) pa_nil)))
        (pa_cons (pe_op op_add (pe_op op_mod (pv 2) (pe_op op_add (pe_op op_pow pe_int pe_int) pe_int)) (pe_op op_mul pe_int (pv 1))) (pa_cons pe_int pa_nil)))))), ?_⟩
    have go : ∀ cell : Int, (tRet (tLst (tCons (tCB (fun xs H Q => ∃ i j, xs = [.int i, .int j] ∧ Q (.int (if j > i then j else i)) H) (tCons (tC (.int 0)) (tCons (tOp (rI0 fun i j => .int (i - j)) (tCB (fun xs H Q => ∃ i, xs = [.int i] ∧ Q (.int (if i < 0 then -i else i)) H) (tCons (tVar 2) tNil)) (tOp (rI CPow fun i j => .int (i ^ j.toNat)) (tC (.int 10)) (tC (.int 18)))) tNil)))
        (tCons (tOp (rI0 fun i j => .int (i + j)) (tOp (rI (fun _ j => 0 < j) fun i j => .int (i % j)) (tVar 2) (tOp (rI0 fun i j => .int (i + j)) (tOp (rI CPow fun i j => .int (i ^ j.toNat)) (tC (.int 10)) (tC (.int 38))) (tC (.int 133)))) (tOp (rI CMul fun i j => .int (i * j)) (tC (.int 31607)) (tVar 1))) (tCons (tC (.int 0)) tNil))))) { nx := fun _ H' => Q .non H', rt := Q } [some (.ref a), some (.int k), some (.int cell)] H := by
      intro cell
      refine ⟨_, rfl, _, rfl, 10, 18, rfl, rfl, ⟨by decide, by decide, by decide⟩, _, _, rfl, rfl, _, _, rfl, ?_⟩
      refine ⟨_, rfl, 10, 38, rfl, rfl, ⟨by decide, by decide, by decide⟩, _, _, rfl, rfl, _, _, rfl, rfl, (by show (0 : Int) < 10 ^ Int.toNat 38 + 133; decide), _, rfl, _, _, rfl, rfl, .inl ⟨by decide, by decide⟩, _, _, rfl, rfl, by show 3 ≤ sizeLine; decide, fun p hp => ?_⟩
      refine q p _ hp ⟨_, _, 0, rfl, ?_, ?_, ?_, by decide, by decide⟩
      · split <;> omega
      · have h1 : (0 : Int) ≤ cell % (10 ^ Int.toNat 38 + 133) := Int.emod_nonneg _ (by decide)
        omega
      · have h1 : cell % (10 ^ Int.toNat 38 + 133) < 10 ^ Int.toNat 38 + 133 := Int.emod_lt_of_pos _ (by decide)
        have h2 : (10 : Int) ^ Int.toNat 38 + 133 + 31607 * 8 < 2 ^ 130 := by decide
        omega
    refine ⟨_, rfl, .ref a, rfl, a, _, rfl, .inl hS, _, _, rfl, rfl, _, rfl, ite2 (fun h => ?_) (fun h => ?_)⟩
    · have h : (k : Int) < ((ns.map V.int).length : Nat) := of_decide_eq_true h
      have hk2 : k < ns.length := by
        rw [List.length_map] at h
        omega
      refine ⟨.ref a, rfl, _, rfl, a, _, k, .int ns[k], rfl, rfl, hS, atI_nat (by rw [List.getElem?_map, List.getElem?_eq_getElem hk2]; rfl), ?_⟩
      exact go _
    · exact go 0
def spDraw : Sp := fun vs H Q _ => ∃ (s : Addr) (l : List V) (n : Nat) (lim : Int), vs = [.ref s, .int lim] ∧ H s = some (.lst l) ∧ SrcV n l ∧ n ≤ 1000000 ∧ 1 ≤ lim ∧ lim ≤ 100000 ∧ ∀ l' r, SrcV (n + 1) l' → 0 ≤ r → r < lim → Q (.int r) (upd H s (.lst l'))
theorem ok_draw {f : Addr} {fd : FuncData} (F : Fun K "_law_draw" "_law_draw" sDraw f fd) : FnOk P w K mg base CX0 1 f fd ["source", "limit"] spDraw := by
  refine F.ok scDraw (fun vs H Q E h => ?_) (fun cdv A outer s H vs Q E hr h => ?_)
  · obtain ⟨s0, l, n, lim, rfl, _⟩ := h
    rfl
  · obtain ⟨s0, l, n, lim, rfl, hs, ⟨a, b, c, rfl, ha, hb, hb2, hc, hcn⟩, hn, hl1, hl2, q⟩ := h
    refine ⟨_, pss_cons (ps_if (pt_cmpR op_gt (pe_ix ix_list (pv 0) pe_int (fun _ _ => rfl)) pe_int (nomark _))
        (pss_cons (ps_set (i := 2) scDraw.nd rfl (.inl rfl) (pe_op op_mod (pe_ix ix_list (pv 0) pe_int (fun _ _ => rfl)) (pv 1)))
        (pss_cons (ps_asg (pe_op op_fdiv (pe_ix ix_list (pv 0) pe_int (fun _ _ => rfl)) (pv 1)) (pg_sub (pv 0) pe_int set_list))
        (pss_one (ps_ret (pv 2))))) pss_nil)
      (pss_cons (ps_asg (pe_op op_add (pe_ix ix_list (pv 0) pe_int (fun _ _ => rfl)) pe_int) (pg_sub (pv 0) pe_int set_list))
      (pss_cons (ps_set (i := 3) scDraw.nd rfl (.inl rfl) (pe_op op_mod (pe_op op_powW (pe_op op_add (pe_ix ix_list (pv 0) pe_int (fun _ _ => rfl)) (pe_op op_mul pe_int (pe_ix ix_list (pv 0) pe_int (fun _ _ => rfl)))) pe_int) (pe_op op_add (pe_op op_pow pe_int pe_int) pe_int)))
      (pss_cons (ps_set (i := 3) scDraw.nd rfl (.inl rfl) (pe_op op_mod (pe_op op_powW (pe_op op_add (pv 3) (pe_op op_mul pe_int (pe_ix ix_list (pv 0) pe_int (fun _ _ => rfl)))) pe_int) (pe_op op_add (pe_op op_pow pe_int pe_int) pe_int)))
      (pss_one (ps_ret (pe_op op_mod (pe_op op_fdiv (pv 3) pe_int) (pv 1))))))), ?_⟩
    have hS := SqL.of (K := K) hs
    refine ⟨.ref s0, rfl, s0, _, 0, .int a, rfl, rfl, hS, atI_nat (j := 0) rfl, _, _, rfl, rfl, _, rfl, ite2 (fun h => ?_) (fun h => ?_)⟩
    · refine ⟨.ref s0, rfl, s0, _, 0, .int a, rfl, rfl, hS, atI_nat (j := 0) rfl, _, rfl, _, _, rfl, rfl, by omega, ?_⟩
      refine ⟨.ref s0, rfl, s0, _, 0, .int a, rfl, rfl, hS, atI_nat (j := 0) rfl, _, rfl, _, _, rfl, rfl, ⟨by omega, by omega⟩, ?_⟩
      refine ⟨.ref s0, rfl, s0, _, _, 0, rfl, rfl, hs, rfl, ?_⟩
      refine ⟨_, rfl, q _ _ ⟨a / lim, b, c, rfl, Int.ediv_nonneg ha (by omega), hb, hb2, hc, by omega⟩ (Int.emod_nonneg _ (by omega)) (Int.emod_lt_of_pos _ (by omega))⟩
    · refine ⟨.ref s0, rfl, s0, _, 2, .int c, rfl, rfl, hS, atI_nat (j := 2) rfl, _, _, rfl, rfl, ?_⟩
      refine ⟨.ref s0, rfl, s0, _, _, 2, rfl, rfl, hs, rfl, ?_⟩
      have hS2 : SqL K (upd H s0 (.lst [.int a, .int b, .int (c + 1)])) s0 [.int a, .int b, .int (c + 1)] := SqL.of upd_same
      have nat_lt : ∀ x y : Int, 0 ≤ x → x ≤ y → y.natAbs < 2 ^ 1000 → x.natAbs < 2 ^ 1000 := fun x y h0 h1 h2 => Nat.lt_of_le_of_lt (by omega) h2
      have big : ((2 ^ 140 : Int)).natAbs < 2 ^ 1000 := by decide +kernel
      refine ⟨.ref s0, rfl, s0, _, 1, .int b, rfl, rfl, hS2, atI_nat (j := 1) rfl, .ref s0, rfl, s0, _, 2, .int (c + 1), rfl, rfl, hS2, atI_nat (j := 2) rfl, _, _, rfl, rfl, .inl ⟨by decide, by decide⟩, _, _, rfl, rfl, _, 3, rfl, rfl, ⟨by decide, by decide, ?_⟩, 10, 37, rfl, rfl, ⟨by decide, by decide, by decide⟩, _, _, rfl, rfl, _, _, rfl, rfl, (by show (0 : Int) < 10 ^ Int.toNat 37 + 43; decide), ?_⟩
      · refine nat_lt _ (2 ^ 140) (by omega) ?_ big
        have : (2 : Int) ^ 130 + 49979687 * 1000001 ≤ 2 ^ 140 := by decide
        omega
      · have m1 : ∀ z : Int, 0 ≤ z % (10 ^ Int.toNat 37 + 43) ∧ z % (10 ^ Int.toNat 37 + 43) ≤ 2 ^ 130 := fun z => by
          have h1 : 0 ≤ z % (10 ^ Int.toNat 37 + 43) := Int.emod_nonneg _ (by decide)
          have h2 : z % (10 ^ Int.toNat 37 + 43) < 10 ^ Int.toNat 37 + 43 := Int.emod_lt_of_pos _ (by decide)
          have h3 : (10 : Int) ^ Int.toNat 37 + 43 ≤ 2 ^ 130 := by decide
          omega
        generalize hmx : (b + 49979687 * (c + 1)) ^ Int.toNat 3 % (10 ^ Int.toNat 37 + 43) = mx
        have m1' : 0 ≤ mx ∧ mx ≤ 2 ^ 130 := by
          rw [← hmx]
          exact m1 _
        refine ⟨_, rfl, .ref s0, rfl, s0, _, 2, .int (c + 1), rfl, rfl, hS2, atI_nat (j := 2) rfl, _, _, rfl, rfl, .inl ⟨by decide, by decide⟩, _, _, rfl, rfl, _, 3, rfl, rfl, ⟨by decide, by decide, ?_⟩, 10, 36, rfl, rfl, ⟨by decide, by decide, by decide⟩, _, _, rfl, rfl, _, _, rfl, rfl, (by show (0 : Int) < 10 ^ Int.toNat 36 + 67; decide), ?_⟩
        · refine nat_lt _ (2 ^ 140) (by omega) ?_ big
          have : (2 : Int) ^ 130 + 15485863 * 1000001 ≤ 2 ^ 140 := by decide
          omega
        · generalize (mx + 15485863 * (c + 1)) ^ Int.toNat 3 % (10 ^ Int.toNat 36 + 67) = my
          refine ⟨_, rfl, _, _, rfl, rfl, ⟨by decide, by decide⟩, _, rfl, _, _, rfl, rfl, by show (0 : Int) < lim; omega, ?_⟩
          exact q _ _ ⟨a, b, c + 1, rfl, ha, hb, hb2, by omega, by omega⟩ (Int.emod_nonneg _ (by omega)) (Int.emod_lt_of_pos _ (by omega))
end
end Ln


set_option Elab.async false
set_option linter.all false
set_option maxRecDepth 100000
set_option maxHeartbeats 2000000
namespace Ln
open PySem PySem.Spec PyProof.Rows L2 GxR
theorem scMixed : FnScope ["source", "things", "spare", "k"] ["source", "things"] (defScope sMixed) := ⟨rfl, rfl, rfl, by decide +kernel, rfl, by decide +kernel, by decide +kernel⟩
/-- what stood stands, the source apart -/
def Ch (s : Addr) (H H' : Hp) : Prop := ∀ b o, H b = some o → b ≠ s → H' b = some o
theorem Ch.refl {s : Addr} {H : Hp} : Ch s H H := fun _ _ e _ => e
theorem Ch.trans {s : Addr} {H H1 H2 : Hp} (a : Ch s H H1) (b : Ch s H1 H2) : Ch s H H2 := fun c o e n => b c o (a c o e n) n
theorem Ch.src {s : Addr} {H : Hp} {o : HO} : Ch s H (upd H s o) := fun b q e n => by rw [upd_ne n]; exact e
theorem Ch.new {s p : Addr} {H H1 : Hp} {o : HO} (k : Ch s H H1) (hp : H p = none) : Ch s H (upd H1 p o) := fun b q e n => by rw [upd_ne (ne_of_none e hp)]; exact k b q e n
theorem Ch.seqL {K : PySem.W.Frag} {s a : Addr} {H H1 : Hp} {xs : List V} (k : Ch s H H1) (h : SqL K H a xs) (n : a ≠ s) : SqL K H1 a xs := by
  rcases h with (e | ⟨ob, e⟩) | e
  · exact .inl (.inl (k _ _ e n))
  · exact .inl (.inr ⟨ob, k _ _ e n⟩)
  · exact .inr e
theorem Ch.seqT {K : PySem.W.Frag} {s a : Addr} {H H1 : Hp} {xs l : List V} (k : Ch s H H1) (h : SqT K H a xs) (hs : H s = some (.lst l)) : SqT K H1 a xs := by
  rcases h with (e | ⟨ob, e⟩) | e
  · exact .inl (.inl (k _ _ e fun z => by rw [z, hs] at e; cases e))
  · exact .inl (.inr ⟨ob, k _ _ e fun z => by rw [z, hs] at e; cases e⟩)
  · exact .inr e
/-- a new address stays apart from the source -/
theorem Ch.free {s p : Addr} {H H1 : Hp} {l : List V} (k : Ch s H H1) (hs : H s = some (.lst l)) (hs1 : ∃ l1, H1 s = some (.lst l1)) (hp : H1 p = none) : H p = none := by
  by_cases z : p = s
  · obtain ⟨l1, e⟩ := hs1
    rw [z, e] at hp
    cases hp
  · cases q : H p with
    | none => rfl
    | some u =>
      rw [k p u q z] at hp
      cases hp
theorem Ch.tabs {s : Addr} {Ps : List Addr} {H H1 : Hp} {l : List V} (k : Ch s H H1) (hs : H s = some (.lst l)) (hT : Tabs Ps H) : Tabs Ps H1 := fun q hq => by
  obtain ⟨ps, e, t⟩ := hT q hq
  exact ⟨ps, k q _ e (fun z => by rw [z, hs] at e; cases e), t⟩
theorem erase_perm {α : Type} {l : List α} {k : Nat} {x : α} (h : l[k]? = some x) : (x :: l.eraseIdx k).Perm l := by
  obtain ⟨hk, e⟩ := List.getElem?_eq_some_iff.mp h
  have e1 : l = l.take k ++ x :: l.drop (k + 1) := by
    rw [← e, ← List.drop_eq_getElem_cons hk, List.take_append_drop]
  rw [List.eraseIdx_eq_take_drop_succ]
  conv => rhs; rw [e1]
  exact List.perm_middle.symm
theorem map_erase {α β : Type} (f : α → β) : ∀ (l : List α) (k : Nat), (l.map f).eraseIdx k = (l.eraseIdx k).map f
  | [], _ => rfl
  | _ :: _, 0 => rfl
  | x :: r, k + 1 => by
    show f x :: (r.map f).eraseIdx k = f x :: (r.eraseIdx k).map f
    rw [map_erase f r k]
abbrev rLenSeq (K : PySem.W.Frag) : List V → Hp → VK → Prop := fun xs H Q => ∃ p ys, xs = [.ref p] ∧ (SqL K H p ys ∨ SqT K H p ys) ∧ Q (.int ((ys.length : Nat) : Int)) H
section
variable {P : Program} {w : World} {K : PySem.W.Frag} {mg : Str → Option Value} {base : Heap} {Ps : List Addr}
def spMixed (K : PySem.W.Frag) : Sp := fun vs H Q _ => ∃ (s t : Addr) (l : List V) (n : Nat) (xs : List Str), vs = [.ref s, .ref t] ∧ H s = some (.lst l) ∧ SrcV n l ∧ n + xs.length ≤ 1000000 ∧ SqL K H t (xs.map V.str) ∧ t ≠ s ∧ xs.length ≤ 1000 ∧
  ∀ (H' : Hp) (p : Addr) (ys : List Str) (l' : List V), Ch s H H' → H p = none → ys.Perm xs → SrcV (n + xs.length) l' → H' s = some (.lst l') → H' p = some (.lst (ys.map V.str)) → Q (.ref p) H'
theorem ok_mixed {f fD : Addr} {fd fdD : FuncData} (F : Fun K "_law_mixed" "_law_mixed" sMixed f fd) (B : Bi mg) (B2 : Bl mg)
    (GD : FnOk P w K mg base CX0 1 fD fdD ["source", "limit"] spDraw) (mgD : mg "_law_draw" = some (.ref fD)) (kD : PySem.W.keepIn K (.ref fD) = true) (bD : Binds K fdD ["source", "limit"] []) : FnOk P w K mg base CX0 2 f fd ["source", "things"] (spMixed K) := by
  refine F.ok scMixed (fun vs H Q E h => ?_) (fun cdv A outer s H vs Q E hr h => ?_)
  · obtain ⟨s0, t, l, n, xs, rfl, _⟩ := h
    rfl
  · obtain ⟨s0, t, l, n, xs, rfl, hs, hl, hn, hS, hts, hfew, q⟩ := h
    refine ⟨_, pss_cons (ps_set (i := 2) scMixed.nd rfl (.inr rfl) (pe_callTy call_list_of (by rfl) B.lst (by decide +kernel) (pa_cons (pv 1) pa_nil)))
      (pss_one (ps_ret (pe_lc (own := [("k", 3)]) (g := gName 3) (tt := tYes) (te := tBM K "list" rPopAt (tVar 2) (tCons (tCall spDraw [] E0 (tCons (tVar 0) (tCons (tCB (rLenSeq K) (tCons (tVar 2) tNil)) tNil))) tNil)) (by rfl) scMixed.nd
        (pi_range1 (by rfl) B2.rng (pa_cons (pe_callB call_len_seq (by rfl) B.len PySem.boot_len (pa_cons (pv 1) pa_nil)) pa_nil))
        (blkOk_by (own := [("k", 3)]) (N := ["source", "things", "spare", "k"]) (sc := defScope sMixed) (by decide +kernel))
        (fun _ _ _ _ _ => pg_name (i := 3) scMixed.nd rfl (Or.inl rfl)) (fun _ _ _ _ _ => pts_nil)
        (fun _ _ _ _ _ => pe_bm PySem.F.plainAttrs_list PySem.F.slot_list_pop PySem.F.type_list_pop mt_popAt (pv 2) (pa_cons (pe_call GD hr (by rfl) mgD kD bD .nil pass0 (pa_cons (pv 0) (pa_cons (pe_callB call_len_seq (by rfl) B.len PySem.boot_len (pa_cons (pv 2) pa_nil)) pa_nil))) pa_nil))))), ?_⟩
    refine ⟨.ref t, rfl, t, _, rfl, .inl hS, fun u hu => ?_⟩
    have hus : u ≠ s0 := fun z => by
      rw [z, hs] at hu
      cases hu
    have c1 : Ch s0 H (upd H u (.lst (xs.map V.str))) := Ch.refl.new hu
    refine ⟨.ref t, rfl, t, _, rfl, .inl (c1.seqL hS hts), xs.length, ?_, by omega, by omega, fun D hD => ?_⟩
    · rw [List.length_map]
    have hDu : D ≠ u := fun z => by
      rw [z, upd_same] at hD
      cases hD
    have hD0 : H D = none := by
      rw [upd_ne hDu] at hD
      exact hD
    have hDs : D ≠ s0 := fun z => by
      rw [z, hs] at hD0
      cases hD0
    refine lc_range (lo := 0) (n := xs.length) (fun i H' => ∃ (l' : List V) (ys zs : List Str), Ch s0 H H' ∧ i ≤ xs.length ∧ SrcV (n + i) l' ∧ H' s0 = some (.lst l') ∧ H' u = some (.lst (zs.map V.str)) ∧ H' D = some (.lst (ys.map V.str)) ∧ (ys ++ zs).Perm xs ∧ ys.length = i) ?_ ?_ ?_
    · exact ⟨l, [], xs, (Ch.refl.new hu).new hD0, Nat.zero_le _, hl, by rw [upd_ne hDs.symm, upd_ne hus.symm]; exact hs, by rw [upd_ne hDu.symm, upd_same], by rw [upd_same]; rfl, List.Perm.refl _, rfl⟩
    · rintro i H' hi ⟨l', ys, zs, ch, _, hl', hs', hu', hD', hp, hy⟩
      have hlen : ys.length + zs.length = xs.length := by
        have := hp.length_eq
        rw [List.length_append] at this
        exact this
      refine ⟨rfl, ?_⟩
      unfold tYes
      refine iteT ?_
      refine ⟨.ref u, rfl, .inl ⟨rfl, _, .inl (.inl hu')⟩, .ref s0, rfl, .ref u, rfl, u, _, rfl, .inl (.inl (.inl hu')), ?_⟩
      refine ⟨s0, l', n + i, _, rfl, hs', hl', by omega, by rw [List.length_map]; omega, by rw [List.length_map]; omega, fun l2 r hl2 h0 h1 => ?_⟩
      rw [List.length_map] at h1
      obtain ⟨k, rfl⟩ : ∃ k : Nat, r = (k : Int) := ⟨r.toNat, by omega⟩
      have hk : k < zs.length := by omega
      have hz : zs[k]? = some zs[k] := List.getElem?_eq_getElem hk
      have hu2 : (upd H' s0 (.lst l2)) u = some (.lst (zs.map V.str)) := by rw [upd_ne hus]; exact hu'
      have hpe := erase_perm hz
      refine ⟨u, _, k, k, V.str zs[k], rfl, rfl, hu2, by omega, by omega, ?_, by rw [List.getElem?_map, hz]; rfl, ys.map V.str, ?_, ?_, ?_⟩
      · refine (ixN_seq (i := (k : Int)) (j := k) ?_).1
        unfold ixN
        rw [if_pos (by omega), if_pos (by rw [List.length_map]; omega)]
        rfl
      · rw [upd_ne hDu, upd_ne hDs]
        exact hD'
      · rw [List.length_map]
        exact small1000 (by omega)
      · refine ⟨l2, ys ++ [zs[k]], zs.eraseIdx k, ((ch.trans Ch.src).new hu).new hD0, hi, ?_, ?_, ?_, ?_, ?_, ?_⟩
        · rw [← Nat.add_assoc]
          exact hl2
        · rw [upd_ne hDs.symm, upd_ne hus.symm, upd_same]
        · rw [upd_ne hDu.symm, upd_same, map_erase]
        · rw [upd_same, List.map_append]
          rfl
        · rw [List.append_assoc]
          exact ((List.Perm.append_left ys hpe)).trans hp
        · rw [List.length_append, hy]
          rfl
    · rintro H' ⟨l', ys, zs, ch, _, hl', hs', hu', hD', hp, hy⟩
      have hz : zs = [] := by
        have := hp.length_eq
        rw [List.length_append, hy] at this
        exact List.length_eq_zero_iff.mp (by omega)
      rw [hz, List.append_nil] at hp
      exact q H' D ys l' ch hD0 hp hl' hs' hD'
end
end Ln


set_option Elab.async false
set_option linter.all false
set_option maxRecDepth 1000000
namespace Ln
open PySem PySem.Spec PyProof.Rows L2 GxR
def nmB (k : Nat) : Str := ⟨#[97 + k / 26]⟩ ++ ⟨#[97 + k % 26]⟩
def nmR (k : Nat) : Str := ⟨#[97 + k % 26]⟩ ++ ⟨#[97 + k / 26]⟩
def nine : List Str := ["in", "out", "l", "r", "a", "zzzz", "aaaa", "none", "x"]
/-- the vehicles by their style -/
def nmS : Nat → List Str
  | 0 => (List.range 160).map fun k => ("zy" : Str) ++ nmB k
  | 1 => (List.range 160).map nmR
  | 2 => nine ++ (List.range 160).map fun k => nmB k ++ ("q" : Str)
  | _ => (List.range 160).map nmB
def goodB : List Str → Bool
  | [] => true
  | x :: r => carB x && !(r.any fun y => decide (y = x)) && goodB r
theorem goodB_all : ∀ {l : List Str}, goodB l = true → l.all carB = true
  | [], _ => rfl
  | x :: r, h => by
    unfold goodB at h
    rw [Bool.and_eq_true, Bool.and_eq_true] at h
    rw [List.all_cons, h.1.1, goodB_all h.2]
    rfl
theorem goodB_nodup : ∀ {l : List Str}, goodB l = true → l.Nodup
  | [], _ => List.nodup_nil
  | x :: r, h => by
    unfold goodB at h
    rw [Bool.and_eq_true, Bool.and_eq_true] at h
    refine List.nodup_cons.mpr ⟨fun hx => ?_, goodB_nodup h.2⟩
    have := h.1.2
    rw [Bool.not_eq_true', List.any_eq_false] at this
    exact this x hx (decide_eq_true rfl)
theorem good0 : goodB (nmS 0) = true := by decide +kernel
theorem good1 : goodB (nmS 1) = true := by decide +kernel
theorem good2 : goodB (nmS 2) = true := by decide +kernel
theorem good3 : goodB (nmS 3) = true := by decide +kernel
theorem goodS (st : Nat) (h : st < 4) : (nmS st).all carB = true ∧ (nmS st).Nodup := by
  have : goodB (nmS st) = true := by
    match st, h with
    | 0, _ => exact good0
    | 1, _ => exact good1
    | 2, _ => exact good2
    | 3, _ => exact good3
  exact ⟨goodB_all this, goodB_nodup this⟩
theorem letters_at : ∀ i < 26, ("abcdefghijklmnopqrstuvwxyz" : Str).cps.toList[i]? = some (97 + i) := by decide +kernel
theorem car_len {x : Str} (h : carB x = true) : x.length ≤ 4 := by
  unfold carB at h
  rw [Bool.and_eq_true, Bool.and_eq_true] at h
  exact of_decide_eq_true h.1.2
end Ln


set_option Elab.async false
set_option linter.all false
set_option maxRecDepth 100000
set_option maxHeartbeats 2000000
namespace Ln
open PySem PySem.Spec PyProof.Rows L2 GxR
theorem scVeh : FnScope ["source", "count", "letters", "found", "style", "k", "name"] ["source", "count"] (defScope sVeh) := ⟨rfl, rfl, rfl, by decide +kernel, rfl, by decide +kernel, by decide +kernel⟩
theorem cut_take {xs : List V} {c : Nat} : cutV xs none (some (c : Int)) = xs.take c := by
  unfold cutV
  rw [HT.sIx_none, HT.sIx_nat, List.drop_zero, Nat.sub_zero]
  rcases Nat.le_total c xs.length with h | h
  · rw [Nat.min_eq_left h]
  · rw [Nat.min_eq_right h, List.take_length, List.take_of_length_le h]
theorem take_base {α : Type} (f : Nat → α) {c : Nat} (h : c ≤ 160) : ((List.range 160).map f).take c = (List.range c).map f := by
  rw [← List.map_take, List.take_range, Nat.min_eq_left h]
section
variable {P : Program} {w : World} {K : PySem.W.Frag} {mg : Str → Option Value} {base : Heap} {Ps : List Addr}
def spVeh : Sp := fun vs H Q _ => ∃ (s : Addr) (l : List V) (n c : Nat), vs = [.ref s, .int c] ∧ H s = some (.lst l) ∧ SrcV n l ∧ n + 200 ≤ 1000000 ∧ c ≤ 160 ∧
  ∀ (H' : Hp) (p : Addr) (ys : List Str) (l' : List V), Ch s H H' → H p = none → ys.length = c → ys.all carB = true → ys.Nodup → SrcV (n + 161) l' → H' s = some (.lst l') → H' p = some (.lst (ys.map V.str)) → Q (.ref p) H'
abbrev lcNm (own : Str) (i : Nat) : List (Str × Nat) := [(own, i)]
theorem ok_veh {f fD fM : Addr} {fd fdD fdM : FuncData} (F : Fun K "_law_vehicles" "_law_vehicles" sVeh f fd) (B : Bi mg) (B2 : Bl mg)
    (GD : FnOk P w K mg base CX0 1 fD fdD ["source", "limit"] spDraw) (mgD : mg "_law_draw" = some (.ref fD)) (kD : PySem.W.keepIn K (.ref fD) = true) (bD : Binds K fdD ["source", "limit"] [])
    (GM : FnOk P w K mg base CX0 2 fM fdM ["source", "things"] (spMixed K)) (mgM : mg "_law_mixed" = some (.ref fM)) (kM : PySem.W.keepIn K (.ref fM) = true) (bM : Binds K fdM ["source", "things"] []) : FnOk P w K mg base CX0 3 f fd ["source", "count"] spVeh := by
  refine F.ok scVeh (fun vs H Q E h => ?_) (fun cdv A outer s H vs Q E hr h => ?_)
  · obtain ⟨s0, l, n, c, rfl, _⟩ := h
    rfl
  · obtain ⟨s0, l, n, c, rfl, hs, hl, hn, hc, q⟩ := h
    refine ⟨_, pss_cons (ps_set (i := 2) scVeh.nd rfl (.inr rfl) pe_str)
      (pss_cons (ps_setLc (i := 3) (own := [("k", 5)]) (g := gName 5) (tt := tYes) (by rfl) scVeh.nd rfl rfl (sw_true rfl rfl rfl (by decide +kernel)) (pi_range1 (by rfl) B2.rng (pa_cons (pv 1) pa_nil))
        (blkOk_by (own := [("k", 5)]) (N := ["source", "count", "letters", "found", "style", "k", "name"]) (sc := defScope sVeh) (by decide +kernel))
        (fun _ _ _ _ _ => pg_name (i := 5) scVeh.nd rfl (Or.inl rfl)) (fun _ _ _ _ _ => pts_nil)
        (fun _ _ _ _ _ => pe_op op_add_str (pe_ix ix_str (pv 2) (pe_op op_fdiv (pv 5) pe_int) (fun _ _ => rfl)) (pe_ix ix_str (pv 2) (pe_op op_mod (pv 5) pe_int) (fun _ _ => rfl))))
      (pss_cons (ps_set (i := 4) scVeh.nd rfl (.inl rfl) (pe_call GD (hr.mono (by decide)) (by rfl) mgD kD bD .nil pass0 (pa_cons (pv 0) (pa_cons pe_int pa_nil))))
      (pss_cons (ps_if (pt_cmpR op_eq (pv 4) pe_int (nomark _)) (pss_one (ps_setLc (i := 3) (own := [("name", 6)]) (g := gName 6) (tt := tYes) (by rfl) scVeh.nd rfl rfl (sw_true rfl rfl rfl (by decide +kernel)) (pi_list (pv 3))
        (blkOk_by (own := [("name", 6)]) (N := ["source", "count", "letters", "found", "style", "k", "name"]) (sc := defScope sVeh) (by decide +kernel))
        (fun _ _ _ _ _ => pg_name (i := 6) scVeh.nd rfl (Or.inl rfl)) (fun _ _ _ _ _ => pts_nil) (fun _ _ _ _ _ => pe_op op_add_str pe_str (pv 6)))) pss_nil)
      (pss_cons (ps_if (pt_cmpR op_eq (pv 4) pe_int (nomark _)) (pss_one (ps_setLc (i := 3) (own := [("name", 6)]) (g := gName 6) (tt := tYes) (by rfl) scVeh.nd rfl rfl (sw_true rfl rfl rfl (by decide +kernel)) (pi_list (pv 3))
        (blkOk_by (own := [("name", 6)]) (N := ["source", "count", "letters", "found", "style", "k", "name"]) (sc := defScope sVeh) (by decide +kernel))
        (fun _ _ _ _ _ => pg_name (i := 6) scVeh.nd rfl (Or.inl rfl)) (fun _ _ _ _ _ => pts_nil) (fun _ _ _ _ _ => pe_op op_add_str (pe_ix ix_str (pv 6) pe_int (fun _ _ => rfl)) (pe_ix ix_str (pv 6) pe_int (fun _ _ => rfl))))) pss_nil)
      (pss_cons (ps_if (pt_cmpR op_eq (pv 4) pe_int (nomark _)) (pss_one (ps_set (i := 3) scVeh.nd rfl (.inl rfl) (pe_slice sl_list (pe_op op_cat (pe_lst (pa_cons pe_str (pa_cons pe_str (pa_cons pe_str (pa_cons pe_str (pa_cons pe_str (pa_cons pe_str (pa_cons pe_str (pa_cons pe_str (pa_cons pe_str pa_nil))))))))))
        (pe_lc (own := [("name", 6)]) (g := gName 6) (tt := tYes) (by rfl) scVeh.nd (pi_list (pv 3))
          (blkOk_by (own := [("name", 6)]) (N := ["source", "count", "letters", "found", "style", "k", "name"]) (sc := defScope sVeh) (by decide +kernel))
          (fun _ _ _ _ _ => pg_name (i := 6) scVeh.nd rfl (Or.inl rfl)) (fun _ _ _ _ _ => pts_nil) (fun _ _ _ _ _ => pe_op op_add_str (pv 6) pe_str))) po_none (po_some (pv 1))))) pss_nil)
      (pss_one (ps_ret (pe_call GM hr (by rfl) mgM kM bM .nil pass0 (pa_cons (pv 0) (pa_cons (pv 3) pa_nil)))))))))), ?_⟩
    -- the end: _law_mixed over what found is
    have fin : ∀ (st : Nat) (H1 : Hp) (l1 : List V) (p : Addr) (v4 : Option V), st < 4 → Ch s0 H H1 → H1 s0 = some (.lst l1) → SrcV (n + 1) l1 → H1 p = some (.lst (((nmS st).take c).map V.str)) → p ≠ s0 →
        (tRet (tCall (spMixed K) [] E0 (tCons (tVar 0) (tCons (tVar 3) tNil)))) { nx := fun _ H' => Q .non H', rt := Q } [some (.ref s0), some (.int c), some (.str "abcdefghijklmnopqrstuvwxyz"), some (.ref p), v4, none, none] H1 := by
      intro st H1 l1 p v4 hst ch hs1 hl1 hp hps
      obtain ⟨g1, g2⟩ := goodS st hst
      have hlen : ((nmS st).take c).length = c := by
        rw [List.length_take]
        have : 160 ≤ (nmS st).length := by
          match st, hst with
          | 0, _ => simp [nmS]
          | 1, _ => simp [nmS]
          | 2, _ => simp [nmS]
          | 3, _ => simp [nmS]
        omega
      refine ⟨.ref s0, rfl, .ref p, rfl, s0, p, l1, n + 1, (nmS st).take c, rfl, hs1, hl1, by omega, .inl (.inl hp), hps, by omega, fun H' p' ys l' ch' hp' hperm hl' hs' hy => ?_⟩
      refine q H' p' ys l' (ch.trans ch') (ch.free hs ⟨_, hs1⟩ hp') (by rw [hperm.length_eq, hlen]) ?_ ?_ (hl'.mono (by omega)) hs' hy
      · rw [List.all_eq_true]
        intro x hx
        exact List.all_eq_true.mp g1 x (List.mem_of_mem_take (hperm.mem_iff.mp hx))
      · exact hperm.symm.nodup (g2.sublist (List.take_sublist _ _))
    refine ⟨_, rfl, (c : Int), rfl, by omega, by omega, fun D hD => ?_⟩
    have hDs : D ≠ s0 := fun z => by
      rw [z, hs] at hD
      cases hD
    refine lc_range (lo := 0) (n := c) (fun i H' => Ch s0 H H' ∧ i ≤ c ∧ H' s0 = some (.lst l) ∧ H' D = some (.lst (((List.range i).map nmB).map V.str))) ?_ ?_ ?_
    · exact ⟨Ch.refl.new hD, Nat.zero_le _, by rw [upd_ne hDs.symm]; exact hs, by rw [upd_same]; rfl⟩
    · rintro i H' hi ⟨ch, _, hs', hD'⟩
      refine ⟨rfl, ?_⟩
      unfold tYes
      refine iteT ?_
      have a1 : atI ("abcdefghijklmnopqrstuvwxyz" : Str).cps.toList ((0 + (i : Int)) / 26) = some (97 + i / 26) := by
        rw [show (0 + (i : Int)) / 26 = ((i / 26 : Nat) : Int) by omega]
        exact atI_nat (letters_at (i / 26) (by omega))
      have a2 : atI ("abcdefghijklmnopqrstuvwxyz" : Str).cps.toList ((0 + (i : Int)) % 26) = some (97 + i % 26) := by
        rw [show (0 + (i : Int)) % 26 = ((i % 26 : Nat) : Int) by omega]
        exact atI_nat (letters_at (i % 26) (by omega))
      refine ⟨_, rfl, _, rfl, _, _, rfl, rfl, ⟨by decide, by decide⟩, _, (0 + (i : Int)) / 26, 97 + i / 26, rfl, rfl, by decide +kernel, a1, _, rfl, _, rfl, _, _, rfl, rfl, (by show (0 : Int) < 26; decide), _, (0 + (i : Int)) % 26, 97 + i % 26, rfl, rfl, by decide +kernel, a2, _, _, rfl, rfl, by show 2 ≤ sizeLine; decide, _, hD', ?_, ch.new hD, hi, ?_, ?_⟩
      · rw [List.length_map, List.length_map, List.length_range]
        exact small1000 (by omega)
      · rw [upd_ne hDs.symm]
        exact hs'
      · rw [upd_same, List.range_succ, List.map_append, List.map_append]
        rfl
    rintro H2 ⟨ch2, _, hs2, hD2⟩
    -- style = _law_draw(source, 4)
    refine ⟨.ref s0, rfl, s0, l, n, 4, rfl, hs2, hl, by omega, by decide, by decide, fun l1 r hl1 h0 h4 => ?_⟩
    have ch3 : Ch s0 H (upd H2 s0 (.lst l1)) := ch2.trans Ch.src
    have hD3 : (upd H2 s0 (.lst l1)) D = some (.lst (((List.range c).map nmB).map V.str)) := by rw [upd_ne hDs]; exact hD2
    have hs3 : (upd H2 s0 (.lst l1)) s0 = some (.lst l1) := upd_same
    generalize upd H2 s0 (.lst l1) = H3 at *
    have hsz : ∀ k, (nmB k).length = 2 := fun k => rfl
    -- a comprehension over the names
    have comp : ∀ (f : Nat → Str) (D2 : Addr), H3 D2 = none → ∀ (Pn : Hp → Prop), (∀ H', Ch s0 H3 H' → H' s0 = some (.lst l1) → H' D = H3 D → H' D2 = some (.lst (((List.range c).map f).map V.str)) → Pn H') → D2 ≠ s0 ∧ D2 ≠ D := fun f D2 h2 Pn _ => ⟨(fun z => by rw [z, hs3] at h2; cases h2), (fun z => by rw [z, hD3] at h2; cases h2)⟩
    have r4 : r = 0 ∨ r = 1 ∨ r = 2 ∨ r = 3 := by omega
    have dne : ∀ a b : Int, a ≠ b → decide (V.int a = V.int b) = false := fun a b h => decide_eq_false fun z => h (V.int.inj z)
    rcases r4 with rfl | rfl | rfl | rfl
    · refine ⟨_, rfl, rfl, _, rfl, iteT ?_⟩
      refine ⟨.ref D, rfl, D, rfl, ⟨_, .inl (.inl hD3)⟩, fun D2 hD2n => ?_⟩
      obtain ⟨n1, n2⟩ := comp nmB D2 hD2n (fun _ => True) fun _ _ _ _ _ => trivial
      refine lc_list (K := K) (a := D) (xs := ((List.range c).map nmB).map V.str) (fun i H' => Ch s0 H H' ∧ H' s0 = some (.lst l1) ∧ H' D = some (.lst (((List.range c).map nmB).map V.str)) ∧ H' D2 = some (.lst (((List.range i).map fun k => ("zy" : Str) ++ nmB k).map V.str))) ?_ ?_ ?_ ?_
      · exact ⟨ch3.new (ch3.free hs ⟨_, hs3⟩ hD2n), by rw [upd_ne n1.symm]; exact hs3, by rw [upd_ne n2.symm]; exact hD3, by rw [upd_same]; rfl⟩
      · rintro i H' _ ⟨_, _, hD', _⟩
        exact .inl (.inl hD')
      · rintro i y H' hi ⟨ch', hs', hD', hD2'⟩
        have hic : i < c := by
          have h1 := (List.getElem?_eq_some_iff.mp hi).1
          rw [List.length_map, List.length_map, List.length_range] at h1
          exact h1
        obtain rfl : y = V.str (nmB i) := by
          rw [List.getElem?_map, List.getElem?_map, List.getElem?_range hic] at hi
          exact (Option.some.inj hi).symm
        refine ⟨rfl, ?_⟩
        unfold tYes
        refine iteT ⟨_, rfl, _, _, rfl, rfl, by show 4 ≤ sizeLine; decide, _, hD2', ?_, ch'.new (ch3.free hs ⟨_, hs3⟩ hD2n), ?_, ?_, ?_⟩
        · rw [List.length_map, List.length_map, List.length_range]
          exact small1000 (by omega)
        · rw [upd_ne n1.symm]
          exact hs'
        · rw [upd_ne n2.symm]
          exact hD'
        · rw [upd_same, List.range_succ, List.map_append, List.map_append]
          rfl
      · rintro H' ⟨ch', hs', hD', hD2'⟩
        rw [List.length_map, List.length_map, List.length_range] at hD2'
        refine ⟨_, rfl, rfl, _, rfl, iteF ⟨_, rfl, rfl, _, rfl, iteF ?_⟩⟩
        exact fin 0 H' l1 D2 _ (by decide) ch' hs' hl1 (by rw [hD2', show nmS 0 = (List.range 160).map (fun k => ("zy" : Str) ++ nmB k) from rfl, take_base _ hc]) n1
    · refine ⟨_, rfl, rfl, _, rfl, iteF ⟨_, rfl, rfl, _, rfl, iteT ?_⟩⟩
      refine ⟨.ref D, rfl, D, rfl, ⟨_, .inl (.inl hD3)⟩, fun D2 hD2n => ?_⟩
      obtain ⟨n1, n2⟩ := comp nmB D2 hD2n (fun _ => True) fun _ _ _ _ _ => trivial
      refine lc_list (K := K) (a := D) (xs := ((List.range c).map nmB).map V.str) (fun i H' => Ch s0 H H' ∧ H' s0 = some (.lst l1) ∧ H' D = some (.lst (((List.range c).map nmB).map V.str)) ∧ H' D2 = some (.lst (((List.range i).map nmR).map V.str))) ?_ ?_ ?_ ?_
      · exact ⟨ch3.new (ch3.free hs ⟨_, hs3⟩ hD2n), by rw [upd_ne n1.symm]; exact hs3, by rw [upd_ne n2.symm]; exact hD3, by rw [upd_same]; rfl⟩
      · rintro i H' _ ⟨_, _, hD', _⟩
        exact .inl (.inl hD')
      · rintro i y H' hi ⟨ch', hs', hD', hD2'⟩
        have hic : i < c := by
          have h1 := (List.getElem?_eq_some_iff.mp hi).1
          rw [List.length_map, List.length_map, List.length_range] at h1
          exact h1
        obtain rfl : y = V.str (nmB i) := by
          rw [List.getElem?_map, List.getElem?_map, List.getElem?_range hic] at hi
          exact (Option.some.inj hi).symm
        refine ⟨rfl, ?_⟩
        unfold tYes
        refine iteT ⟨_, rfl, nmB i, 1, 97 + i % 26, rfl, rfl, by show 2 ≤ sizeLine; decide, atI_nat (j := 1) rfl, _, rfl, nmB i, 0, 97 + i / 26, rfl, rfl, by show 2 ≤ sizeLine; decide, atI_nat (j := 0) rfl, _, _, rfl, rfl, by show 2 ≤ sizeLine; decide, _, hD2', ?_, ch'.new (ch3.free hs ⟨_, hs3⟩ hD2n), ?_, ?_, ?_⟩
        · rw [List.length_map, List.length_map, List.length_range]
          exact small1000 (by omega)
        · rw [upd_ne n1.symm]
          exact hs'
        · rw [upd_ne n2.symm]
          exact hD'
        · rw [upd_same, List.range_succ, List.map_append, List.map_append]
          rfl
      · rintro H' ⟨ch', hs', hD', hD2'⟩
        rw [List.length_map, List.length_map, List.length_range] at hD2'
        refine ⟨_, rfl, rfl, _, rfl, iteF ?_⟩
        exact fin 1 H' l1 D2 _ (by decide) ch' hs' hl1 (by rw [hD2', show nmS 1 = (List.range 160).map nmR from rfl, take_base _ hc]) n1
    · refine ⟨_, rfl, rfl, _, rfl, iteF ⟨_, rfl, rfl, _, rfl, iteF ⟨_, rfl, rfl, _, rfl, iteT ?_⟩⟩⟩
      refine ⟨by show 9 ≤ sizeLine; decide, fun D3 hD3n => ?_⟩
      obtain ⟨n3, n4⟩ := comp nmB D3 hD3n (fun _ => True) fun _ _ _ _ _ => trivial
      have ch4 := ch3.new (o := .lst (nine.map V.str)) (ch3.free hs ⟨_, hs3⟩ hD3n)
      refine ⟨.ref D, rfl, D, rfl, ⟨_, .inl (.inl (by rw [upd_ne n4.symm]; exact hD3))⟩, fun D2 hD2n => ?_⟩
      have nD23 : D2 ≠ D3 := fun z => by
        rw [z, upd_same] at hD2n
        cases hD2n
      rw [upd_ne nD23] at hD2n
      obtain ⟨n1, n2⟩ := comp nmB D2 hD2n (fun _ => True) fun _ _ _ _ _ => trivial
      refine lc_list (K := K) (a := D) (xs := ((List.range c).map nmB).map V.str) (fun i H' => Ch s0 H H' ∧ H' s0 = some (.lst l1) ∧ H' D = some (.lst (((List.range c).map nmB).map V.str)) ∧ H' D3 = some (.lst (nine.map V.str)) ∧ H' D2 = some (.lst (((List.range i).map fun k => nmB k ++ ("q" : Str)).map V.str))) ?_ ?_ ?_ ?_
      · exact ⟨ch4.new (ch3.free hs ⟨_, hs3⟩ hD2n), by rw [upd_ne n1.symm, upd_ne n3.symm]; exact hs3, by rw [upd_ne n2.symm, upd_ne n4.symm]; exact hD3, by rw [upd_ne nD23.symm, upd_same]; rfl, by rw [upd_same]; rfl⟩
      · rintro i H' _ ⟨_, _, hD', _⟩
        exact .inl (.inl hD')
      · rintro i y H' hi ⟨ch', hs', hD', hD3', hD2'⟩
        have hic : i < c := by
          have h1 := (List.getElem?_eq_some_iff.mp hi).1
          rw [List.length_map, List.length_map, List.length_range] at h1
          exact h1
        obtain rfl : y = V.str (nmB i) := by
          rw [List.getElem?_map, List.getElem?_map, List.getElem?_range hic] at hi
          exact (Option.some.inj hi).symm
        refine ⟨rfl, ?_⟩
        unfold tYes
        refine iteT ⟨_, rfl, _, _, rfl, rfl, by show 3 ≤ sizeLine; decide, _, hD2', ?_, ch'.new (ch3.free hs ⟨_, hs3⟩ hD2n), ?_, ?_, ?_, ?_⟩
        · rw [List.length_map, List.length_map, List.length_range]
          exact small1000 (by omega)
        · rw [upd_ne n1.symm]
          exact hs'
        · rw [upd_ne n2.symm]
          exact hD'
        · rw [upd_ne nD23.symm]
          exact hD3'
        · rw [upd_same, List.range_succ, List.map_append, List.map_append]
          rfl
      · rintro H' ⟨ch', hs', hD', hD3', hD2'⟩
        rw [List.length_map, List.length_map, List.length_range] at hD2'
        refine ⟨D3, D2, _, _, rfl, rfl, hD3', hD2', ?_, fun p1 hp1 => ?_⟩
        · rw [List.length_map, List.length_map, List.length_map, List.length_range]
          show 9 + c ≤ _
          exact Nat.le_of_lt (small1000 (by omega))
        refine ⟨_, rfl, _, rfl, p1, _, rfl, .inl (.inl upd_same), fun p2 hp2 => ?_⟩
        have hp2s : p2 ≠ s0 := fun z => by
          rw [z] at hp2
          by_cases e : s0 = p1
          · rw [← e, hs'] at hp1
            cases hp1
          · rw [upd_ne e, hs'] at hp2
            cases hp2
        have hs5 : (upd (upd H' p1 (.lst (nine.map V.str ++ ((List.range c).map fun k => nmB k ++ ("q" : Str)).map V.str))) p2 (.lst (cutV (nine.map V.str ++ ((List.range c).map fun k => nmB k ++ ("q" : Str)).map V.str) none (some (c : Int))))) s0 = some (.lst l1) := by
          rw [upd_ne hp2s.symm, upd_ne (ne_of_none hs' hp1)]
          exact hs'
        refine fin 2 _ l1 p2 _ (by decide) ?_ hs5 hl1 ?_ hp2s
        · have c5 := ch'.new (o := .lst (nine.map V.str ++ ((List.range c).map fun k => nmB k ++ ("q" : Str)).map V.str)) (ch'.free hs ⟨_, hs'⟩ hp1)
          exact c5.new (c5.free hs ⟨l1, by rw [upd_ne (ne_of_none hs' hp1)]; exact hs'⟩ hp2)
        · rw [upd_same, cut_take, ← List.map_append, ← List.map_take]
          congr 3
          show (nine ++ (List.range c).map fun k => nmB k ++ ("q" : Str)).take c = (nine ++ (List.range 160).map fun k => nmB k ++ ("q" : Str)).take c
          rw [List.take_append, List.take_append, take_base _ (by omega), ← List.map_take, List.take_range, Nat.min_eq_left (by omega)]
    · refine ⟨_, rfl, rfl, _, rfl, iteF ⟨_, rfl, rfl, _, rfl, iteF ⟨_, rfl, rfl, _, rfl, iteF ?_⟩⟩⟩
      exact fin 3 H3 l1 D _ (by decide) ch3 hs3 hl1 (by rw [hD3, show nmS 3 = (List.range 160).map nmB from rfl, take_base _ hc]) hDs
end
end Ln


set_option Elab.async false
set_option linter.all false
set_option maxRecDepth 100000
set_option maxHeartbeats 2000000
namespace Ln
open PySem PySem.Spec PyProof.Rows L2 GxR
theorem scHap : FnScope ["source", "present", "spare", "most", "found", "left", "lean", "k", "arrives"] ["source", "present", "spare", "most"] (defScope sHap) := ⟨rfl, rfl, rfl, by decide +kernel, rfl, by decide +kernel, by decide +kernel⟩
/-- how many are present behind a log, if it can be -/
def cnt : Nat → List Ev → Option Nat
  | n, [] => some n
  | n, .inn _ :: r => cnt (n + 1) r
  | n, .out :: r => if 0 < n then cnt (n - 1) r else none
theorem cnt_snoc : ∀ (n : Nat) (es : List Ev) (e : Ev) (m : Nat), cnt n es = some m → cnt n (es ++ [e]) = cnt m [e]
  | n, [], e, m, h => by
    obtain rfl : n = m := Option.some.inj h
    rfl
  | n, .inn c :: r, e, m, h => cnt_snoc (n + 1) r e m h
  | n, .out :: r, e, m, h => by
    show (if 0 < n then cnt (n - 1) (r ++ [e]) else none) = _
    have h : (if 0 < n then cnt (n - 1) r else none) = some m := h
    by_cases q : 0 < n
    · rw [if_pos q] at h ⊢
      exact cnt_snoc (n - 1) r e m h
    · rw [if_neg q] at h
      cases h
/-- a log of new cars that counts is a log -/
theorem logB_of : ∀ (es : List Ev) (us : List Str) (n m : Nat), cnt n es = some m → (∀ c ∈ arrs es, carB c = true ∧ ¬ c ∈ us) → (arrs es).Nodup → logB us n es = true
  | [], _, _, _, _, _, _ => rfl
  | .inn c :: r, us, n, m, h, hc, hn => by
    show (if carB c = true ∧ ¬ c ∈ us then logB (c :: us) (n + 1) r else false) = true
    have hn : (c :: arrs r).Nodup := hn
    obtain ⟨h1, h2⟩ := List.nodup_cons.mp hn
    rw [if_pos (hc c List.mem_cons_self)]
    refine logB_of r (c :: us) (n + 1) m h (fun d hd => ⟨(hc d (List.mem_cons_of_mem _ hd)).1, fun z => ?_⟩) h2
    rcases List.mem_cons.mp z with z | z
    · exact h1 (z ▸ hd)
    · exact (hc d (List.mem_cons_of_mem _ hd)).2 z
  | .out :: r, us, n, m, h, hc, hn => by
    show (if 0 < n then logB us (n - 1) r else false) = true
    have h : (if 0 < n then cnt (n - 1) r else none) = some m := h
    by_cases q : 0 < n
    · rw [if_pos q] at h ⊢
      exact logB_of r us (n - 1) m h hc hn
    · rw [if_neg q] at h
      cases h
/-- the tuples stand -/
def KT (H H' : Hp) : Prop := ∀ b xs, H b = some (.tup xs) → H' b = some (.tup xs)
theorem KT.upd {H : Hp} {a : Addr} {o : HO} (h : ∀ xs, H a ≠ some (.tup xs)) : KT H (upd H a o) := fun b xs e => by
  rw [upd_ne (fun z => h xs (by rw [← z]; exact e))]
  exact e
theorem KT.trans {H H1 H2 : Hp} (a : KT H H1) (b : KT H1 H2) : KT H H2 := fun c xs e => b c xs (a c xs e)
/-- the events' own tuples -/
def EvT (H : Hp) (as : List Addr) (es : List Ev) : Prop := Paired (fun a (e : Ev) => H a = some (.tup e.vals)) as es
theorem EvT.kt {H H' : Hp} {as : List Addr} {es : List Ev} (h : EvT H as es) (k : KT H H') : EvT H' as es := Paired.imp h fun _ _ q => k _ _ q
theorem EvT.at_ {K : PySem.W.Frag} {H : Hp} {as : List Addr} {es : List Ev} (h : EvT H as es) : EvsAt K H as es := Paired.imp h fun _ _ q => SqT.of q
theorem dp_strs {K : PySem.W.Frag} {H : Hp} : ∀ xs : List Str, DpAll K H (xs.map V.str) (xs.map PyData.str)
  | [] => .nil
  | x :: r => .cons (.str x) (dp_strs r)
theorem lay_strs : ∀ xs : List Str, (∀ x ∈ xs, PyData.strOk x = true) → PyData.canLayAll0 (xs.map PyData.str) = true
  | [], _ => rfl
  | x :: r, h => by
    simp only [List.map_cons, PyData.canLayAll0, PyData.canLay0, lay_strs r fun y hy => h y (List.mem_cons_of_mem _ hy), h x List.mem_cons_self]
    rfl
theorem dep_strs : ∀ xs : List Str, PyData.depthAll (xs.map PyData.str) ≤ 1
  | [] => by simp [PyData.depthAll]
  | x :: r => by
    have := dep_strs r
    simp only [List.map_cons, PyData.depthAll, PyData.depth]
    omega
theorem shaped_strs (xs : List Str) (h : ∀ x ∈ xs, PyData.strOk x = true) : SeqAt.shaped (.list (xs.map PyData.str)) = true := by
  unfold SeqAt.shaped
  rw [Bool.and_eq_true]
  refine ⟨by rw [PyData.canLay0]; exact lay_strs xs h, decide_eq_true ?_⟩
  have := dep_strs xs
  simp only [PyData.depth]
  omega
theorem eqv_nil (xs : List Str) : PyData.eqv (.list (xs.map PyData.str)) (.list []) = xs.isEmpty := by
  cases xs with
  | nil => rfl
  | cons x r => simp [PyData.eqv, PyData.eqvAll]
theorem car_ok {x : Str} (h : carB x = true) : PyData.strOk x = true := by
  unfold carB at h
  rw [Bool.and_eq_true] at h
  have h2 := List.all_eq_true.mp h.2
  unfold PyData.strOk
  rw [← Array.all_toList, List.all_eq_true]
  intro c hc
  have := h2 c hc
  unfold lowB at this
  rw [Bool.and_eq_true] at this
  have := of_decide_eq_true this.2
  exact decide_eq_true (by omega)
/-- the loop of _law_happened: at turn i -/
def HapInv (H : Hp) (s0 t o u : Addr) (n n0 most : Nat) (zs : List Str) (r1 : Int) (c i : Nat) (σ : L2.St) (H' : Hp) : Prop := ∃ (l' : List V) (as : List Addr) (es : List Ev) (k m : Nat) (v7 v8 : Option V),
  σ = [some (.ref s0), some (.int (m : Nat)), some (.ref t), some (.int most), some (.ref o), some (.ref u), some (.int (2 + r1)), v7, v8] ∧ Ch s0 H H' ∧ i ≤ c ∧ H' s0 = some (.lst l') ∧ SrcV (n + 2 + i) l' ∧ H' u = some (.lst ((zs.drop k).map V.str)) ∧
  H' o = some (.lst (as.map V.ref)) ∧ EvT H' as es ∧ (∀ a ∈ as, H a = none) ∧ es.length ≤ i ∧ arrs es = zs.take k ∧ cnt n0 es = some m
theorem cnt_le : ∀ (n : Nat) (es : List Ev) (m : Nat), cnt n es = some m → m ≤ n + es.length
  | n, [], m, h => by
    obtain rfl : n = m := Option.some.inj h
    exact Nat.le_refl _
  | n, .inn c :: r, m, h => by
    have := cnt_le (n + 1) r m h
    show m ≤ n + (r.length + 1)
    omega
  | n, .out :: r, m, h => by
    have h : (if 0 < n then cnt (n - 1) r else none) = some m := h
    by_cases q : 0 < n
    · rw [if_pos q] at h
      have := cnt_le (n - 1) r m h
      show m ≤ n + (r.length + 1)
      omega
    · rw [if_neg q] at h
      cases h
section
variable {P : Program} {w : World} {K : PySem.W.Frag} {mg : Str → Option Value} {base : Heap} {Ps : List Addr}
def spHap (K : PySem.W.Frag) : Sp := fun vs H Q _ => ∃ (s t : Addr) (l : List V) (n n0 most : Nat) (zs : List Str), vs = [.ref s, .int n0, .ref t, .int most] ∧ H s = some (.lst l) ∧ SrcV n l ∧ n + 200 ≤ 1000000 ∧ most ≤ 120 ∧ n0 ≤ 400 ∧ SqL K H t (zs.map V.str) ∧ t ≠ s ∧ zs.length ≤ 400 ∧ (∀ z ∈ zs, carB z = true) ∧
  ∀ (H' : Hp) (p : Addr) (as : List Addr) (es : List Ev) (k m : Nat) (l' : List V), Ch s H H' → H p = none → (∀ a ∈ as, H a = none) → es.length ≤ most → arrs es = zs.take k → cnt n0 es = some m → SrcV (n + 122) l' → H' s = some (.lst l') → H' p = some (.lst (as.map V.ref)) → EvT H' as es → Q (.ref p) H'
theorem ok_hap {f fD : Addr} {fd fdD : FuncData} (F : Fun K "_law_happened" "_law_happened" sHap f fd) (B : Bi mg) (B2 : Bl mg)
    (GD : FnOk P w K mg base CX0 1 fD fdD ["source", "limit"] spDraw) (mgD : mg "_law_draw" = some (.ref fD)) (kD : PySem.W.keepIn K (.ref fD) = true) (bD : Binds K fdD ["source", "limit"] []) : FnOk P w K mg base CX0 2 f fd ["source", "present", "spare", "most"] (spHap K) := by
  refine F.ok scHap (fun vs H Q E h => ?_) (fun cdv A outer s H vs Q E hr h => ?_)
  · obtain ⟨s0, t, l, n, n0, most, zs, rfl, _⟩ := h
    rfl
  · obtain ⟨s0, t, l, n, n0, most, zs, rfl, hs, hl, hn, hmost, hn0, hS, hts, hzl, hzc, q⟩ := h
    have hu : A.units + 3 + 64 < cLine := hr.units
    refine ⟨_, pss_cons (ps_set (i := 4) scHap.nd rfl (.inl rfl) (pe_lst pa_nil))
      (pss_cons (ps_set (i := 5) scHap.nd rfl (.inl rfl) (pe_callTy call_list_of (by rfl) B.lst (by decide +kernel) (pa_cons (pv 2) pa_nil)))
      (pss_cons (ps_set (i := 6) scHap.nd rfl (.inl rfl) (pe_op op_add pe_int (pe_call GD hr (by rfl) mgD kD bD .nil pass0 (pa_cons (pv 0) (pa_cons pe_int pa_nil)))))
      (pss_cons (ps_for PassesOwn.never rfl (pi_range1 (by rfl) B2.rng (pa_cons (pe_call GD hr (by rfl) mgD kD bD .nil pass0 (pa_cons (pv 0) (pa_cons (pe_op op_add (pv 3) pe_int) pa_nil))) pa_nil)) (pg_name (i := 7) scHap.nd rfl (.inl rfl))
        (pss_cons (ps_set (i := 8) scHap.nd rfl (.inl rfl) (pe_cmpR op_gt (pe_call GD hr (by rfl) mgD kD bD .nil pass0 (pa_cons (pv 0) (pa_cons (pv 6) pa_nil))) pe_int (nomark _)))
        (pss_one (ps_if (PW.pt (pw_and (pt_cmpR (op_neD hu) (pv 5) (pe_lst pa_nil) (nomark _)) (pw_and (pt_cmpR op_lt (pv 1) pe_int (nomark _)) (pw_and1 (PW.pt (pw_or (pt_cmpR op_eq (pv 1) pe_int (nomark _)) (pw_or1 (pt_val (pv 8)))))))))
          (pss_cons (ps_expr (pe_bm PySem.F.plainAttrs_list PySem.F.slot_list_append PySem.F.type_list_append mt_append (pv 4) (pa_cons (pe_tup (pa_cons pe_str (pa_cons (pe_bm PySem.F.plainAttrs_list PySem.F.slot_list_pop PySem.F.type_list_pop mt_popAt (pv 5) (pa_cons pe_int pa_nil)) pa_nil))) pa_nil)))
            (pss_one (ps_set (i := 1) scHap.nd rfl (.inl rfl) (pe_op op_add (pv 1) pe_int))))
          (pss_one (ps_if (pt_cmpR op_gt (pv 1) pe_int (nomark _))
            (pss_cons (ps_expr (pe_bm PySem.F.plainAttrs_list PySem.F.slot_list_append PySem.F.type_list_append mt_append (pv 4) (pa_cons (pe_tup (pa_cons pe_str pa_nil)) pa_nil)))
              (pss_one (ps_set (i := 1) scHap.nd rfl (.inl rfl) (pe_op op_sub (pv 1) pe_int)))) pss_nil))))))
      (pss_one (ps_ret (pv 4)))))), ?_⟩
    -- found = []; left = list(spare)
    refine ⟨Nat.zero_le _, fun o ho => ?_⟩
    have hos : o ≠ s0 := fun z => by rw [z, hs] at ho; cases ho
    have ch1 : Ch s0 H (upd H o (.lst [])) := Ch.refl.new ho
    refine ⟨.ref t, rfl, t, _, rfl, .inl (ch1.seqL hS hts), fun u hu1 => ?_⟩
    have huo : u ≠ o := fun z => by rw [z, upd_same] at hu1; cases hu1
    rw [upd_ne huo] at hu1
    have hus : u ≠ s0 := fun z => by rw [z, hs] at hu1; cases hu1
    -- lean
    have hs2 : (upd (upd H o (.lst [])) u (.lst (zs.map V.str))) s0 = some (.lst l) := by rw [upd_ne hus.symm, upd_ne hos.symm]; exact hs
    refine ⟨.ref s0, rfl, s0, l, n, 3, rfl, hs2, hl, by omega, by decide, by decide, fun l1 r1 hl1 h10 h13 => ?_⟩
    refine ⟨_, _, rfl, rfl, .ref s0, rfl, .int most, rfl, _, _, rfl, rfl, s0, l1, n + 1, _, rfl, upd_same, hl1, by omega, by omega, by omega, fun l2 r2 hl2 h20 h2m => ?_⟩
    refine ⟨r2, rfl, by omega, by omega, ?_⟩
    refine for_range (lo := 0) (n := r2.toNat) (HapInv H s0 t o u n n0 most zs r1 r2.toNat) ?_ ?_ ?_
    · exact ⟨l2, [], [], 0, n0, none, none, rfl, fun b q e ne => by rw [upd_ne ne, upd_ne ne, upd_ne (ne_of_none e hu1), upd_ne (ne_of_none e ho)]; exact e, Nat.zero_le _, upd_same, hl2, by rw [upd_ne hus, upd_ne hus, upd_same]; rfl, by rw [upd_ne hos, upd_ne hos, upd_ne huo.symm, upd_same]; rfl, .nil, fun a ha => (by cases ha), Nat.le_refl _, rfl, rfl⟩
    · rintro i σ H' hi ⟨l', as, es, k, m, v7, v8, rfl, ch, _, hs', hl', hu', ho', hev, hfr, hel, har, hct⟩
      have hr2 : r2.toNat ≤ 120 := by omega
      -- arrives
      refine ⟨.ref s0, rfl, _, rfl, s0, l', n + 2 + i, _, rfl, hs', hl', by omega, by omega, by omega, fun l3 r3 hl3 h30 h3m => ?_⟩
      refine ⟨_, _, rfl, rfl, ?_⟩
      have hs3 : (upd H' s0 (.lst l3)) s0 = some (.lst l3) := upd_same
      have hu3 : (upd H' s0 (.lst l3)) u = some (.lst ((zs.drop k).map V.str)) := by rw [upd_ne hus]; exact hu'
      have ho3 : (upd H' s0 (.lst l3)) o = some (.lst (as.map V.ref)) := by rw [upd_ne hos]; exact ho'
      have hev3 : EvT (upd H' s0 (.lst l3)) as es := hev.kt (KT.upd fun xs e => by rw [hs'] at e; cases e)
      have ch3 : Ch s0 H (upd H' s0 (.lst l3)) := ch.trans Ch.src
      generalize upd H' s0 (.lst l3) = H3 at *
      have lenA : (as.map V.ref).length < sizeLine := by
        rw [List.length_map, Paired.length hev]
        exact small1000 (by omega)
      -- elif present > 0
      have els : ∀ H4 : Hp, Ch s0 H H4 → H4 s0 = some (.lst l3) → H4 u = some (.lst ((zs.drop k).map V.str)) → H4 o = some (.lst (as.map V.ref)) → EvT H4 as es → ∀ v7 v8 : Option V,
          ∀ D : Ends, (∀ σ H', HapInv H s0 t o u n n0 most zs r1 r2.toNat (i + 1) σ H' → D.nx σ H') →
          (tIfS (tTest (tOp (rI0 fun i j => .bl (decide (j < i))) (tVar 1) (tC (.int 0)))) (tSeq (tDrop (tBM K "list" rAppend (tVar 4) (tCons (tTup (tCons (tC (.str "out")) tNil)) tNil))) (tAsg (tOp (rI0 fun i j => .int (i - j)) (tVar 1) (tC (.int 1))) (gName 1))) tNext)
            D [some (.ref s0), some (.int (m : Nat)), some (.ref t), some (.int most), some (.ref o), some (.ref u), some (.int (2 + r1)), v7, v8] H4 := by
        intro H4 ch4 hs4 hu4 ho4 hev4 v7 v8 D hD
        refine ⟨_, rfl, _, _, rfl, rfl, _, rfl, ite2 (fun hm => ?_) (fun hm => ?_)⟩
        · have hm : (0 : Int) < (m : Nat) := of_decide_eq_true hm
          refine ⟨.ref o, rfl, .inl ⟨rfl, _, .inl (.inl ho4)⟩, by show 1 ≤ sizeLine; decide, fun e he => ?_⟩
          have heo : o ≠ e := ne_of_none ho4 he
          have heu : u ≠ e := ne_of_none hu4 he
          have hes : s0 ≠ e := ne_of_none hs4 he
          have he0 : H e = none := ch4.free hs ⟨_, hs4⟩ he
          refine ⟨o, _, _, rfl, rfl, by rw [upd_ne heo]; exact ho4, lenA, ?_⟩
          refine ⟨_, rfl, _, _, rfl, rfl, hD _ _ ⟨l3, as ++ [e], es ++ [.out], k, m - 1, v7, v8, ?_, (ch4.new he0).new ho, hi, ?_, ?_, ?_, ?_, ?_, ?_, ?_, ?_, ?_⟩⟩
          · show [some (V.ref s0), some (V.int (((m : Nat) : Int) - 1)), some (V.ref t), some (V.int most), some (V.ref o), some (V.ref u), some (V.int (2 + r1)), v7, v8] = _
            rw [show ((m : Nat) : Int) - 1 = ((m - 1 : Nat) : Int) by omega]
          · rw [upd_ne hos.symm, upd_ne hes]
            exact hs4
          · rw [show n + 2 + (i + 1) = n + 2 + i + 1 by omega]
            exact hl3
          · rw [upd_ne huo, upd_ne heu]
            exact hu4
          · rw [upd_same, List.map_append]
            rfl
          · refine Paired.snoc ?_ ?_
            · exact (hev4.kt (KT.upd fun xs e' => by rw [he] at e'; cases e')).kt (KT.upd fun xs e' => by rw [upd_ne heo, ho4] at e'; cases e')
            · show (upd _ _ _) e = _
              rw [upd_ne heo.symm, upd_same]
              rfl
          · intro b hb
            rcases List.mem_append.mp hb with hb | hb
            · exact hfr b hb
            · rw [List.mem_singleton.mp hb]
              exact he0
          · rw [List.length_append]
            show es.length + 1 ≤ _
            omega
          · rw [arrs_app, har]
            show zs.take k ++ [] = _
            rw [List.append_nil]
          · rw [cnt_snoc _ _ _ _ hct]
            show (if 0 < m then some (m - 1) else none) = _
            rw [if_pos (by omega)]
        · exact hD _ _ ⟨l3, as, es, k, m, v7, v8, rfl, ch4, hi, hs4, by rw [show n + 2 + (i + 1) = n + 2 + i + 1 by omega]; exact hl3, hu4, ho4, hev4, hfr, by omega, har, hct⟩
      -- if left != [] and present < 40 and (present == 0 or arrives)
      refine ⟨.ref u, rfl, Nat.zero_le _, fun e0 he0 => ?_⟩
      have hE0 : H e0 = none := ch3.free hs ⟨_, hs3⟩ he0
      have n0o : o ≠ e0 := ne_of_none ho3 he0
      have n0u : u ≠ e0 := ne_of_none hu3 he0
      have n0s : s0 ≠ e0 := ne_of_none hs3 he0
      have hu5 : (upd H3 e0 (.lst [])) u = some (.lst ((zs.drop k).map V.str)) := by rw [upd_ne n0u]; exact hu3
      have ho5 : (upd H3 e0 (.lst [])) o = some (.lst (as.map V.ref)) := by rw [upd_ne n0o]; exact ho3
      have hs5 : (upd H3 e0 (.lst [])) s0 = some (.lst l3) := by rw [upd_ne n0s]; exact hs3
      have ch5 := ch3.new (o := .lst []) hE0
      have hev5 : EvT (upd H3 e0 (.lst [])) as es := hev3.kt (KT.upd fun xs e' => by rw [he0] at e'; cases e')
      refine ⟨.list ((zs.drop k).map PyData.str), .list [], .lst (.inl (.inl hu5)) (dp_strs _), .lst (.inl (.inl upd_same)) .nil, shaped_strs _ fun x hx => car_ok (hzc x (List.mem_of_mem_drop hx)), by decide +kernel, ?_⟩
      rw [eqv_nil]
      generalize upd H3 e0 (.lst []) = H5 at *
      have skip : ∀ v7 v8 : Option V, _ := fun v7 v8 => els H5 ch5 hs5 hu5 ho5 hev5 v7 v8
      refine ⟨_, rfl, ?_⟩
      cases hdr : zs.drop k with
      | nil => exact iteF (iteF (skip _ _ _ fun σ H' h => h))
      | cons c rest =>
        have hk : zs[k]? = some c := by
          have : (zs.drop k)[0]? = some c := by rw [hdr]; rfl
          rw [List.getElem?_drop] at this
          exact this
        have hrest : rest = zs.drop (k + 1) := by
          have : (zs.drop k).drop 1 = rest := by rw [hdr]; rfl
          rw [List.drop_drop] at this
          exact this.symm
        rw [hdr] at hu5
        have yes : ∀ v7 v8 : Option V, ∀ D : Ends, (∀ σ H', HapInv H s0 t o u n n0 most zs r1 r2.toNat (i + 1) σ H' → D.nx σ H') →
            (tSeq (tDrop (tBM K "list" rAppend (tVar 4) (tCons (tTup (tCons (tC (.str "in")) (tCons (tBM K "list" rPopAt (tVar 5) (tCons (tC (.int 0)) tNil)) tNil))) tNil))) (tAsg (tOp (rI0 fun i j => .int (i + j)) (tVar 1) (tC (.int 1))) (gName 1)))
              D [some (.ref s0), some (.int (m : Nat)), some (.ref t), some (.int most), some (.ref o), some (.ref u), some (.int (2 + r1)), v7, v8] H5 := by
          intro v7 v8 D hD
          refine ⟨.ref o, rfl, .inl ⟨rfl, _, .inl (.inl ho5)⟩, .ref u, rfl, .inl ⟨rfl, _, .inl (.inl hu5)⟩, u, _, 0, 0, V.str c, rfl, rfl, hu5, by decide, by decide, ?_, rfl, by show 2 ≤ sizeLine; decide, fun e he => ?_⟩
          · exact (ixN_seq (i := 0) (j := 0) (by unfold ixN; rw [if_pos (by decide), if_pos (by rw [List.length_map, List.length_cons]; omega)]; rfl)).1
          have heu : e ≠ u := fun z => by
            rw [z, upd_same] at he
            cases he
          rw [upd_ne heu] at he
          have heo : o ≠ e := ne_of_none ho5 he
          have hes : s0 ≠ e := ne_of_none hs5 he
          have he0 : H e = none := ch5.free hs ⟨_, hs5⟩ he
          refine ⟨o, _, _, rfl, rfl, by rw [upd_ne heo, upd_ne huo.symm]; exact ho5, lenA, ?_⟩
          refine ⟨_, rfl, _, _, rfl, rfl, hD _ _ ⟨l3, as ++ [e], es ++ [.inn c], k + 1, m + 1, v7, v8, rfl, ((ch5.new hu1).new he0).new ho, hi, ?_, ?_, ?_, ?_, ?_, ?_, ?_, ?_, ?_⟩⟩
          · rw [upd_ne hos.symm, upd_ne hes, upd_ne hus.symm]
            exact hs5
          · rw [show n + 2 + (i + 1) = n + 2 + i + 1 by omega]
            exact hl3
          · rw [upd_ne huo, upd_ne heu.symm, upd_same, ← hrest]
            rfl
          · rw [upd_same, List.map_append]
            rfl
          · refine Paired.snoc ?_ ?_
            · exact ((hev5.kt (KT.upd fun xs e' => by rw [hu5] at e'; cases e')).kt (KT.upd fun xs e' => by rw [upd_ne heu, he] at e'; cases e')).kt (KT.upd fun xs e' => by rw [upd_ne heo, upd_ne huo.symm, ho5] at e'; cases e')
            · show (upd _ _ _) e = _
              rw [upd_ne heo.symm, upd_same]
              rfl
          · intro b hb
            rcases List.mem_append.mp hb with hb | hb
            · exact hfr b hb
            · rw [List.mem_singleton.mp hb]
              exact he0
          · rw [List.length_append]
            show es.length + 1 ≤ _
            omega
          · rw [arrs_app, har, List.take_add_one, hk]
            rfl
          · rw [cnt_snoc _ _ _ _ hct]
            rfl
        refine iteT ⟨_, rfl, _, _, rfl, rfl, _, rfl, ite2 (fun h40 => ?_) (fun h40 => ?_)⟩
        · refine ⟨_, rfl, rfl, _, rfl, ite2 (fun hm0 => ?_) (fun hm0 => ?_)⟩
          · exact iteT (yes _ _ _ fun σ H' h => h)
          · refine ⟨_, rfl, _, rfl, ite2 (fun ha => ?_) (fun ha => ?_)⟩
            · exact yes _ _ _ fun σ H' h => h
            · exact skip _ _ _ fun σ H' h => h
        · exact iteF (skip _ _ _ fun σ H' h => h)
    · rintro σ H' ⟨l', as, es, k, m, v7, v8, rfl, ch, _, hs', hl', hu', ho', hev, hfr, hel, har, hct⟩
      exact ⟨.ref o, rfl, q H' o as es k m l' ch ho hfr (by omega) har hct (hl'.mono (by omega)) hs' ho' hev⟩
end
end Ln


set_option Elab.async false
set_option linter.all false
set_option maxRecDepth 100000
set_option maxHeartbeats 2000000
namespace Ln
open PySem PySem.Spec PyProof.Rows L2 GxR
theorem scRows : FnScope ["initial", "happened", "moves", "rows", "gone", "event", "move_v", "here"] ["initial", "happened", "moves"] (defScope sRows) := ⟨rfl, rfl, rfl, by decide +kernel, rfl, by decide +kernel, by decide +kernel⟩
theorem Same.seqT {K : PySem.W.Frag} {H H' : Hp} {a : Addr} {xs : List V} (e : L2.Same H H') (h : SqT K H a xs) : SqT K H' a xs := by
  rcases h with (h | ⟨o, h⟩) | h
  · exact .inl (.inl (e _ _ h))
  · exact .inl (.inr ⟨o, e _ _ h⟩)
  · exact .inr h
theorem Same.new {H H1 : Hp} {p : Addr} {o : HO} (k : L2.Same H H1) (hp : H p = none) : L2.Same H (upd H1 p o) := fun b q e => by
  rw [upd_ne (ne_of_none e hp)]
  exact k b q e
theorem cut_from1 {xs : List V} (h : 0 < xs.length) : cutV xs (some 1) none = xs.drop 1 := by
  unfold cutV
  rw [show HT.sIx xs.length 0 (some 1) = min 1 xs.length from HT.sIx_nat xs.length 0 1, HT.sIx_none, show min 1 xs.length = 1 by omega]
  exact List.take_of_length_le (by rw [List.length_drop]; exact Nat.le_refl _)
theorem sIx_m1 (n : Nat) (h : 0 < n) : HT.sIx n n (some (-1)) = n - 1 := by
  show (if (-1 : Int) < 0 then ((-1 : Int) + (n : Int)).toNat else min (-1 : Int).toNat n) = n - 1
  rw [if_pos (by decide)]
  omega
theorem cut_last {xs : List V} (h : 0 < xs.length) : cutV xs none (some (-1)) = xs.take (xs.length - 1) := by
  unfold cutV
  rw [HT.sIx_none, sIx_m1 _ h, List.drop_zero, Nat.sub_zero]
/-- all that a history needs -/
structure HistAt (K : PySem.W.Frag) (H : Hp) (a l m : Addr) (xs : List Str) (as : List Addr) (es : List Ev) (sd : List Str) : Prop where
  lane : LaneAt K H a xs
  laneB : laneB xs = true
  log : LogAt K H l as es
  logB : logB xs xs.length es = true
  mv : SqL K H m (sd.map V.str)
  len : sd.length = es.length
  sides : sd.all sideB = true
section
variable {P : Program} {w : World} {K : PySem.W.Frag} {mg : Str → Option Value} {base : Heap} {Ps : List Addr}
def spRows (K : PySem.W.Frag) : Sp := fun vs H Q _ => ∃ (a l m : Addr) (xs : List Str) (as : List Addr) (es : List Ev) (sd : List Str), vs = [.ref a, .ref l, .ref m] ∧ HistAt K H a l m xs as es sd ∧
  ∀ (H' : Hp) (p r g : Addr) (rs : List Addr), L2.Same H H' → H p = none → H r = none → H g = none → r ≠ g → H' p = some (.tup [.ref r, .ref g]) → H' r = some (.lst (rs.map V.ref)) → rs.length = es.length + 1 →
    (∀ (j : Nat) (x : Addr), rs[j]? = some x → SqT K H' x ((atR xs es sd j).1.map V.str)) → H' g = some (.lst ((atR xs es sd es.length).2.map V.str)) → Q (.ref p) H'
theorem ok_rows {f : Addr} {fd : FuncData} (F : Fun K "_law_rows" "_law_rows" sRows f fd) (B : Bi mg) : FnOk P w K mg base CX0 1 f fd ["initial", "happened", "moves"] (spRows K) := by
  refine F.ok scRows (fun vs H Q E h => ?_) (fun cdv A outer s H vs Q E hr h => ?_)
  · obtain ⟨a, l, m, xs, as, es, sd, rfl, _⟩ := h
    rfl
  · obtain ⟨a, l, m, xs, as, es, sd, rfl, hh, q⟩ := h
    refine ⟨_, pss_cons (ps_par (i := 3) (j := 4) (by rfl) scRows.nd rfl rfl (by decide) rfl rfl (pa_cons (pe_lst (pa_cons (pv 0) pa_nil)) (pa_cons (pe_lst pa_nil) pa_nil)) (by rfl))
      (pss_cons (ps_for PassesOwn.never rfl (pi_zip (by rfl) B.zip (pa_cons (pv 1) (pa_cons (pv 2) pa_nil)))
          (pg_tup rfl (pgs_cons (pg_name (i := 5) scRows.nd rfl (.inl rfl)) (pgs_cons (pg_name (i := 6) scRows.nd rfl (.inl rfl)) pgs_nil)))
        (pss_cons (ps_set (i := 7) scRows.nd rfl (.inl rfl) (pe_ix ix_list (pv 3) (pe_un un_neg pe_int) (fun _ _ => rfl)))
        (pss_cons (ps_if (pt_cmpR op_eq (pe_ix ix_tup (pv 5) pe_int (fun _ _ => rfl)) pe_str (nomark _))
          (pss_one (ps_set (i := 7) scRows.nd rfl (.inl rfl) (pe_ifExp (pt_cmpR op_eq (pv 6) pe_str (nomark _)) (pe_op op_catA (pe_slice sl_tup (pv 5) (po_some pe_int) po_none) (pv 7)) (pe_op op_catA (pv 7) (pe_slice sl_tup (pv 5) (po_some pe_int) po_none)))))
          (pss_cons (ps_expr (pe_bm PySem.F.plainAttrs_list PySem.F.slot_list_append PySem.F.type_list_append mt_append (pv 4) (pa_cons (pe_ifExp (pt_cmpR op_eq (pv 6) pe_str (nomark _)) (pe_ix ix_tup (pv 7) pe_int (fun _ _ => rfl)) (pe_ix ix_tup (pv 7) (pe_un un_neg pe_int) (fun _ _ => rfl))) pa_nil)))
            (pss_one (ps_set (i := 7) scRows.nd rfl (.inl rfl) (pe_ifExp (pt_cmpR op_eq (pv 6) pe_str (nomark _)) (pe_slice sl_tup (pv 7) (po_some pe_int) po_none) (pe_slice sl_tup (pv 7) po_none (po_some (pe_un un_neg pe_int))))))))
        (pss_one (ps_expr (pe_bm PySem.F.plainAttrs_list PySem.F.slot_list_append PySem.F.type_list_append mt_append (pv 3) (pa_cons (pv 7) pa_nil)))))))
      (pss_one (ps_ret (pe_tup (pa_cons (pv 3) (pa_cons (pv 4) pa_nil)))))), ?_⟩
    have hlen := Paired.length hh.log.evs
    have few1 := hh.lane.few
    have few2 := hh.log.few
    have hsl := hh.len
    refine ⟨.ref a, rfl, by show 1 ≤ sizeLine; decide, fun r hr0 => ⟨Nat.zero_le _, fun g hg0 => ⟨_, _, rfl, ?_⟩⟩⟩
    have hgr : g ≠ r := fun z => by rw [z, upd_same] at hg0; cases hg0
    rw [upd_ne hgr] at hg0
    have sm0 : L2.Same H (upd (upd H r (.lst [.ref a])) g (.lst [])) := Same.new (Same.new (L2.Same.refl H) hr0) hg0
    refine ⟨.ref l, rfl, .ref m, rfl, l, m, as.map V.ref, sd.map V.str, rfl, sm0.seq hh.log.at_, sm0.seq hh.mv, RZ.for_zipL (K := K) (a := l) (b := m) (xs := as.map V.ref) (ys := sd.map V.str) (by rw [List.length_map, List.length_map]; omega)
      (fun i σ H' => ∃ (v5 v6 v7 : Option V) (n : Nat) (rs : List Addr), σ = [some (.ref a), some (.ref l), some (.ref m), some (.ref r), some (.ref g), v5, v6, v7] ∧ L2.Same H H' ∧ i ≤ es.length ∧ H' r = some (.lst (rs.map V.ref)) ∧ rs.length = i + 1 ∧ (∀ (j : Nat) (x : Addr), rs[j]? = some x → SqT K H' x ((atR xs es sd j).1.map V.str)) ∧
        H' g = some (.lst ((atR xs es sd i).2.map V.str)) ∧ (atR xs es sd i).1.length = n ∧ n ≤ xs.length + i ∧ (atR xs es sd i).2.length ≤ i ∧ Live xs es i n) ?_ ?_ ?_ ?_⟩
    · refine ⟨none, none, none, xs.length, [a], rfl, sm0, Nat.zero_le _, by rw [upd_ne hgr.symm, upd_same]; rfl, rfl, fun j x hj => ?_, by rw [upd_same]; rfl, rfl, Nat.le_refl _, Nat.le_refl _, xs, hh.logB⟩
      match j, hj with
      | 0, hj =>
        obtain rfl : a = x := Option.some.inj hj
        exact Same.seqT sm0 hh.lane.at_
      | j + 1, hj => simp at hj
    · rintro i σ H' ⟨_, _, _, _, _, _, sm, _⟩
      exact ⟨sm.seq hh.log.at_, sm.seq hh.mv⟩
    · rintro i y z T2 σ H' hi hsi ⟨v5, v6, v7, n, rs, rfl, sm, hie, hr', hrs, hrow, hg', hn, hnb, hgb, hlive⟩ hTn
      have hlt : i < es.length := by
        have h1 := (List.getElem?_eq_some_iff.mp hi).1
        rw [List.length_map] at h1
        omega
      have hlt2 : i < sd.length := by omega
      obtain ⟨ev, hev⟩ : ∃ ev, es[i]? = some ev := ⟨es[i], List.getElem?_eq_getElem hlt⟩
      obtain ⟨sx, hsv⟩ : ∃ sx, sd[i]? = some sx := ⟨sd[i], List.getElem?_eq_getElem hlt2⟩
      have hT0 : H T2 = none := sm.free hTn
      obtain ⟨b, hb, hbt⟩ := pair_at hh.log.evs i _ hev
      have hy : y = .ref b := by
        rw [List.getElem?_map, hb] at hi
        exact (Option.some.inj hi).symm
      subst hy
      have hz : z = .str sx := by
        rw [List.getElem?_map, hsv] at hsi
        exact (Option.some.inj hsi).symm
      subst hz
      have nTr : r ≠ T2 := ne_of_none hr' hTn
      have nTg : g ≠ T2 := ne_of_none hg' hTn
      have smT : L2.Same H' (upd H' T2 (.tup [.ref b, .str sx])) := Same.new (L2.Same.refl H') hTn
      have sm1 : L2.Same H (upd H' T2 (.tup [.ref b, .str sx])) := sm.trans smT
      have hr1 : (upd H' T2 (.tup [.ref b, .str sx])) r = some (.lst (rs.map V.ref)) := by rw [upd_ne nTr]; exact hr'
      have hg1 : (upd H' T2 (.tup [.ref b, .str sx])) g = some (.lst ((atR xs es sd i).2.map V.str)) := by rw [upd_ne nTg]; exact hg'
      have hrow1 : ∀ (j : Nat) (x : Addr), rs[j]? = some x → SqT K (upd H' T2 (.tup [.ref b, .str sx])) x ((atR xs es sd j).1.map V.str) := fun j x hj => Same.seqT smT (hrow j x hj)
      have hsuc := atR_succ (xs := xs) hev hsv
      have hls := live_step hlive hev
      have hsd := side_cases (List.all_eq_true.mp hh.sides _ (List.mem_of_getElem? hsv))
      refine ⟨T2, _, rfl, .inl (.inl upd_same), rfl, _, _, rfl, _, _, rfl, rfl, ?_⟩
      generalize upd H' T2 (.tup [.ref b, .str sx]) = H1 at *
      -- here = rows[-1]
      obtain ⟨rs0, hx, rfl⟩ : ∃ rs0 hx, rs = rs0 ++ [hx] := by
        have hne : rs ≠ [] := fun z => by
          rw [z, List.length_nil] at hrs
          omega
        exact ⟨_, _, (List.dropLast_concat_getLast hne).symm⟩
      have hrs0 : rs0.length = i := by
        rw [List.length_append] at hrs
        have : rs0.length + 1 = i + 1 := hrs
        omega
      have hxrow : SqT K H1 hx ((atR xs es sd i).1.map V.str) := hrow1 i hx (by rw [← hrs0, List.getElem?_append_right (Nat.le_refl _), Nat.sub_self]; rfl)
      have hlast : atI ((rs0 ++ [hx]).map V.ref) (-1) = some (.ref hx) := by
        rw [List.map_append]
        exact atI_last _ _
      refine ⟨.ref r, rfl, 1, rfl, r, _, -1, _, rfl, rfl, .inl (.inl hr1), hlast, ?_⟩
      have lenR : ((rs0 ++ [hx]).map V.ref).length < sizeLine := by
        rw [List.length_map, hrs]
        exact small1000 (by omega)
      have lenG : ((atR xs es sd i).2.map V.str).length < sizeLine := by
        rw [List.length_map]
        exact small1000 (by omega)
      -- rows.append(here)
      have app : ∀ (H2 : Hp) (r' : Addr) (v5 v6 : Option V) (D : Ends), L2.Same H H2 → H2 r = some (.lst ((rs0 ++ [hx]).map V.ref)) → H2 g = some (.lst ((atR xs es sd (i + 1)).2.map V.str)) → (∀ (j : Nat) (x : Addr), (rs0 ++ [hx])[j]? = some x → SqT K H2 x ((atR xs es sd j).1.map V.str)) →
          SqT K H2 r' ((atR xs es sd (i + 1)).1.map V.str) →
          (∀ σ' H3, L2.Same H H3 → H3 r = some (.lst (((rs0 ++ [hx]) ++ [r']).map V.ref)) → H3 g = some (.lst ((atR xs es sd (i + 1)).2.map V.str)) → (∀ (j : Nat) (x : Addr), ((rs0 ++ [hx]) ++ [r'])[j]? = some x → SqT K H3 x ((atR xs es sd j).1.map V.str)) →
            σ' = [some (V.ref a), some (V.ref l), some (V.ref m), some (V.ref r), some (V.ref g), v5, v6, some (V.ref r')] → D.nx σ' H3) →
          (tDrop (tBM K "list" rAppend (tVar 3) (tCons (tVar 7) tNil))) D [some (V.ref a), some (V.ref l), some (V.ref m), some (V.ref r), some (V.ref g), v5, v6, some (V.ref r')] H2 := by
        intro H2 r' v5 v6 D sm2 hr2 hg2 hrow2 hnew hD
        refine ⟨.ref r, rfl, .inl ⟨rfl, _, .inl (.inl hr2)⟩, _, rfl, r, _, _, rfl, rfl, hr2, lenR, ?_⟩
        refine hD _ _ (Same.new sm2 hr0) ?_ ?_ ?_ rfl
        · rw [upd_same, List.map_append (l₂ := [r'])]
          rfl
        · rw [upd_ne hgr]
          exact hg2
        · intro j x hj
          have tupKeep : ∀ (x : Addr) (ys : List V), SqT K H2 x ys → SqT K (upd H2 r (.lst (List.map V.ref (rs0 ++ [hx]) ++ [V.ref r']))) x ys := fun x ys h => by
            rcases h with (e | ⟨ob, e⟩) | e
            · exact .inl (.inl (by rw [upd_ne (fun z => by rw [z, hr2] at e; cases e)]; exact e))
            · exact .inl (.inr ⟨ob, by rw [upd_ne (fun z => by rw [z, hr2] at e; cases e)]; exact e⟩)
            · exact .inr e
          refine tupKeep x _ ?_
          by_cases hj2 : j < (rs0 ++ [hx]).length
          · rw [List.getElem?_append_left hj2] at hj
            exact hrow2 j x hj
          · rw [List.getElem?_append_right (by omega)] at hj
            have hj3 : j - (rs0 ++ [hx]).length = 0 := by
              by_cases e : j - (rs0 ++ [hx]).length = 0
              · exact e
              · obtain ⟨q', e'⟩ := Nat.exists_eq_succ_of_ne_zero e
                rw [e'] at hj
                simp at hj
            rw [hj3] at hj
            obtain rfl : r' = x := Option.some.inj hj
            rw [show j = i + 1 by omega]
            exact hnew
      have done : ∀ (n' : Nat) (r' : Addr) (v5 v6 : Option V), (atR xs es sd (i + 1)).1.length = n' → n' ≤ xs.length + (i + 1) → (atR xs es sd (i + 1)).2.length ≤ i + 1 → Live xs es (i + 1) n' →
          ∀ σ' H3, L2.Same H H3 → H3 r = some (.lst (((rs0 ++ [hx]) ++ [r']).map V.ref)) → H3 g = some (.lst ((atR xs es sd (i + 1)).2.map V.str)) → (∀ (j : Nat) (x : Addr), ((rs0 ++ [hx]) ++ [r'])[j]? = some x → SqT K H3 x ((atR xs es sd j).1.map V.str)) →
            σ' = [some (V.ref a), some (V.ref l), some (V.ref m), some (V.ref r), some (V.ref g), v5, v6, some (V.ref r')] →
          ∃ (v5 v6 v7 : Option V) (n : Nat) (rs : List Addr), σ' = [some (.ref a), some (.ref l), some (.ref m), some (.ref r), some (.ref g), v5, v6, v7] ∧ L2.Same H H3 ∧ i + 1 ≤ es.length ∧ H3 r = some (.lst (rs.map V.ref)) ∧ rs.length = i + 1 + 1 ∧ (∀ (j : Nat) (x : Addr), rs[j]? = some x → SqT K H3 x ((atR xs es sd j).1.map V.str)) ∧
        H3 g = some (.lst ((atR xs es sd (i + 1)).2.map V.str)) ∧ (atR xs es sd (i + 1)).1.length = n ∧ n ≤ xs.length + (i + 1) ∧ (atR xs es sd (i + 1)).2.length ≤ i + 1 ∧ Live xs es (i + 1) n := by
        intro n' r' v5 v6 h1 h2 h3 h4 σ' H3 sm3 hr3 hg3 hrow3 e
        exact ⟨v5, v6, _, n', _, e, sm3, hlt, hr3, by rw [List.length_append, hrs]; rfl, hrow3, hg3, h1, h2, h3, h4⟩
      have hbt1 := Same.seqT sm1 hbt
      cases ev with
      | inn c =>
        have hg2 : (atR xs es sd (i + 1)).2 = (atR xs es sd i).2 := by rw [hsuc]; rfl
        have hcut : cutV (Ev.inn c).vals (some 1) none = [V.str c] := cut_from1 (xs := (Ev.inn c).vals) (Nat.zero_lt_succ _)
        have notw : ¬ (HT.sIx ([V.str "in", V.str c] : List V).length 0 (some 1) = 0 ∧ HT.sIx ([V.str "in", V.str c] : List V).length ([V.str "in", V.str c] : List V).length none = ([V.str "in", V.str c] : List V).length) := fun z => by
          have := z.1
          rw [show HT.sIx ([V.str "in", V.str c] : List V).length 0 (some 1) = min 1 2 from HT.sIx_nat 2 0 1] at this
          cases this
        refine ⟨.ref b, rfl, b, _, 0, .str "in", rfl, rfl, hbt1, atI_nat (j := 0) rfl, rfl, _, rfl, ?_⟩
        rw [decide_eq_true (rfl : V.str "in" = V.str "in")]
        refine iteT ?_
        rcases hsd with rfl | rfl
        · have e1 : (atR xs es sd (i + 1)).1 = c :: (atR xs es sd i).1 := by rw [hsuc]; rfl
          refine ⟨_, rfl, rfl, _, rfl, ?_⟩
          rw [decide_eq_true (rfl : V.str "L" = V.str "L")]
          refine iteT ⟨.ref b, rfl, 1, rfl, b, _, rfl, hbt1, notw, fun p hp => ?_⟩
          have smp : L2.Same H1 (upd H1 p (.tup (cutV (Ev.inn c).vals (some 1) none))) := Same.new (L2.Same.refl H1) hp
          rw [hcut] at smp ⊢
          refine ⟨_, rfl, p, hx, [V.str c], _, rfl, rfl, SqT.of upd_same, Same.seqT smp hxrow, ?_, fun z => (by cases z), fun _ he => ?_, fun _ hne p2 hp2 => ?_⟩
          · rw [List.length_map]
            show 1 + _ ≤ _
            have := small1000 (n := 1 + (atR xs es sd i).1.length) (by omega)
            omega
          · refine app _ p _ _ _ (sm1.trans smp) (smp _ _ hr1) (by rw [hg2]; exact smp _ _ hg1) (fun j x hj => Same.seqT smp (hrow1 j x hj)) ?_ (done (n + 1) p _ _ (by rw [e1, List.length_cons, hn]) (by omega) (by rw [hg2]; omega) hls)
            rw [e1, List.map_cons, he]
            exact SqT.of upd_same
          · have smp2 : L2.Same (upd H1 p (.tup [V.str c])) (upd (upd H1 p (.tup [V.str c])) p2 (.tup ([V.str c] ++ (atR xs es sd i).1.map V.str))) := Same.new (L2.Same.refl _) hp2
            have smq := smp.trans smp2
            refine app _ p2 _ _ _ (sm1.trans smq) (smq _ _ hr1) (by rw [hg2]; exact smq _ _ hg1) (fun j x hj => Same.seqT smq (hrow1 j x hj)) ?_ (done (n + 1) p2 _ _ (by rw [e1, List.length_cons, hn]) (by omega) (by rw [hg2]; omega) hls)
            rw [e1]
            exact SqT.of upd_same
        · have e1 : (atR xs es sd (i + 1)).1 = (atR xs es sd i).1 ++ [c] := by
            rw [hsuc]
            show (if ("R" : Str) = "L" then c :: (atR xs es sd i).1 else (atR xs es sd i).1 ++ [c]) = _
            rw [if_neg ne_RL]
          refine ⟨_, rfl, rfl, _, rfl, ?_⟩
          rw [decide_eq_false (fun z => ne_RL (V.str.inj z))]
          refine iteF ⟨_, rfl, .ref b, rfl, 1, rfl, b, _, rfl, hbt1, notw, fun p hp => ?_⟩
          have smp : L2.Same H1 (upd H1 p (.tup (cutV (Ev.inn c).vals (some 1) none))) := Same.new (L2.Same.refl H1) hp
          rw [hcut] at smp ⊢
          refine ⟨hx, p, _, [V.str c], rfl, rfl, Same.seqT smp hxrow, SqT.of upd_same, ?_, fun he => ?_, fun _ z => (by cases z), fun hne _ p2 hp2 => ?_⟩
          · rw [List.length_map]
            show _ + 1 ≤ _
            have := small1000 (n := (atR xs es sd i).1.length + 1) (by omega)
            omega
          · refine app _ p _ _ _ (sm1.trans smp) (smp _ _ hr1) (by rw [hg2]; exact smp _ _ hg1) (fun j x hj => Same.seqT smp (hrow1 j x hj)) ?_ (done (n + 1) p _ _ (by rw [e1, List.length_append, hn]; rfl) (by omega) (by rw [hg2]; omega) hls)
            rw [e1, List.map_append, he]
            exact SqT.of upd_same
          · have smp2 : L2.Same (upd H1 p (.tup [V.str c])) (upd (upd H1 p (.tup [V.str c])) p2 (.tup ((atR xs es sd i).1.map V.str ++ [V.str c]))) := Same.new (L2.Same.refl _) hp2
            have smq := smp.trans smp2
            refine app _ p2 _ _ _ (sm1.trans smq) (smq _ _ hr1) (by rw [hg2]; exact smq _ _ hg1) (fun j x hj => Same.seqT smq (hrow1 j x hj)) ?_ (done (n + 1) p2 _ _ (by rw [e1, List.length_append, hn]; rfl) (by omega) (by rw [hg2]; omega) hls)
            rw [e1, List.map_append]
            exact SqT.of upd_same
      | out =>
        obtain ⟨hpos, hls⟩ := hls
        generalize hlane : (atR xs es sd i).1 = lane at *
        generalize hgone : (atR xs es sd i).2 = gone at *
        refine ⟨.ref b, rfl, b, _, 0, .str "out", rfl, rfl, hbt1, atI_nat (j := 0) rfl, rfl, _, rfl, ?_⟩
        rw [decide_eq_false (fun z => ne_oi (V.str.inj z))]
        refine iteF ?_
        have lpos : 0 < (lane.map V.str).length := by rw [List.length_map]; omega
        rcases hsd with rfl | rfl
        · obtain ⟨x, rr, rfl⟩ : ∃ x rr, lane = x :: rr := by
            cases lane with
            | nil => rw [List.length_nil] at hn; omega
            | cons x rr => exact ⟨x, rr, rfl⟩
          have e1 : (atR xs es sd (i + 1)).1 = rr := by rw [hsuc]; unfold stepR; rw [hlane, hgone]; rfl
          have e2 : (atR xs es sd (i + 1)).2 = gone ++ [x] := by rw [hsuc]; unfold stepR; rw [hlane, hgone]; rfl
          refine ⟨.ref g, rfl, .inl ⟨rfl, _, .inl (.inl hg1)⟩, _, rfl, rfl, _, rfl, ?_⟩
          rw [decide_eq_true (rfl : V.str "L" = V.str "L")]
          refine iteT ⟨_, rfl, hx, _, 0, V.str x, rfl, rfl, hxrow, atI_nat (j := 0) rfl, g, _, _, rfl, rfl, hg1, lenG, ?_⟩
          have tk : ∀ (x' : Addr) (ys : List V), SqT K H1 x' ys → SqT K (upd H1 g (.lst (gone.map V.str ++ [V.str x]))) x' ys := fun x' ys h => by
            rcases h with (e | ⟨ob, e⟩) | e
            · exact .inl (.inl (by rw [upd_ne (fun z => by rw [z, hg1] at e; cases e)]; exact e))
            · exact .inl (.inr ⟨ob, by rw [upd_ne (fun z => by rw [z, hg1] at e; cases e)]; exact e⟩)
            · exact .inr e
          refine ⟨_, rfl, rfl, _, rfl, ?_⟩
          rw [decide_eq_true (rfl : V.str "L" = V.str "L")]
          refine iteT ⟨.ref hx, rfl, 1, rfl, hx, _, rfl, tk _ _ hxrow, ?_, fun p hp => ?_⟩
          · intro z
            have := z.1
            rw [show HT.sIx ((x :: rr).map V.str).length 0 (some 1) = min 1 ((x :: rr).map V.str).length from HT.sIx_nat _ 0 1] at this
            omega
          have smp := Same.new (o := HO.tup (cutV ((x :: rr).map V.str) (some 1) none)) (L2.Same.refl _) hp
          rw [cut_from1 lpos] at smp ⊢
          refine app _ p _ _ _ ((Same.new sm1 hg0).trans smp) (smp _ _ (by rw [upd_ne hgr.symm]; exact hr1)) (smp _ _ (by rw [upd_same, e2, List.map_append]; rfl)) (fun j x' hj => Same.seqT smp (tk _ _ (hrow1 j x' hj))) ?_ (done (n - 1) p _ _ ?_ (by omega) ?_ hls)
          · rw [e1]
            exact SqT.of upd_same
          · rw [e1]
            rw [List.length_cons] at hn
            omega
          · rw [e2, List.length_append]
            show gone.length + 1 ≤ _
            omega
        · obtain ⟨x, rr, rfl⟩ : ∃ x rr, lane = rr ++ [x] := by
            have hne : lane ≠ [] := fun z => by
              rw [z, List.length_nil] at hn
              omega
            exact ⟨_, _, (List.dropLast_concat_getLast hne).symm⟩
          rw [List.length_append] at hn
          have hn : rr.length + 1 = n := hn
          have em : (rr ++ [x]).map V.str = rr.map V.str ++ [V.str x] := by rw [List.map_append]; rfl
          have e1 : (atR xs es sd (i + 1)).1 = rr := by
            rw [hsuc]
            unfold stepR
            rw [hlane, hgone]
            show (if ("R" : Str) = "L" then _ else _ : List Str × List Str).1 = rr
            rw [if_neg ne_RL]
            exact List.dropLast_concat
          have e2 : (atR xs es sd (i + 1)).2 = gone ++ [x] := by
            rw [hsuc]
            unfold stepR
            rw [hlane, hgone]
            show (if ("R" : Str) = "L" then _ else _ : List Str × List Str).2 = _
            rw [if_neg ne_RL]
            show gone ++ (rr ++ [x]).drop ((rr ++ [x]).length - 1) = _
            rw [show (rr ++ [x]).length - 1 = rr.length by rw [List.length_append]; rfl, List.drop_left]
          refine ⟨.ref g, rfl, .inl ⟨rfl, _, .inl (.inl hg1)⟩, _, rfl, rfl, _, rfl, ?_⟩
          rw [decide_eq_false (fun z => ne_RL (V.str.inj z))]
          refine iteF ⟨_, rfl, 1, rfl, hx, _, -1, V.str x, rfl, rfl, hxrow, by rw [em]; exact atI_last _ _, g, _, _, rfl, rfl, hg1, lenG, ?_⟩
          have tk : ∀ (x' : Addr) (ys : List V), SqT K H1 x' ys → SqT K (upd H1 g (.lst (gone.map V.str ++ [V.str x]))) x' ys := fun x' ys h => by
            rcases h with (e | ⟨ob, e⟩) | e
            · exact .inl (.inl (by rw [upd_ne (fun z => by rw [z, hg1] at e; cases e)]; exact e))
            · exact .inl (.inr ⟨ob, by rw [upd_ne (fun z => by rw [z, hg1] at e; cases e)]; exact e⟩)
            · exact .inr e
          refine ⟨_, rfl, rfl, _, rfl, ?_⟩
          rw [decide_eq_false (fun z => ne_RL (V.str.inj z))]
          refine iteF ⟨.ref hx, rfl, 1, rfl, _, rfl, hx, _, rfl, tk _ _ hxrow, ?_, fun p hp => ?_⟩
          · intro z
            have := z.2
            rw [show HT.sIx ((rr ++ [x]).map V.str).length ((rr ++ [x]).map V.str).length (some (-1)) = ((rr ++ [x]).map V.str).length - 1 from sIx_m1 _ lpos] at this
            omega
          have smp := Same.new (o := HO.tup (cutV ((rr ++ [x]).map V.str) none (some (-1)))) (L2.Same.refl _) hp
          rw [show cutV ((rr ++ [x]).map V.str) none (some (-1)) = rr.map V.str by rw [cut_last lpos, em, List.length_append]; exact List.take_left] at smp ⊢
          refine app _ p _ _ _ ((Same.new sm1 hg0).trans smp) (smp _ _ (by rw [upd_ne hgr.symm]; exact hr1)) (smp _ _ (by rw [upd_same, e2, List.map_append]; rfl)) (fun j x' hj => Same.seqT smp (tk _ _ (hrow1 j x' hj))) ?_ (done (n - 1) p _ _ ?_ (by omega) ?_ hls)
          · rw [e1]
            exact SqT.of upd_same
          · rw [e1]
            omega
          · rw [e2, List.length_append]
            show gone.length + 1 ≤ _
            omega
    · rintro σ H' ⟨v5, v6, v7, n, rs, rfl, sm, hie, hr', hrs, hrow, hg', hn, hnb, hgb, hlive⟩
      rw [List.length_map, hlen] at hg' hrs
      refine ⟨_, rfl, _, rfl, by show 2 ≤ sizeLine; decide, fun p hp => ?_⟩
      have hrp : r ≠ p := ne_of_none hr' hp
      have hgp : g ≠ p := ne_of_none hg' hp
      have hp0 : H p = none := sm.free hp
      refine q _ p r g rs (Same.new sm hp0) hp0 hr0 hg0 hgr.symm upd_same (by rw [upd_ne hrp]; exact hr') hrs (fun j x hj => ?_) (by rw [upd_ne hgp]; exact hg')
      exact Same.seqT (Same.new (L2.Same.refl H') hp) (hrow j x hj)
end
end Ln


set_option Elab.async false
set_option linter.all false
set_option maxRecDepth 100000
set_option maxHeartbeats 2000000
namespace Ln
open PySem PySem.Spec PyProof.Rows L2 GxR
/-! ### data that may be shown -/
structure Gd (d : PyData) (dep wt : Nat) : Prop where
  lay : d.canLay0 = true
  dep : d.depth ≤ dep
  wt : d.weight ≤ wt
  iss : d.intsShort 13 = true
  sh : d.showable = true
  nd : d.hasDict = false
structure GdA (ds : List PyData) (dep wt : Nat) : Prop where
  lay : PyData.canLayAll0 ds = true
  dep : PyData.depthAll ds ≤ dep
  wt : PyData.weightAll ds ≤ wt
  iss : PyData.intsShortAll 13 ds = true
  sh : PyData.showableAll ds = true
  nd : PyData.hasDictAll ds = false
theorem GdA.nil {dep : Nat} : GdA [] dep 0 := ⟨rfl, Nat.zero_le _, Nat.le_refl _, rfl, rfl, rfl⟩
theorem GdA.cons {d : PyData} {ds : List PyData} {dep w1 w2 : Nat} (a : Gd d dep w1) (b : GdA ds dep w2) : GdA (d :: ds) dep (w1 + 1 + w2) := by
  refine ⟨?_, ?_, ?_, ?_, ?_, ?_⟩
  · rw [PyData.canLayAll0, a.lay, b.lay]
    rfl
  · have := a.dep
    have := b.dep
    rw [PyData.depthAll]
    omega
  · have := a.wt
    have := b.wt
    rw [PyData.weightAll]
    omega
  · rw [PyData.intsShortAll, a.iss, b.iss]
    rfl
  · rw [PyData.showableAll, a.sh, b.sh]
    rfl
  · rw [PyData.hasDictAll, a.nd, b.nd]
    rfl
theorem GdA.list {ds : List PyData} {dep w : Nat} (a : GdA ds dep w) : Gd (.list ds) (dep + 1) w :=
  ⟨by rw [PyData.canLay0]; exact a.lay, by rw [PyData.depth]; exact Nat.succ_le_succ a.dep, by rw [PyData.weight]; exact a.wt, by rw [PyData.intsShort]; exact a.iss, by rw [PyData.showable]; exact a.sh, by rw [PyData.hasDict]; exact a.nd⟩
theorem GdA.tuple {ds : List PyData} {dep w : Nat} (a : GdA ds dep w) : Gd (.tuple ds) (dep + 1) w :=
  ⟨by rw [PyData.canLay0]; exact a.lay, by rw [PyData.depth]; exact Nat.succ_le_succ a.dep, by rw [PyData.weight]; exact a.wt, by rw [PyData.intsShort]; exact a.iss, by rw [PyData.showable]; exact a.sh, by rw [PyData.hasDict]; exact a.nd⟩
theorem Gd.mono {d : PyData} {a b u v : Nat} (h : Gd d a u) (h1 : a ≤ b) (h2 : u ≤ v) : Gd d b v := ⟨h.lay, Nat.le_trans h.dep h1, Nat.le_trans h.wt h2, h.iss, h.sh, h.nd⟩
theorem GdA.map {α : Type} {f : α → PyData} {dep w : Nat} : ∀ (xs : List α), (∀ x ∈ xs, Gd (f x) dep w) → GdA (xs.map f) dep (xs.length * (w + 1))
  | [], _ => by
    rw [List.length_nil, Nat.zero_mul]
    exact .nil
  | x :: r, h => by
    have a := GdA.cons (h x List.mem_cons_self) (GdA.map r fun y hy => h y (List.mem_cons_of_mem _ hy))
    rw [List.length_cons, Nat.succ_mul, Nat.add_comm]
    exact a
theorem Gd.str {x : Str} (h1 : PyData.strOk x = true) (h2 : x.length ≤ 4) : Gd (.str x) 0 4 :=
  ⟨by rw [PyData.canLay0]; exact h1, by rw [PyData.depth]; exact Nat.le_refl _, by rw [PyData.weight]; exact h2, rfl, rfl, rfl⟩
set_option maxRecDepth 1000000 in
theorem shown_ints : ∀ n < 1001, decide ((PyData.shown (.int (n : Nat))).length ≤ 13) = true := by decide +kernel
theorem Gd.int {n : Nat} (h : n ≤ 1000) : Gd (.int (n : Nat)) 0 11 := by
  have hl : (if ((n : Nat) : Int) = 0 then 0 else ((n : Nat) : Int).natAbs.log2 + 1) ≤ 11 := by
    split
    · omega
    · have : ((n : Nat) : Int).natAbs.log2 < 10 := (Nat.log2_lt (by omega)).mpr (by show ((n : Nat) : Int).natAbs < 1024; omega)
      omega
  refine ⟨rfl, by rw [PyData.depth]; exact Nat.le_refl _, ?_, ?_, ?_, rfl⟩
  · rw [PyData.weight]
    simpa using hl
  · rw [PyData.intsShort]
    exact shown_ints n (by omega)
  · rw [PyData.showable]
    refine decide_eq_true ?_
    by_cases e : n = 0
    · subst e
      decide
    · have : ((n : Nat) : Int).natAbs.log2 < 10 := (Nat.log2_lt (by omega)).mpr (by show ((n : Nat) : Int).natAbs < 1024; omega)
      omega
theorem Gd.shaped {d : PyData} {dep w : Nat} (h : Gd d dep w) (hd : dep ≤ 60) : SeqAt.shaped d = true := by
  unfold SeqAt.shaped
  rw [Bool.and_eq_true]
  have := h.dep
  exact ⟨h.lay, decide_eq_true (by omega)⟩
theorem Gd.len {d : PyData} {dep w : Nat} (h : Gd d dep w) (hd : dep ≤ 60) (hw : w ≤ 1000000) : d.shown.length ≤ sizeLine := by
  have h1 := h.dep
  have h2 := h.wt
  have hl : PyData.layable0 d = true := by
    unfold PyData.layable0
    rw [Bool.and_eq_true, Bool.and_eq_true]
    exact ⟨⟨h.lay, decide_eq_true (by omega)⟩, decide_eq_true (by omega)⟩
  exact Nat.le_trans (shown_le13 hl h.iss) (by decide)
/-! ### repr, where nothing is being shown -/
def rRepr (K : PySem.W.Frag) : List V → Hp → VK → Prop := fun vs H Q => ∃ (a : Addr) (d : PyData) (dep w : Nat), vs = [.ref a] ∧ Dp K H (.ref a) d ∧ Gd d dep w ∧ dep ≤ 60 ∧ w ≤ 1000000 ∧ Q (.str d.shown) H
theorem cr_repr {X : Cx} (hg : X.A.guards = some []) (hu : X.A.units + 64 < cLine) : CallR X (.builtin "repr") (rRepr X.K) := by
  intro pins s σ H vs us Q I r h
  obtain ⟨a, d, dep, w, rfl, hd, hG, h60, hw, q⟩ := h
  obtain ⟨u, rfl, r1⟩ := vals1 r
  obtain ⟨as, hr⟩ := Dp.reads I d (.ref a) u hd r1
  obtain rfl : u = Value.ref a := r1
  have h1 := hG.dep
  exact repr_of_reads' hr hG.sh (PyData.noDict_hsm hG.nd) hg (by omega) (fun _ _ e => e) (fun h' t tk hk => ⟨.str d.shown, H, I.kept hk, ⟨_, rfl⟩, q⟩) (hG.len h60 hw)
/-! ### calls by keywords alone -/
section
variable {X : Cx} {CX : CXT} {k : Nat} {f : Addr} {fd : FuncData} {ps ks : List Str} {sp : Sp} {E : XK} {x : Str} {p pos : Pos} {kws : List Keyword} {tk : TA} {g : List Value → List Value → List Value} {gV : List V → List V → List V}
theorem pe_callK0 (F : FnOk X.prog X.w X.K X.mg X.base CX k f fd ps sp) (hr : Room k X.A) (hg : Gl X x) (hm : X.mg x = some (.ref f)) (hk : PySem.W.keepIn X.K (.ref f) = true) (hb : KBinds X.K fd ps ks g gV) (hx : Passes CX X E) (hkw : PK X kws tk)
    (hall : (backToKw pos (keywordEach kws X.env)).all (·.1.isSome) = true := by rfl) (hks : (backToKw pos (keywordEach kws X.env)).filterMap (·.1) = ks := by rfl) (hdb : (x == ("__debug__" : Str)) = false := by decide)
    (hpl : ((backTo pos (starEach [] X.env)).any (·.1) || (backToKw pos (keywordEach kws X.env)).any (·.1.isNone)) = false := by rfl) :
    PE X (.Call (.Name x p) [] kws pos) (tCallK sp gV E tNil tk) := by
  refine ⟨fun pins s σ H Q I h => wpAny_Call_Name_kw (ld_glob I hg hm ?_ hdb)⟩
  refine PySem.W.callWith_KW0 (h₀ := X.base) I.ok.mod.kin hk hall (thn (hkw.run pos pins s σ H _ I h) fun ws s2 ⟨zs, H2, I2, rz, q2⟩ => ⟨I2.kIn, ?_⟩) hpl
  rw [hks]
  exact run_fnk (us := []) F hr hb hx I2 .nil rz q2
end
/-! ### what a history's numbers are -/
theorem szs_at {xs : List Str} {es : List Ev} {sd : List Str} (hB : logB xs xs.length es = true) (hl : sd.length = es.length) : ∀ i, i ≤ es.length → (szs xs.length es)[i]? = some (((atR xs es sd i).1.length : Nat) : Int) ∧ Live xs es i (atR xs es sd i).1.length
  | 0, _ => ⟨szs_head _ _, xs, hB⟩
  | i + 1, h => by
    obtain ⟨h1, h2⟩ := szs_at hB hl i (by omega)
    have hlt : i < es.length := h
    have hlt2 : i < sd.length := by omega
    obtain ⟨ev, hev⟩ : ∃ ev, es[i]? = some ev := ⟨es[i], List.getElem?_eq_getElem hlt⟩
    obtain ⟨sx, hsv⟩ : ∃ sx, sd[i]? = some sx := ⟨sd[i], List.getElem?_eq_getElem hlt2⟩
    have hs := szs_step _ es i ev _ hev h1
    have hr := atR_succ (xs := xs) hev hsv
    have hls := live_step h2 hev
    generalize hlane : atR xs es sd i = pr at *
    cases ev with
    | inn c =>
      have e1 : (atR xs es sd (i + 1)).1.length = pr.1.length + 1 := by
        rw [hr]
        show (if sx = "L" then c :: pr.1 else pr.1 ++ [c]).length = _
        split
        · rfl
        · rw [List.length_append]
          rfl
      rw [e1]
      exact ⟨by rw [hs]; rfl, hls⟩
    | out =>
      obtain ⟨hp, hls⟩ := hls
      have e1 : (atR xs es sd (i + 1)).1.length = pr.1.length - 1 := by
        rw [hr]
        show (if sx = "L" then (pr.1.drop 1, pr.2 ++ pr.1.take 1) else (pr.1.dropLast, pr.2 ++ pr.1.drop (pr.1.length - 1)) : List Str × List Str).1.length = _
        split
        · exact List.length_drop
        · exact List.length_dropLast
      rw [e1]
      refine ⟨?_, hls⟩
      rw [hs]
      congr 1
      show ((pr.1.length : Nat) : Int) + -1 = _
      omega
theorem szs_eq {xs : List Str} {es : List Ev} {sd : List Str} (hB : logB xs xs.length es = true) (hl : sd.length = es.length) : szs xs.length es = (List.range (es.length + 1)).map fun i => (((atR xs es sd i).1.length : Nat) : Int) := by
  refine List.ext_getElem? fun i => ?_
  by_cases h : i < es.length + 1
  · rw [(szs_at hB hl i (by omega)).1, List.getElem?_map, List.getElem?_range h]
    rfl
  · rw [List.getElem?_eq_none (by rw [szs_len]; omega), List.getElem?_eq_none (by rw [List.length_map, List.length_range]; omega)]
theorem atR_le {xs : List Str} {es : List Ev} {sd : List Str} : ∀ i, (atR xs es sd i).1.length ≤ xs.length + i ∧ (atR xs es sd i).2.length ≤ i
  | 0 => ⟨Nat.le_refl _, Nat.le_refl _⟩
  | i + 1 => by
    obtain ⟨h1, h2⟩ := atR_le (xs := xs) (es := es) (sd := sd) i
    unfold atR at *
    rw [List.take_add_one, List.foldl_append]
    cases hq : (es.zip sd)[i]? with
    | none => exact ⟨by show _ ≤ _; simp only [Option.toList_none, List.foldl_nil]; omega, by simp only [Option.toList_none, List.foldl_nil]; omega⟩
    | some q =>
      obtain ⟨e, x⟩ := q
      simp only [Option.toList_some, List.foldl_cons, List.foldl_nil]
      generalize List.foldl stepR (xs, []) (List.take i (es.zip sd)) = pr at *
      cases e with
      | inn c =>
        refine ⟨?_, by show pr.2.length ≤ _; omega⟩
        show (if x = "L" then c :: pr.1 else pr.1 ++ [c]).length ≤ _
        split
        · rw [List.length_cons]
          omega
        · rw [List.length_append]
          show pr.1.length + 1 ≤ _
          omega
      | out =>
        show (if x = "L" then (pr.1.drop 1, pr.2 ++ pr.1.take 1) else (pr.1.dropLast, pr.2 ++ pr.1.drop (pr.1.length - 1)) : List Str × List Str).1.length ≤ _ ∧ (if x = "L" then (pr.1.drop 1, pr.2 ++ pr.1.take 1) else (pr.1.dropLast, pr.2 ++ pr.1.drop (pr.1.length - 1)) : List Str × List Str).2.length ≤ _
        split
        · refine ⟨by show (pr.1.drop 1).length ≤ _; rw [List.length_drop]; omega, ?_⟩
          show (pr.2 ++ pr.1.take 1).length ≤ _
          rw [List.length_append, List.length_take]
          omega
        · refine ⟨by show (pr.1.dropLast).length ≤ _; rw [List.length_dropLast]; omega, ?_⟩
          show (pr.2 ++ pr.1.drop (pr.1.length - 1)).length ≤ _
          rw [List.length_append, List.length_drop]
          omega
end Ln


set_option Elab.async false
set_option linter.all false
set_option maxRecDepth 100000
set_option maxHeartbeats 2000000
namespace Ln
open PySem PySem.Spec PyProof.Rows L2 GxR
/-- a def's promise where nothing is being shown -/
structure FnG (P : Program) (w : World) (K : PySem.W.Frag) (mg : Str → Option Value) (base : Heap) (k : Nat) (f : Addr) (fd : FuncData) (ps : List Str) (sp : Sp) : Prop where
  len : ∀ vs H Q E, sp vs H Q E → vs.length = ps.length
  run : ∀ (A : Around) (outer : List Env) (s : Shared) (H : Hp) (args : Args) (us : List Value) (vs : List V) (Q : VK) (E : XK), Room k A → A.guards = some [] → Env0 P w K mg base A outer s H → BindsTo s fd args (ps.zip us) → Vals vs us → sp vs H Q E →
    codeAny (model P w) A (.call (.ref f) args) (CR CX0 outer P w H s Q E) s
section
variable {P : Program} {w : World} {K : PySem.W.Frag} {mg : Str → Option Value} {base : Heap}
theorem Fun.okG {x qual : Str} {st : Stmt} {f : Addr} {fd : FuncData} {N ps : List Str} {k : Nat} {sp : Sp} (F : Fun K x qual st f fd) (S : FnScope N ps (defScope st)) (len : ∀ vs H Q E, sp vs H Q E → vs.length = ps.length)
    (hbody : ∀ (cdv : Value) (A : Around) (outer : List Env) (s : Shared) (H : Hp) (vs : List V) (Q : VK) (E : XK), Room k (A.deeper (envOfC qual (defScope st) s.heap.objs.size f cdv)) → A.guards = some [] → sp vs H Q E →
      ∃ t, PSs (cxOf CX0 P w K mg base N qual (defScope st) f cdv A outer s H E).nox (defBody st) t ∧ t { nx := fun _ H' => Q .non H', rt := Q } (start N vs) H) : FnG P w K mg base (k + 1) f fd ps sp := by
  obtain ⟨oc, od, kV, doc, pm, an, cdv, ct, osl, rfl, lk, hcd⟩ := F.ex
  refine ⟨len, fun A outer s H args us vs Q E hr hgd e0 hb r hsp => ?_⟩
  have KX : K.In s.heap := e0.mod.kin.keeps fun b o e => (e0.bs b o e).1
  have lim : s.heap.NoLimit := e0.mod.nolimit.keeps fun b o e => (e0.bs b o e).1
  have kinds : ∀ y ∈ ps.zip us, (defScope st).names.lookup y.1 = some .local ∨ ((defScope st).names.lookup y.1 = some .cell ∧ ((cellsFrom (s.heap.objs.size + 1) (defScope st).names []).lookup y.1).isSome = true) := by
    rintro ⟨n, v⟩ hy
    rcases S.par n (List.of_mem_zip hy).1 with q | q
    · exact .inl q
    · exact .inr ⟨q, PySem.W.cellsFrom_some _ _ _ (.inl q)⟩
  refine codeAny_call_function hr.depth (KX _ _ lk) rfl S.co S.gen rfl (PySem.W.codeRec_of KX hcd) (hb _ _ _ _ ?_)
  refine wpAny_newFunctionEnv_cells S.kind kinds fun env he s1 x1 => ?_
  subst he
  refine ⟨lim.keeps x1.toInCall.keep, codeAny_func ?_⟩
  obtain ⟨t, ht, hq⟩ := hbody cdv A outer s H vs Q E (hr.deeper _) hgd hsp
  have I : Inv (cxOf CX0 P w K mg base N qual (defScope st) f cdv A outer s H E) [] (start N vs) H s1 := inv_start S hr.hd e0 (len _ _ _ _ hsp) r x1
  refine wpAny_mono (ht.nox.run [] s1 (start N vs) H _ I hq) (fun fl s' hs => ?_) fun e s' hs => hs
  match fl, hs with
  | .ret u, ⟨v, σ', H', J, rv, q⟩ => exact ⟨v, H', J.os, J.bare, J.base, J.hok, rv, q⟩
  | .next, ⟨σ', H', J, q⟩ => exact ⟨.non, H', J.os, J.bare, J.base, J.hok, rfl, q⟩
  | .brk, ⟨_, _, _, q⟩ => exact False.elim q
  | .cont, ⟨_, _, _, q⟩ => exact False.elim q
end
section
variable {X : Cx} {k : Nat} {f : Addr} {fd : FuncData} {ps : List Str} {sp : Sp} {x : Str} {p pos : Pos} {e : Expr} {es : List Expr} {t : TA}
theorem pe_callG (F : FnG X.prog X.w X.K X.mg X.base k f fd ps sp) (hr : Room k X.A) (hgd : X.A.guards = some []) (hg : Gl X x) (hm : X.mg x = some (.ref f)) (hk : PySem.W.keepIn X.K (.ref f) = true) (hb : Binds X.K fd ps [])
    (ha : PA X (e :: es) t) (hdb : (x == ("__debug__" : Str)) = false := by decide) (he : starEach (e :: es) X.env = (false, eval e X.env) :: starEach es X.env := by rfl) (hpl : (backTo pos (starEach es X.env)).any (·.1) = false := by rfl) :
    PE X (.Call (.Name x p) (e :: es) [] pos) (tCall sp [] E0 t) := by
  refine ⟨fun pins s σ H Q I h => wpAny_Call_Name_kw (ld_glob I hg hm ?_ hdb)⟩
  refine PySem.W.callWith_K (h₀ := X.base) I.ok.mod.kin hk (thn (ha.run pos pins s σ H _ I h) fun us s1 ⟨vs, H1, I1, r, q⟩ => ⟨I1.kIn, ?_⟩) he hpl
  have q : sp (vs ++ []) H1 Q E0 := q
  rw [List.append_nil] at q
  have hl : (us ++ []).length = ps.length := by
    rw [List.append_nil, ← r.length]
    exact F.len _ _ _ _ q
  have hbt := hb s1 us I1.kIn hl
  rw [List.append_nil] at hbt
  refine wpAny_call (codeAny_mono (F.run X.A X.stack s1 H1 ⟨us, []⟩ us vs Q E0 hr hgd I1.env0 hbt r q) fun rr s' hq => ?_)
  match rr, hq with
  | .error e, hq => exact False.elim hq
  | .ok (.ret u), hq => exact I1.after hq
  | .ok .next, hq => exact False.elim hq
  | .ok .brk, hq => exact False.elim hq
  | .ok .cont, hq => exact False.elim hq
end
end Ln


set_option Elab.async false
set_option linter.all false
set_option maxRecDepth 100000
set_option maxHeartbeats 4000000
namespace Ln
open PySem PySem.Spec PyProof.Rows L2 GxR
theorem scRight : FnScope ["initial", "happened", "moves", "shown", "rows", "gone", "counts", "order", "turn", "told", "here", "event"] ["initial", "happened", "moves"] (defScope sRight) := ⟨rfl, rfl, rfl, by decide +kernel, rfl, by decide +kernel, by decide +kernel⟩
def sw2 {α : Type} : List α → List α → List α
  | [], [x, y] => [y, x]
  | _, _ => []
def sw3 {α : Type} : List α → List α → List α
  | [], [x, y, z] => [z, y, x]
  | _, _ => []
theorem HistAt.kp {K : PySem.W.Frag} {Ps : List Addr} {H H1 : Hp} {a l m : Addr} {xs : List Str} {as : List Addr} {es : List Ev} {sd : List Str} (h : HistAt K H a l m xs as es sd) (k : Kp Ps H H1) (hT : Tabs Ps H) : HistAt K H1 a l m xs as es sd :=
  ⟨h.lane.kp k hT, h.laneB, h.log.kp k hT, h.logB, k.seqL hT h.mv, h.len, h.sides⟩
theorem Same.kp {Ps : List Addr} {H H1 : Hp} (h : L2.Same H H1) (hT : Tabs Ps H) : Kp Ps H H1 := ⟨fun b o e _ => h b o e, fun p hp => by
  obtain ⟨ps, e, t⟩ := hT p hp
  exact ⟨ps, h _ _ e, t⟩⟩
theorem logB_cars : ∀ (es : List Ev) (us : List Str) (n : Nat), logB us n es = true → ∀ c ∈ arrs es, carB c = true
  | .inn c :: r, us, n, h, d, hd => by
    have h : (if carB c = true ∧ ¬ c ∈ us then logB (c :: us) (n + 1) r else false) = true := h
    by_cases q : carB c = true ∧ ¬ c ∈ us
    · rw [if_pos q] at h
      rcases List.mem_cons.mp (show d ∈ c :: arrs r from hd) with e | e
      · rw [e]
        exact q.1
      · exact logB_cars r _ _ h d e
    · rw [if_neg q] at h
      cases h
  | .out :: r, us, n, h, d, hd => by
    have h : (if 0 < n then logB us (n - 1) r else false) = true := h
    by_cases q : 0 < n
    · rw [if_pos q] at h
      exact logB_cars r _ _ h d hd
    · rw [if_neg q] at h
      cases h
theorem mem_arrs {c : Str} : ∀ {es : List Ev}, Ev.inn c ∈ es → c ∈ arrs es
  | .inn d :: r, h => by
    rcases List.mem_cons.mp h with e | e
    · injection e with e
      rw [e]
      exact List.mem_cons_self
    · exact List.mem_cons_of_mem _ (mem_arrs e)
  | .out :: r, h => by
    rcases List.mem_cons.mp h with e | e
    · cases e
    · exact mem_arrs (es := r) e
/-! ### the data shown -/
def Ev.dat : Ev → PyData
  | .inn c => .tuple [.str "in", .str c]
  | .out => .tuple [.str "out"]
def strD (xs : List Str) : List PyData := xs.map PyData.str
def natD (ns : List Nat) : List PyData := ns.map fun n => PyData.int (n : Nat)
def dHist (xs : List Str) (es : List Ev) (sd : List Str) : PyData := .list [.tuple (strD xs), .list (es.map Ev.dat), .list (strD sd)]
def dTold (cs : List Nat) (os lane gone : List Str) : PyData := .list [.list (natD cs), .list (strD os), .tuple [.tuple (strD lane), .list (strD gone)]]
theorem dp_nats {K : PySem.W.Frag} {H : Hp} : ∀ ns : List Nat, DpAll K H (ns.map fun n => V.int (n : Nat)) (natD ns)
  | [] => .nil
  | n :: r => .cons (.int _) (dp_nats r)
theorem dp_evs {K : PySem.W.Frag} {H : Hp} : ∀ {as : List Addr} {es : List Ev}, EvsAt K H as es → DpAll K H (as.map V.ref) (es.map Ev.dat)
  | _, _, .nil => .nil
  | _, .inn c :: r, .cons h t => .cons (.tup h (.cons (.str _) (.cons (.str _) .nil))) (dp_evs t)
  | _, .out :: r, .cons h t => .cons (.tup h (.cons (.str _) .nil)) (dp_evs t)
theorem gd_in : PyData.strOk "in" = true := by decide +kernel
theorem gd_out : PyData.strOk "out" = true := by decide +kernel
theorem gd_side {x : Str} (h : sideB x = true) : Gd (.str x) 0 4 := by
  rcases side_cases h with rfl | rfl
  · exact Gd.str (by decide +kernel) (by decide +kernel)
  · exact Gd.str (by decide +kernel) (by decide +kernel)
theorem gd_ev {e : Ev} (h : ∀ c, e = .inn c → carB c = true) : Gd e.dat 1 20 := by
  cases e with
  | inn c => exact (GdA.tuple (GdA.cons (Gd.str gd_in (by decide +kernel)) (GdA.cons (Gd.str (car_ok (h c rfl)) (car_len (h c rfl))) GdA.nil))).mono (Nat.le_refl _) (by decide)
  | out => exact (GdA.tuple (GdA.cons (Gd.str gd_out (by decide +kernel)) GdA.nil)).mono (Nat.le_refl _) (by decide)
theorem gd_strs {xs : List Str} (h : ∀ x ∈ xs, carB x = true) (hl : xs.length ≤ 1000) : GdA (strD xs) 0 5000 := by
  have a := GdA.map (f := PyData.str) (dep := 0) (w := 4) xs fun x hx => Gd.str (car_ok (h x hx)) (car_len (h x hx))
  exact ⟨a.lay, a.dep, Nat.le_trans a.wt (by omega), a.iss, a.sh, a.nd⟩
theorem gd_hist {xs : List Str} {es : List Ev} {sd : List Str} (h1 : ∀ x ∈ xs, carB x = true) (h2 : ∀ c, Ev.inn c ∈ es → carB c = true) (h3 : sd.all sideB = true) (l1 : xs.length ≤ 400) (l2 : es.length ≤ 400) (l3 : sd.length ≤ 400) : Gd (dHist xs es sd) 4 100000 := by
  have a1 := gd_strs h1 (by omega)
  have a2 := GdA.map (f := Ev.dat) (dep := 1) (w := 20) es fun e he => gd_ev fun c z => h2 c (z ▸ he)
  have a3 := GdA.map (f := PyData.str) (dep := 0) (w := 4) sd fun x hx => gd_side (List.all_eq_true.mp h3 x hx)
  have b1 : Gd (.tuple (strD xs)) 2 10000 := a1.tuple.mono (by decide) (by decide)
  have b2 : Gd (.list (es.map Ev.dat)) 2 10000 := a2.list.mono (by decide) (by omega)
  have b3 : Gd (.list (strD sd)) 2 10000 := a3.list.mono (by decide) (by omega)
  exact (GdA.list (GdA.cons b1 (GdA.cons b2 (GdA.cons b3 GdA.nil)))).mono (by decide) (by decide)
theorem gd_told {cs : List Nat} {os lane gone : List Str} (h0 : ∀ c ∈ cs, c ≤ 1000) (h1 : ∀ x ∈ os, carB x = true) (h2 : ∀ x ∈ lane, carB x = true) (h3 : ∀ x ∈ gone, carB x = true) (l0 : cs.length ≤ 1000) (l1 : os.length ≤ 1000) (l2 : lane.length ≤ 1000) (l3 : gone.length ≤ 1000) :
    Gd (dTold cs os lane gone) 5 200000 := by
  have a0 := GdA.map (f := fun n : Nat => PyData.int (n : Nat)) (dep := 0) (w := 11) cs fun c hc => Gd.int (h0 c hc)
  have b0 : Gd (.list (natD cs)) 3 20000 := a0.list.mono (by decide) (by omega)
  have b1 : Gd (.list (strD os)) 3 20000 := (gd_strs h1 l1).list.mono (by decide) (by decide)
  have b2 : Gd (.tuple (strD lane)) 2 10000 := (gd_strs h2 l2).tuple.mono (by decide) (by decide)
  have b3 : Gd (.list (strD gone)) 2 10000 := (gd_strs h3 l3).list.mono (by decide) (by decide)
  have b4 : Gd (.tuple [.tuple (strD lane), .list (strD gone)]) 3 30000 := (GdA.tuple (GdA.cons b2 (GdA.cons b3 GdA.nil))).mono (by decide) (by decide)
  exact (GdA.list (GdA.cons b0 (GdA.cons b1 (GdA.cons b4 GdA.nil)))).mono (by decide) (by decide)
/-- every car of a history is a car of the lane or one that arrives -/
theorem atR_mem {xs : List Str} {es : List Ev} {sd : List Str} : ∀ i x, x ∈ (atR xs es sd i).1 ∨ x ∈ (atR xs es sd i).2 → x ∈ xs ∨ x ∈ arrs es
  | 0, x, h => by
    rcases h with h | h
    · exact .inl h
    · cases h
  | i + 1, x, h => by
    have ih := atR_mem (xs := xs) (es := es) (sd := sd) i x
    unfold atR at h ih
    rw [List.take_add_one, List.foldl_append] at h
    cases hq : (es.zip sd)[i]? with
    | none =>
      rw [hq] at h
      exact ih h
    | some q =>
      obtain ⟨e, y⟩ := q
      have hmem : e ∈ es := by
        rw [List.getElem?_zip_eq_some] at hq
        exact List.mem_of_getElem? hq.1
      rw [hq] at h
      simp only [Option.toList_some, List.foldl_cons, List.foldl_nil] at h
      generalize List.foldl stepR (xs, []) (List.take i (es.zip sd)) = pr at *
      cases e with
      | inn c =>
        have h : x ∈ (if y = "L" then c :: pr.1 else pr.1 ++ [c]) ∨ x ∈ pr.2 := h
        rcases h with h | h
        · have : x = c ∨ x ∈ pr.1 := by
            split at h
            · exact List.mem_cons.mp h
            · rcases List.mem_append.mp h with h | h
              · exact .inr h
              · exact .inl (List.mem_singleton.mp h)
          rcases this with rfl | h
          · exact .inr (mem_arrs hmem)
          · exact ih (.inl h)
        · exact ih (.inr h)
      | out =>
        have h : x ∈ (if y = "L" then (pr.1.drop 1, pr.2 ++ pr.1.take 1) else (pr.1.dropLast, pr.2 ++ pr.1.drop (pr.1.length - 1)) : List Str × List Str).1 ∨ x ∈ (if y = "L" then (pr.1.drop 1, pr.2 ++ pr.1.take 1) else (pr.1.dropLast, pr.2 ++ pr.1.drop (pr.1.length - 1)) : List Str × List Str).2 := h
        have hm : x ∈ pr.1 ∨ x ∈ pr.2 := by
          split at h
          · rcases h with h | h
            · exact .inl (List.mem_of_mem_drop h)
            · rcases List.mem_append.mp h with h | h
              · exact .inr h
              · exact .inl (List.mem_of_mem_take h)
          · rcases h with h | h
            · exact .inl (List.dropLast_subset _ h)
            · rcases List.mem_append.mp h with h | h
              · exact .inr h
              · exact .inl (List.mem_of_mem_drop h)
        exact ih hm
end Ln


set_option Elab.async false
set_option linter.all false
set_option maxRecDepth 100000
set_option maxHeartbeats 8000000
namespace Ln
open PySem PySem.Spec PyProof.Rows L2 GxR
/-- the numbers of a history as a law has them: who stands where -/
structure RightAt (K : PySem.W.Frag) (H : Hp) (a l m r g cq oq : Addr) (xs : List Str) (as : List Addr) (es : List Ev) (sd : List Str) (rs : List Addr) : Prop where
  hist : HistAt K H a l m xs as es sd
  rows : H r = some (.lst (rs.map V.ref))
  last : ∃ x, rs.getLast? = some x ∧ SqT K H x ((atR xs es sd es.length).1.map V.str)
  gone : H g = some (.lst ((atR xs es sd es.length).2.map V.str))
  cnts : H cq = some (.lst (((List.range (es.length + 1)).map fun i => (atR xs es sd i).1.length).map fun n => V.int (n : Nat)))
  ordr : H oq = some (.lst ((xs ++ arrs es).map V.str))
theorem RightAt.kp {K : PySem.W.Frag} {Ps : List Addr} {H H1 : Hp} {a l m r g cq oq : Addr} {xs : List Str} {as : List Addr} {es : List Ev} {sd : List Str} {rs : List Addr} (h : RightAt K H a l m r g cq oq xs as es sd rs) (k : Kp Ps H H1) (hT : Tabs Ps H) :
    RightAt K H1 a l m r g cq oq xs as es sd rs :=
  ⟨h.hist.kp k hT, k.lst hT h.rows, let ⟨x, e, q⟩ := h.last; ⟨x, e, k.seqT hT q⟩, k.lst hT h.gone, k.lst hT h.cnts, k.lst hT h.ordr⟩
theorem last_at {α : Type} {rs : List α} {x : α} (h : rs.getLast? = some x) : ∃ q, rs = q ++ [x] := by
  cases rs with
  | nil => cases h
  | cons y r =>
    rw [List.getLast?_eq_getLast (List.cons_ne_nil y r)] at h
    exact ⟨_, by rw [← Option.some.inj h]; exact (List.dropLast_concat_getLast (List.cons_ne_nil y r)).symm⟩
abbrev csOf (xs : List Str) (es : List Ev) (sd : List Str) : List Nat := (List.range (es.length + 1)).map fun i => (atR xs es sd i).1.length
theorem dp_told {K : PySem.W.Frag} {H : Hp} {tl z nn rp t d : Addr} {cs : List Nat} {os lane gone : List Str} (h0 : SqL K H tl [.ref z, .ref nn, .ref rp]) (h1 : SqL K H z (cs.map fun n => V.int (n : Nat))) (h2 : SqL K H nn (os.map V.str))
    (h3 : SqT K H rp [.ref t, .ref d]) (h4 : SqT K H t (lane.map V.str)) (h5 : SqL K H d (gone.map V.str)) : Dp K H (.ref tl) (dTold cs os lane gone) :=
  .lst h0 (.cons (.lst h1 (dp_nats cs)) (.cons (.lst h2 (dp_strs os)) (.cons (.tup h3 (.cons (.tup h4 (dp_strs lane)) (.cons (.lst h5 (dp_strs gone)) .nil))) .nil)))
theorem szs_cs {xs : List Str} {es : List Ev} {sd : List Str} (hB : logB xs xs.length es = true) (hl : sd.length = es.length) : (szs xs.length es).map V.int = (csOf xs es sd).map fun n => V.int (n : Nat) := by
  rw [szs_eq hB hl, List.map_map, List.map_map]
  rfl
/-- the numbers, the cars and the end of a history, read -/
structure Told (Ps : List Addr) (xs : List Str) (es : List Ev) (sd : List Str) (H H8 : Hp) (z nn rp t d : Addr) : Prop where
  kp : Kp Ps H H8
  z0 : H z = none
  n0 : H nn = none
  d0 : H d = none
  z1 : H8 z = some (.lst ((csOf xs es sd).map fun n => V.int (n : Nat)))
  n1 : H8 nn = some (.lst ((xs ++ arrs es).map V.str))
  r1 : H8 rp = some (.tup [.ref t, .ref d])
  t1 : H8 t = some (.tup ((atR xs es sd es.length).1.map V.str))
  d1 : H8 d = some (.lst ((atR xs es sd es.length).2.map V.str))
  zn : z ≠ nn
  zd : z ≠ d
  nd : nn ≠ d
theorem Told.of {K : PySem.W.Frag} {Ps : List Addr} {H H1 H2 H3 : Hp} {a l m z nn rp t d : Addr} {xs : List Str} {as : List Addr} {es : List Ev} {sd : List Str} (hh : HistAt K H a l m xs as es sd) (hT : Tabs Ps H) (k1 : Kp Ps H H1) (z0 : H z = none) (z1 : H1 z = some (.lst ((szs xs.length es).map V.int)))
    (k2 : Kp Ps H1 H2) (n0 : H1 nn = none) (n1 : H2 nn = some (.lst ((xs ++ arrs es).map V.str))) (k3 : Kp Ps H2 H3) (d0 : H2 d = none) (r1 : H3 rp = some (.tup [.ref t, .ref d])) (t1 : H3 t = some (.tup ((atR xs es sd es.length).1.map V.str))) (d1 : H3 d = some (.lst ((atR xs es sd es.length).2.map V.str))) :
    Told Ps xs es sd H H3 z nn rp t d := by
  rw [szs_cs hh.logB hh.len] at z1
  have z2 := k2.lst k1.tab z1
  exact ⟨(k1.trans k2).trans k3, z0, k1.free hT n0, (k1.trans k2).free hT d0, k3.lst k2.tab z2, k3.lst k2.tab n1, r1, t1, d1, ne_of_none z1 n0, ne_of_none z2 d0, ne_of_none n1 d0⟩
theorem Told.new {Ps : List Addr} {H H8 : Hp} {z nn rp t d p : Addr} {xs : List Str} {es : List Ev} {sd : List Str} {o : HO} (h : Told Ps xs es sd H H8 z nn rp t d) (hT : Tabs Ps H) (hp : H8 p = none) : Told Ps xs es sd H (upd H8 p o) z nn rp t d :=
  ⟨h.kp.upd hT (h.kp.free hT hp), h.z0, h.n0, h.d0, by rw [upd_ne (ne_of_none h.z1 hp)]; exact h.z1, by rw [upd_ne (ne_of_none h.n1 hp)]; exact h.n1, by rw [upd_ne (ne_of_none h.r1 hp)]; exact h.r1, by rw [upd_ne (ne_of_none h.t1 hp)]; exact h.t1, by rw [upd_ne (ne_of_none h.d1 hp)]; exact h.d1, h.zn, h.zd, h.nd⟩
theorem Told.dp {K : PySem.W.Frag} {Ps : List Addr} {H H8 : Hp} {z nn rp t d tl : Addr} {xs : List Str} {es : List Ev} {sd : List Str} (h : Told Ps xs es sd H H8 z nn rp t d) (ht : H8 tl = some (.lst [.ref z, .ref nn, .ref rp])) :
    Dp K H8 (.ref tl) (dTold (csOf xs es sd) (xs ++ arrs es) (atR xs es sd es.length).1 (atR xs es sd es.length).2) :=
  dp_told (SqL.of ht) (SqL.of h.z1) (SqL.of h.n1) (SqT.of h.r1) (SqT.of h.t1) (SqL.of h.d1)
section
variable {P : Program} {w : World} {K : PySem.W.Frag} {mg : Str → Option Value} {base : Heap} {Ps : List Addr}
def spRight (K : PySem.W.Frag) (Ps : List Addr) : Sp := fun vs H Q _ => ∃ (a l m : Addr) (xs : List Str) (as : List Addr) (es : List Ev) (sd : List Str), vs = [.ref a, .ref l, .ref m] ∧ HistAt K H a l m xs as es sd ∧ Tabs Ps H ∧ ∀ H', Kp Ps H H' → Q (.bl true) H'
theorem ok_right {f fZ fN fR fW : Addr} {fd fdZ fdN fdR fdW : FuncData} (F : Fun K "_law_right" "_law_right" sRight f fd) (B : Bi mg) (B2 : Bl mg)
    (GZ : FnOk P w K mg base CX0 8 fZ fdZ ["start", "log"] (spSizes K Ps)) (mgZ : mg "sizes" = some (.ref fZ)) (kZ : PySem.W.keepIn K (.ref fZ) = true) (bZ : Binds K fdZ ["start", "log"] []) (bkZ : KBinds K fdZ ["start", "log"] ["log", "start"] sw2 sw2)
    (GN : FnOk P w K mg base CX0 8 fN fdN ["start", "log"] (spNumbers K Ps)) (mgN : mg "numbers" = some (.ref fN)) (kN : PySem.W.keepIn K (.ref fN) = true) (bN : Binds K fdN ["start", "log"] []) (bkN : KBinds K fdN ["start", "log"] ["log", "start"] sw2 sw2)
    (GR : FnOk P w K mg base CX0 8 fR fdR ["start", "log", "sides"] (spReplay K Ps)) (mgR : mg "replay" = some (.ref fR)) (kR : PySem.W.keepIn K (.ref fR) = true) (bR : Binds K fdR ["start", "log", "sides"] []) (bkR : KBinds K fdR ["start", "log", "sides"] ["sides", "log", "start"] sw3 sw3)
    (GW : FnOk P w K mg base CX0 1 fW fdW ["initial", "happened", "moves"] (spRows K)) (mgW : mg "_law_rows" = some (.ref fW)) (kW : PySem.W.keepIn K (.ref fW) = true) (bW : Binds K fdW ["initial", "happened", "moves"] []) :
    FnG P w K mg base 9 f fd ["initial", "happened", "moves"] (spRight K Ps) := by
  refine Fun.okG F scRight (fun vs H Q E h => ?_) (fun cdv A outer s H vs Q E hr hgd h => ?_)
  · obtain ⟨a, l, m, xs, as, es, sd, rfl, _⟩ := h
    rfl
  · obtain ⟨a, l, m, xs, as, es, sd, rfl, hh, hT, q⟩ := h
    have hu : A.units + 3 + 64 < cLine := hr.units
    refine ⟨_, pss_cons (ps_set (i := 3) scRight.nd rfl (.inl rfl) (pe_callB (cr_repr hgd hu) (by rfl) B2.rep (by decide +kernel) (pa_cons (pe_lst (pa_cons (pv 0) (pa_cons (pv 1) (pa_cons (pv 2) pa_nil)))) pa_nil)))
      (pss_cons (ps_asg (pe_call GW (hr.mono (by decide)) (by rfl) mgW kW bW .nil pass0 (pa_cons (pv 0) (pa_cons (pv 1) (pa_cons (pv 2) pa_nil)))) (pg_tup (by rfl) (pgs_cons (pg_name (i := 4) scRight.nd rfl (.inl rfl)) (pgs_cons (pg_name (i := 5) scRight.nd rfl (.inl rfl)) pgs_nil))))
      (pss_cons (ps_setLc (i := 6) (own := [("here", 10)]) (g := gName 10) (tt := tYes) (te := tCB (rLenSeq K) (tCons (tVar 10) tNil)) (by rfl) scRight.nd rfl rfl (sw_true rfl rfl rfl (by decide +kernel)) (pi_list (pv 4))
        (blkOk_by (own := [("here", 10)]) (N := ["initial", "happened", "moves", "shown", "rows", "gone", "counts", "order", "turn", "told", "here", "event"]) (sc := defScope sRight) (by decide +kernel))
        (fun _ _ _ _ _ => pg_name (i := 10) scRight.nd rfl (Or.inl rfl)) (fun _ _ _ _ _ => pts_nil) (fun _ _ _ _ _ => pe_callB call_len_seq (by rfl) B.len PySem.boot_len (pa_cons (pv 10) pa_nil)))
      (pss_cons (ps_set (i := 7) scRight.nd rfl (.inl rfl) (pe_op op_cat (pe_callTy call_list_of (by rfl) B.lst (by decide +kernel) (pa_cons (pv 0) pa_nil))
        (pe_lc (own := [("event", 11)]) (g := gName 11) (by rfl) scRight.nd (pi_list (pv 1)) (blkOk_by (own := [("event", 11)]) (N := ["initial", "happened", "moves", "shown", "rows", "gone", "counts", "order", "turn", "told", "here", "event"]) (sc := defScope sRight) (by decide +kernel))
          (fun _ _ _ _ _ => pg_name (i := 11) scRight.nd rfl (Or.inl rfl)) (fun _ _ _ _ _ => pts_one (pt_cmpR op_eq (pe_ix (r := rIxT K) ix_tup (pv 11) pe_int (fun _ _ => rfl)) pe_str (nomark _))) (fun _ _ _ _ _ => pe_ix (r := rIxT K) ix_tup (pv 11) pe_int (fun _ _ => rfl)))))
      (pss_cons (ps_for PassesOwn.never rfl (pi_range1 (by rfl) B2.rng (pa_cons pe_int pa_nil)) (pg_name (i := 8) scRight.nd rfl (.inl rfl))
        (pss_cons (ps_set (i := 9) scRight.nd rfl (.inl rfl) (pe_lst (pa_cons (pe_call GZ hr (by rfl) mgZ kZ bZ .nil pass0 (pa_cons (pv 0) (pa_cons (pv 1) pa_nil))) (pa_cons (pe_call GN hr (by rfl) mgN kN bN .nil pass0 (pa_cons (pv 0) (pa_cons (pv 1) pa_nil))) (pa_cons (pe_call GR hr (by rfl) mgR kR bR .nil pass0 (pa_cons (pv 0) (pa_cons (pv 1) (pa_cons (pv 2) pa_nil)))) pa_nil)))))
        (pss_cons (ps_if (PW.pt (pw_or (pt_cmpR op_ne (pe_callB (cr_repr hgd hu) (by rfl) B2.rep (by decide +kernel) (pa_cons (pv 9) pa_nil)) (pe_callB (cr_repr hgd hu) (by rfl) B2.rep (by decide +kernel) (pa_cons (pe_lst (pa_cons (pv 6) (pa_cons (pv 7) (pa_cons (pe_tup (pa_cons (pe_ix ix_list (pv 4) (pe_un un_neg pe_int) (fun _ _ => rfl)) (pa_cons (pv 5) pa_nil))) pa_nil)))) pa_nil)) (nomark _))
            (pw_or1 (pt_cmpR op_ne (pe_callB (cr_repr hgd hu) (by rfl) B2.rep (by decide +kernel) (pa_cons (pe_lst (pa_cons (pv 0) (pa_cons (pv 1) (pa_cons (pv 2) pa_nil)))) pa_nil)) (pv 3) (nomark _)))))
          (pss_one (ps_ret pe_bl)) pss_nil)
        (pss_cons (ps_expr (pe_bm PySem.F.plainAttrs_list PySem.F.slot_list_append PySem.F.type_list_append mt_append (pe_ix ix_list (pv 9) pe_int (fun _ _ => rfl)) (pa_cons pe_int pa_nil)))
        (pss_cons (ps_expr (pe_bm0 PySem.F.plainAttrs_list PySem.F.slot_list_clear PySem.F.type_list_clear mt_clear (pe_ix ix_list (pv 9) pe_int (fun _ _ => rfl))))
        (pss_one (ps_expr (pe_bm PySem.F.plainAttrs_list PySem.F.slot_list_append PySem.F.type_list_append mt_append (pe_ix ix_tup (pe_ix ix_list (pv 9) pe_int (fun _ _ => rfl)) pe_int (fun _ _ => rfl)) (pa_cons pe_str pa_nil)))))))))
      (pss_cons (ps_set (i := 9) scRight.nd rfl (.inl rfl) (pe_lst (pa_cons (pe_callK0 GZ hr (by rfl) mgZ kZ bkZ pass0 (pk_cons (pv 1) (pk_cons (pv 0) pk_nil))) (pa_cons (pe_callK0 GN hr (by rfl) mgN kN bkN pass0 (pk_cons (pv 1) (pk_cons (pv 0) pk_nil))) pa_nil))))
      (pss_one (ps_ret (pe_cmpR (op_eqD hu) (pe_op op_cat (pv 9) (pe_lst (pa_cons (pe_callK0 GR hr (by rfl) mgR kR bkR pass0 (pk_cons (pv 2) (pk_cons (pv 1) (pk_cons (pv 0) pk_nil)))) pa_nil)))
        (pe_lst (pa_cons (pv 6) (pa_cons (pv 7) (pa_cons (pe_tup (pa_cons (pe_ix ix_list (pv 4) (pe_un un_neg pe_int) (fun _ _ => rfl)) (pa_cons (pv 5) pa_nil))) pa_nil)))) (nomark _))))))))), ?_⟩
    have hxc : ∀ x ∈ xs, carB x = true := fun x hx => by
      have h := hh.laneB
      unfold laneB at h
      rw [Bool.and_eq_true] at h
      exact List.all_eq_true.mp h.1 x hx
    have hac : ∀ x ∈ arrs es, carB x = true := logB_cars es xs _ hh.logB
    have few1 := hh.lane.few
    have few2 := hh.log.few
    have hsl := hh.len
    have hGh : Gd (dHist xs es sd) 4 100000 := gd_hist hxc (fun c hc => hac c (mem_arrs hc)) hh.sides few1 few2 (by omega)
    have hGt : Gd (dTold (csOf xs es sd) (xs ++ arrs es) (atR xs es sd es.length).1 (atR xs es sd es.length).2) 5 200000 := by
      have hle := arrs_len es
      refine gd_told (fun c hc => ?_) (fun x hx => ?_) (fun x hx => ?_) (fun x hx => ?_) ?_ ?_ ?_ ?_
      · obtain ⟨i, hi, rfl⟩ := List.mem_map.mp hc
        have := (atR_le (xs := xs) (es := es) (sd := sd) i).1
        have := List.mem_range.mp hi
        omega
      · rcases List.mem_append.mp hx with h | h
        · exact hxc x h
        · exact hac x h
      · rcases atR_mem _ x (.inl hx) with h | h
        · exact hxc x h
        · exact hac x h
      · rcases atR_mem _ x (.inr hx) with h | h
        · exact hxc x h
        · exact hac x h
      · rw [List.length_map, List.length_range]
        omega
      · rw [List.length_append]
        omega
      · have := (atR_le (xs := xs) (es := es) (sd := sd) es.length).1
        omega
      · have := (atR_le (xs := xs) (es := es) (sd := sd) es.length).2
        omega
    have dph : ∀ {H' : Hp} {p : Addr}, Kp Ps H H' → H' p = some (.lst [V.ref a, V.ref l, V.ref m]) → Dp K H' (.ref p) (dHist xs es sd) := fun {H'} {p} k e => by
      have h' := hh.kp k hT
      exact .lst (SqL.of e) (.cons (.tup h'.lane.at_ (dp_strs xs)) (.cons (.lst h'.log.at_ (dp_evs h'.log.evs)) (.cons (.lst h'.mv (dp_strs sd)) .nil)))
    refine ⟨.ref a, rfl, .ref l, rfl, .ref m, rfl, by show 3 ≤ sizeLine; decide, fun p0 hp0 => ⟨p0, dHist xs es sd, 4, 100000, rfl, dph (Kp.new hT hp0) upd_same, hGh, by decide, by decide, ?_⟩⟩
    have k0 : Kp Ps H (upd H p0 (.lst [V.ref a, V.ref l, V.ref m])) := Kp.new hT hp0
    generalize upd H p0 (.lst [V.ref a, V.ref l, V.ref m]) = H0 at k0 ⊢
    refine ⟨.ref a, rfl, .ref l, rfl, .ref m, rfl, a, l, m, xs, as, es, sd, rfl, hh.kp k0 hT, fun H1 p r g rs sm hp hr0 hg0 hrg hp1 hr1 hrl hrow hg1 => ?_⟩
    have k1 : Kp Ps H H1 := k0.trans (Same.kp sm k0.tab)
    refine ⟨p, [.ref r, .ref g], rfl, SqT.of hp1, rfl, ?_⟩
    refine ⟨_, _, rfl, _, _, rfl, rfl, ?_⟩
    -- counts
    have hrlst : SqL K H1 r (rs.map V.ref) := SqL.of hr1
    refine ⟨.ref r, rfl, r, rfl, ⟨_, hrlst⟩, fun D hD => ?_⟩
    have hDr : D ≠ r := fun z => by
      rw [z, hr1] at hD
      cases hD
    refine lc_list (K := K) (a := r) (xs := rs.map V.ref) (fun i H' => Kp Ps H H' ∧ L2.Same H1 H' ∧ i ≤ es.length + 1 ∧ H' D = some (.lst (((csOf xs es sd).take i).map fun n => V.int (n : Nat)))) ?_ ?_ ?_ ?_
    · exact ⟨k1.upd hT (k1.free hT hD), Same.new (L2.Same.refl H1) hD, Nat.zero_le _, upd_same⟩
    · rintro i H' _ ⟨_, sm', _⟩
      exact sm'.seq hrlst
    · rintro i y H' hi ⟨kp, sm', hie, hD'⟩
      have hlt : i < rs.length := by
        have h1 := (List.getElem?_eq_some_iff.mp hi).1
        rw [List.length_map] at h1
        exact h1
      have hev : rs[i]? = some rs[i] := List.getElem?_eq_getElem hlt
      have hy : y = .ref rs[i] := by
        rw [List.getElem?_map, hev] at hi
        exact (Option.some.inj hi).symm
      subst hy
      have hrw := Same.seqT sm' (hrow i _ hev)
      refine ⟨rfl, ?_⟩
      unfold tYes
      refine iteT ⟨.ref rs[i], rfl, _, _, rfl, .inr hrw, _, hD', ?_, kp.upd hT (k1.free hT hD), Same.new sm' hD, by omega, ?_⟩
      · rw [List.length_map, List.length_take]
        exact small1000 (by omega)
      · rw [upd_same, List.length_map, List.take_add_one, List.getElem?_map, List.getElem?_range (by omega), List.map_append]
        rfl
    · rintro H2 ⟨k2, sm2, _, hD2⟩
      have hD2 : H2 D = some (.lst ((csOf xs es sd).map fun n => V.int (n : Nat))) := by
        rw [hD2, List.take_of_length_le (by rw [List.length_map, List.length_map, List.length_range]; omega)]
      have hr2 := sm2 _ _ hr1
      have hg2 := sm2 _ _ hg1
      have hrow2 : ∀ (j : Nat) (x : Addr), rs[j]? = some x → SqT K H2 x ((atR xs es sd j).1.map V.str) := fun j x hj => Same.seqT sm2 (hrow j x hj)
      -- order
      have hL2 := hh.lane.kp k2 hT
      have hE2 := hh.log.kp k2 hT
      refine ⟨.ref a, rfl, a, _, rfl, .inr hL2.at_, fun o ho => ?_⟩
      have smo : L2.Same H2 (upd H2 o (.lst (xs.map V.str))) := Same.new (L2.Same.refl H2) ho
      have hlen := Paired.length hh.log.evs
      refine ⟨.ref l, rfl, l, rfl, ⟨_, smo.seq hE2.at_⟩, fun D2 hDD2 => ?_⟩
      have hDo : D2 ≠ o := fun z => by
        rw [z, upd_same] at hDD2
        cases hDD2
      rw [upd_ne hDo] at hDD2
      refine lc_list (K := K) (a := l) (xs := as.map V.ref) (fun i H' => L2.Same H2 H' ∧ i ≤ es.length ∧ H' o = some (.lst (xs.map V.str)) ∧ H' D2 = some (.lst ((arrs (es.take i)).map V.str))) ?_ ?_ ?_ ?_
      · exact ⟨Same.new smo hDD2, Nat.zero_le _, by rw [upd_ne hDo.symm, upd_same], upd_same⟩
      · rintro i H' _ ⟨sm', _⟩
        exact sm'.seq hE2.at_
      · rintro i y H' hi ⟨sm', hie, ho', hD'⟩
        have hlt : i < es.length := by
          have h1 := (List.getElem?_eq_some_iff.mp hi).1
          rw [List.length_map] at h1
          omega
        have hev : es[i]? = some es[i] := List.getElem?_eq_getElem hlt
        obtain ⟨b, hb, hbt0⟩ := pair_at hE2.evs i _ hev
        have hbt := Same.seqT sm' hbt0
        have hy : y = .ref b := by
          rw [List.getElem?_map, hb] at hi
          exact (Option.some.inj hi).symm
        subst hy
        have htake : es.take (i + 1) = es.take i ++ [es[i]] := by rw [List.take_add_one, hev]; rfl
        refine ⟨rfl, ?_⟩
        cases hE2 : es[i] with
        | inn c =>
          rw [hE2] at hbt htake
          refine ⟨.ref b, rfl, b, _, 0, .str "in", rfl, rfl, hbt, atI_nat (j := 0) rfl, rfl, _, rfl, ?_⟩
          rw [decide_eq_true (rfl : V.str "in" = V.str "in")]
          refine iteT ⟨.ref b, rfl, b, _, 1, .str c, rfl, rfl, hbt, atI_nat (j := 1) rfl, _, hD', ?_, Same.new sm' hDD2, hlt, ?_, ?_⟩
          · rw [List.length_map]
            refine small1000 ?_
            have := arrs_len (es.take i)
            rw [List.length_take] at this
            omega
          · rw [upd_ne hDo.symm]
            exact ho'
          · rw [upd_same, htake, arrs_app, List.map_append]
            rfl
        | out =>
          rw [hE2] at hbt htake
          refine ⟨.ref b, rfl, b, _, 0, .str "out", rfl, rfl, hbt, atI_nat (j := 0) rfl, rfl, _, rfl, ?_⟩
          rw [decide_eq_false (fun z => ne_oi (V.str.inj z))]
          refine iteF ⟨sm', hlt, ho', ?_⟩
          rw [hD', htake, arrs_app]
          show _ = some (HO.lst ((arrs (es.take i) ++ []).map V.str))
          rw [List.append_nil]
      · rintro H3 ⟨sm3, hie, ho3, hD3⟩
        rw [List.length_map, hlen, List.take_length] at hD3
        refine ⟨o, D2, _, _, rfl, rfl, ho3, hD3, ?_, fun oq hoq => ?_⟩
        · have h3 := arrs_len es
          rw [List.length_map, List.length_map]
          exact Nat.le_of_lt (small1000 (by omega))
        have sm4 : L2.Same H2 (upd H3 oq (.lst (xs.map V.str ++ (arrs es).map V.str))) := Same.new sm3 (sm3.free hoq)
        have k4 : Kp Ps H (upd H3 oq (.lst (xs.map V.str ++ (arrs es).map V.str))) := k2.trans (Same.kp sm4 k2.tab)
        have RA : RightAt K (upd H3 oq (.lst (xs.map V.str ++ (arrs es).map V.str))) a l m r g D oq xs as es sd rs := by
          refine ⟨hh.kp k4 hT, sm4 _ _ hr2, ?_, sm4 _ _ hg2, sm4 _ _ hD2, by rw [upd_same, List.map_append]⟩
          have hlt : es.length < rs.length := by omega
          refine ⟨rs[es.length], ?_, Same.seqT sm4 (hrow2 _ _ (List.getElem?_eq_getElem hlt))⟩
          rw [List.getLast?_eq_getElem?, hrl]
          exact List.getElem?_eq_getElem hlt
        generalize upd H3 oq (.lst (xs.map V.str ++ (arrs es).map V.str)) = HS at RA k4 ⊢
        have kT := k4.tab
        refine ⟨2, rfl, by decide, by decide, ?_⟩
        refine for_range (lo := 0) (n := 2) (fun i σ H' => ∃ v8 v9 v10 v11 : Option V, σ = [some (.ref a), some (.ref l), some (.ref m), some (.str (dHist xs es sd).shown), some (.ref r), some (.ref g), some (.ref D), some (.ref oq), v8, v9, v10, v11] ∧ Kp Ps HS H') ?_ ?_ ?_
        · exact ⟨none, none, none, none, rfl, Kp.refl kT⟩
        · rintro i σ H4 hi ⟨v8, v9, v10, v11, rfl, kp⟩
          have R4 := RA.kp kp kT
          have T4 := kp.tab
          have hh4 := R4.hist
          refine ⟨.ref a, rfl, .ref l, rfl, a, l, xs, as, es, rfl, hh4.lane, hh4.laneB, hh4.log, hh4.logB, T4, fun H5 z k5 z0 z1 => ?_⟩
          have T5 := k5.tab
          have hh5 := hh4.kp k5 T4
          refine ⟨.ref a, rfl, .ref l, rfl, a, l, xs, as, es, rfl, hh5.lane, hh5.laneB, hh5.log, hh5.logB, T5, fun H6 nn k6 n0 n1 => ?_⟩
          have T6 := k6.tab
          have hh6 := hh5.kp k6 T5
          refine ⟨.ref a, rfl, .ref l, rfl, .ref m, rfl, a, l, m, xs, as, es, sd, rfl, hh6.lane, hh6.laneB, hh6.log, hh6.logB, hh6.mv, hh6.len, hh6.sides, T6, fun H7 rp t d k7 r0 t0 d0 r1 t1 d1 => ?_⟩
          have TO := Told.of hh4 T4 k5 z0 z1 k6 n0 n1 k7 d0 r1 t1 d1
          refine ⟨by show 3 ≤ sizeLine; decide, fun tl htl => ?_⟩
          have TO9 := TO.new T4 htl (o := .lst [.ref z, .ref nn, .ref rp])
          have htl9 : (upd H7 tl (.lst [.ref z, .ref nn, .ref rp])) tl = some (.lst [.ref z, .ref nn, .ref rp]) := upd_same
          generalize upd H7 tl (.lst [.ref z, .ref nn, .ref rp]) = H9 at TO9 htl9 ⊢
          have R9 := R4.kp TO9.kp T4
          refine ⟨.ref tl, rfl, tl, _, 5, 200000, rfl, TO9.dp htl9, hGt, by decide, by decide, ?_⟩
          -- what is asked for
          obtain ⟨xl, hxl, hxs⟩ := R9.last
          obtain ⟨rq, hrq⟩ := last_at hxl
          have hat : atI (rs.map V.ref) (-1) = some (.ref xl) := by
            rw [hrq, List.map_append]
            exact atI_last _ _
          refine ⟨.ref D, rfl, .ref oq, rfl, .ref r, rfl, 1, rfl, r, _, -1, _, rfl, rfl, .inl (.inl R9.rows), hat, .ref g, rfl, by show 2 ≤ sizeLine; decide, fun t2 ht2 => ⟨by show 3 ≤ sizeLine; decide, fun q2 hq2 => ?_⟩⟩
          have k10 : Kp Ps H9 (upd H9 t2 (.tup [.ref xl, .ref g])) := Kp.new TO9.kp.tab ht2
          have hq20 : H9 q2 = none := k10.free TO9.kp.tab hq2
          have k11 : Kp Ps H9 (upd (upd H9 t2 (.tup [.ref xl, .ref g])) q2 (.lst [.ref D, .ref oq, .ref t2])) := k10.upd TO9.kp.tab hq20
          have n2q : t2 ≠ q2 := fun y => by
            rw [← y, upd_same] at hq2
            cases hq2
          have hq11 : (upd (upd H9 t2 (.tup [.ref xl, .ref g])) q2 (.lst [.ref D, .ref oq, .ref t2])) q2 = some (.lst [.ref D, .ref oq, .ref t2]) := upd_same
          have ht11 : (upd (upd H9 t2 (.tup [.ref xl, .ref g])) q2 (.lst [.ref D, .ref oq, .ref t2])) t2 = some (.tup [.ref xl, .ref g]) := by rw [upd_ne n2q, upd_same]
          have TO11 := (TO9.new T4 ht2 (o := .tup [.ref xl, .ref g])).new T4 hq2 (o := .lst [.ref D, .ref oq, .ref t2])
          have htl11 := k11.lst TO9.kp.tab htl9
          generalize upd (upd H9 t2 (.tup [.ref xl, .ref g])) q2 (.lst [.ref D, .ref oq, .ref t2]) = H11 at TO11 htl11 k11 hq11 ht11 ⊢
          have R11 := R9.kp k11 TO9.kp.tab
          have hxs11 := k11.seqT TO9.kp.tab hxs
          refine ⟨q2, _, 5, 200000, rfl, dp_told (SqL.of hq11) (SqL.of R11.cnts) (SqL.of R11.ordr) (SqT.of ht11) hxs11 (SqL.of R11.gone), hGt, by decide, by decide, rfl, _, rfl, ?_⟩
          have same : ∀ x : V, (!decide (x = x)) = false := fun x => by rw [decide_eq_true rfl]; rfl
          rw [same]
          refine iteF ?_
          have T11 := TO11.kp.tab
          refine ⟨.ref a, rfl, .ref l, rfl, .ref m, rfl, by show 3 ≤ sizeLine; decide, fun p5 hp5 => ?_⟩
          have TO12 := TO11.new T4 hp5 (o := .lst [.ref a, .ref l, .ref m])
          have k12 : Kp Ps H11 (upd H11 p5 (.lst [.ref a, .ref l, .ref m])) := Kp.new T11 hp5
          have htl12 := k12.lst T11 htl11
          have hp12 : (upd H11 p5 (.lst [.ref a, .ref l, .ref m])) p5 = some (.lst [.ref a, .ref l, .ref m]) := upd_same
          generalize upd H11 p5 (.lst [.ref a, .ref l, .ref m]) = H12 at TO12 htl12 k12 hp12 ⊢
          refine ⟨p5, _, 4, 100000, rfl, dph ((k4.trans kp).trans TO12.kp) hp12, hGh, by decide, by decide, _, rfl, rfl, _, rfl, ?_⟩
          rw [same]
          refine iteF ?_
          -- the three changes
          have hx0 : atI [V.ref z, .ref nn, .ref rp] 0 = some (.ref z) := atI_nat (j := 0) rfl
          have hx1 : atI [V.ref z, .ref nn, .ref rp] 1 = some (.ref nn) := atI_nat (j := 1) rfl
          have hx2 : atI [V.ref z, .ref nn, .ref rp] 2 = some (.ref rp) := atI_nat (j := 2) rfl
          refine ⟨.ref tl, rfl, tl, _, 0, _, rfl, rfl, .inl (.inl htl12), hx0, .inl ⟨rfl, _, .inl (.inl TO12.z1)⟩, z, _, _, rfl, rfl, TO12.z1, ?_, ?_⟩
          · rw [List.length_map, List.length_map, List.length_range]
            exact small1000 (by omega)
          have ntz : z ≠ tl := ne_of_none TO.z1 htl
          have ntn : nn ≠ tl := ne_of_none TO.n1 htl
          have nrz : rp ≠ z := fun y => by
            have := TO12.r1
            rw [y, TO12.z1] at this
            cases this
          have nrn : rp ≠ nn := fun y => by
            have := TO12.r1
            rw [y, TO12.n1] at this
            cases this
          refine ⟨.ref tl, rfl, tl, _, 1, _, rfl, rfl, .inl (.inl (by rw [upd_ne ntz.symm]; exact htl12)), hx1, .inl ⟨rfl, _, .inl (.inl (by rw [upd_ne TO12.zn.symm]; exact TO12.n1))⟩, nn, _, rfl, rfl, by rw [upd_ne TO12.zn.symm]; exact TO12.n1, ?_⟩
          have nzd : z ≠ d := TO12.zd
          have nnd : nn ≠ d := TO12.nd
          have hxd : atI [V.ref t, .ref d] 1 = some (.ref d) := atI_nat (j := 1) rfl
          have e3 : ∀ (b : Addr) (oo oq : HO), b ≠ z → b ≠ nn → upd (upd H12 z oo) nn oq b = H12 b := fun b oo oq h1 h2 => by rw [upd_ne h2, upd_ne h1]
          refine ⟨.ref tl, rfl, tl, _, 2, _, rfl, rfl, .inl (.inl ((e3 _ _ _ ntz.symm ntn.symm).trans htl12)), hx2, rp, _, 1, _, rfl, rfl, SqT.of ((e3 _ _ _ nrz nrn).trans TO12.r1), hxd,
            .inl ⟨rfl, _, .inl (.inl ((e3 _ _ _ nzd.symm nnd.symm).trans TO12.d1))⟩, d, _, _, rfl, rfl, (e3 _ _ _ nzd.symm nnd.symm).trans TO12.d1, ?_, ?_⟩
          · rw [List.length_map]
            have := (atR_le (xs := xs) (es := es) (sd := sd) es.length).2
            exact small1000 (by omega)
          · exact ⟨_, _, _, _, rfl, kp.trans (((TO12.kp.upd T4 TO12.z0).upd T4 TO12.n0).upd T4 TO12.d0)⟩
        · rintro σ H4 ⟨v8, v9, v10, v11, rfl, kp⟩
          have R4 := RA.kp kp kT
          have T4 := kp.tab
          have hh4 := R4.hist
          refine ⟨.ref l, rfl, .ref a, rfl, a, l, xs, as, es, rfl, hh4.lane, hh4.laneB, hh4.log, hh4.logB, T4, fun H5 z k5 z0 z1 => ?_⟩
          have T5 := k5.tab
          have hh5 := hh4.kp k5 T4
          refine ⟨.ref l, rfl, .ref a, rfl, a, l, xs, as, es, rfl, hh5.lane, hh5.laneB, hh5.log, hh5.logB, T5, fun H6 nn k6 n0 n1 => ?_⟩
          have T6 := k6.tab
          refine ⟨by show 2 ≤ sizeLine; decide, fun u hu0 => ?_⟩
          have k6u : Kp Ps H5 (upd H6 u (.lst [.ref z, .ref nn])) := k6.upd T5 (k6.free T5 hu0)
          have n1u : (upd H6 u (.lst [.ref z, .ref nn])) nn = some (.lst ((xs ++ arrs es).map V.str)) := by rw [upd_ne (ne_of_none n1 hu0)]; exact n1
          have u1 : (upd H6 u (.lst [.ref z, .ref nn])) u = some (.lst [.ref z, .ref nn]) := upd_same
          generalize upd H6 u (.lst [.ref z, .ref nn]) = H6u at k6u n1u u1 ⊢
          have T6u := k6u.tab
          have hh6 := hh5.kp k6u T5
          refine ⟨.ref u, rfl, .ref m, rfl, .ref l, rfl, .ref a, rfl, a, l, m, xs, as, es, sd, rfl, hh6.lane, hh6.laneB, hh6.log, hh6.logB, hh6.mv, hh6.len, hh6.sides, T6u, fun H7 rp t d k7 r0 t0 d0 r1 t1 d1 => ?_⟩
          have TO := Told.of hh4 T4 k5 z0 z1 k6u n0 n1u k7 d0 r1 t1 d1
          have u7 := k7.lst T6u u1
          refine ⟨by show 1 ≤ sizeLine; decide, fun y hy => ?_⟩
          have TO8 := TO.new T4 hy (o := .lst [.ref rp])
          have u8 : (upd H7 y (.lst [.ref rp])) u = some (.lst [.ref z, .ref nn]) := by rw [upd_ne (ne_of_none u7 hy)]; exact u7
          have y8 : (upd H7 y (.lst [.ref rp])) y = some (.lst [.ref rp]) := upd_same
          generalize upd H7 y (.lst [.ref rp]) = H8 at TO8 u8 y8 ⊢
          refine ⟨u, y, _, _, rfl, rfl, u8, y8, by show 3 ≤ sizeLine; decide, fun tl htl => ?_⟩
          have TO9 := TO8.new T4 htl (o := .lst ([.ref z, .ref nn] ++ [.ref rp]))
          have htl9 : (upd H8 tl (.lst ([.ref z, .ref nn] ++ [.ref rp]))) tl = some (.lst [.ref z, .ref nn, .ref rp]) := upd_same
          generalize upd H8 tl (.lst ([.ref z, .ref nn] ++ [.ref rp])) = H9 at TO9 htl9 ⊢
          have R9 := R4.kp TO9.kp T4
          obtain ⟨xl, hxl, hxs⟩ := R9.last
          obtain ⟨rq, hrq⟩ := last_at hxl
          have hat : atI (rs.map V.ref) (-1) = some (.ref xl) := by
            rw [hrq, List.map_append]
            exact atI_last _ _
          refine ⟨.ref D, rfl, .ref oq, rfl, .ref r, rfl, 1, rfl, r, _, -1, _, rfl, rfl, .inl (.inl R9.rows), hat, .ref g, rfl, by show 2 ≤ sizeLine; decide, fun t2 ht2 => ⟨by show 3 ≤ sizeLine; decide, fun q2 hq2 => ?_⟩⟩
          have k10 : Kp Ps H9 (upd H9 t2 (.tup [.ref xl, .ref g])) := Kp.new TO9.kp.tab ht2
          have hq20 : H9 q2 = none := k10.free TO9.kp.tab hq2
          have k11 : Kp Ps H9 (upd (upd H9 t2 (.tup [.ref xl, .ref g])) q2 (.lst [.ref D, .ref oq, .ref t2])) := k10.upd TO9.kp.tab hq20
          have n2q : t2 ≠ q2 := fun y => by
            rw [← y, upd_same] at hq2
            cases hq2
          have hq11 : (upd (upd H9 t2 (.tup [.ref xl, .ref g])) q2 (.lst [.ref D, .ref oq, .ref t2])) q2 = some (.lst [.ref D, .ref oq, .ref t2]) := upd_same
          have ht11 : (upd (upd H9 t2 (.tup [.ref xl, .ref g])) q2 (.lst [.ref D, .ref oq, .ref t2])) t2 = some (.tup [.ref xl, .ref g]) := by rw [upd_ne n2q, upd_same]
          have TO11 := (TO9.new T4 ht2 (o := .tup [.ref xl, .ref g])).new T4 hq2 (o := .lst [.ref D, .ref oq, .ref t2])
          have htl11 := k11.lst TO9.kp.tab htl9
          generalize upd (upd H9 t2 (.tup [.ref xl, .ref g])) q2 (.lst [.ref D, .ref oq, .ref t2]) = H11 at TO11 htl11 k11 hq11 ht11 ⊢
          have R11 := R9.kp k11 TO9.kp.tab
          have hxs11 := k11.seqT TO9.kp.tab hxs
          refine ⟨_, _, TO11.dp htl11, dp_told (SqL.of hq11) (SqL.of R11.cnts) (SqL.of R11.ordr) (SqT.of ht11) hxs11 (SqL.of R11.gone), hGt.shaped (by decide), hGt.shaped (by decide), ?_⟩
          rw [SeqAt.eqv_refl _ hGt.lay]
          exact q _ ((k4.trans kp).trans TO11.kp)
end
end Ln

set_option Elab.async false
set_option linter.all false
set_option maxRecDepth 100000
set_option maxHeartbeats 2000000
namespace Ln
open PySem PySem.Spec PyProof.Rows L2 GxR
/-! ### xs[a:] = ys -/
section
variable {prog : Program} {w : World} {A : Around} {E : Value → Shared → Prop} {s : Shared}
theorem bounds_tail {a n : Nat} (h : a ≤ n) : sliceBounds (some (a : Int)) none none n = ((a : Int), (n : Int), 1) := by
  have h1 : ¬ ((a : Int) < 0) := by omega
  have h2 : min (a : Int) (n : Int) = a := by omega
  simp [sliceBounds, h1, h2]
set_option maxRecDepth 100000 in
theorem setItem_tail {l b sl : Addr} {its nw : Array Value} {n n2 : Nat} {vl : Value} {a : Nat} {Q : Unit → Shared → Prop} (e : s.heap.get? l = some { cls := .type "list", data := .seq its n }) (e2 : s.heap.get? b = some { cls := .type "list", data := .seq nw n2 }) (hne : l ≠ b)
    (hs : s.heap.IsSliceOf sl vl .none .none) (pl : IsPart vl (some (a : Int))) (ha : a ≤ its.size) (hsz : its.size + nw.size ≤ sizeLine)
    (h : Q () { s with heap := s.heap.update l (Obj.mapSeq fun xs => xs.extract 0 a ++ nw ++ xs.extract its.size xs.size) }) : wpAny (model prog w) A (setItem (.ref l) (.ref sl) (.ref b)) Q E s := by
  have hl : s.heap.IsList l its := PySem.IsL.isList e
  have hb : s.heap.IsList b nw := PySem.IsL.isList e2
  obtain ⟨os, hos, hcs, hds⟩ := id hs
  have hT : s.TypeIs (.ref sl) "slice" := ⟨os, hos, hcs⟩
  have hst : ¬ ((rawPart none == rawInt 0) = true) := fun z => by cases z
  have hsm : Builtin.List.listSameRef (.ref l) (.ref b) = false := beq_eq_false_iff_ne.mpr hne
  have hmx : (max (a : Int) (its.size : Int)).toNat = its.size := by omega
  have hz2 : ((fun xs : Array Value => xs.extract 0 a ++ nw ++ xs.extract its.size xs.size) its).size ≤ sizeLine + 1 := by
    show (its.extract 0 a ++ nw ++ its.extract its.size its.size).size ≤ _
    rw [Array.size_append, Array.size_append, Array.size_extract, Array.size_extract]
    omega
  unfold setItem
  try with_reducible refine wpAny_holding ?_
  first | refine wpAny_bind (wpAny_pure ?_) | skip
  refine wpAny_bind (wpAny_sequenceKey hl.typeIs (by decide) (wpAny_bind (wpAny_callSpecial?_slot (name := Str.ofString "__setitem__") hl.typeIs slot_list_setitem (wpAny_call_entry slot_list_setitem hl.typeIs entry_list_setitem ?_ (args_list_setitem _ _ _)))))
  show wpAny _ _ (Builtin.List.listSubscript? (.ref sl) >>= _) _ _ s
  refine wpAny_bind ?_
  unfold Builtin.List.listSubscript?
  refine wpAny_bind (wpAny_specialOf hT slice_no_index ?_)
  simp only [Option.isNone_none, if_true]
  refine wpAny_pure ?_
  show wpAny _ _ (typeOf (.ref sl) >>= _) _ _ s
  refine wpAny_bind (wpAny_typeOf hT ?_)
  first | rw [if_neg (by decide)] | refine PySem.W.KFB.if_not (by decide) ?_
  rw [listSliceParts_eq]
  refine wpAny_bind (wpAny_bind (wpAny_field hos hds (x := .none) rfl (wpAny_bind (wpAny_listPart .none ?_))))
  rw [if_neg hst]
  refine wpAny_bind (wpAny_field hos hds (x := vl) rfl (wpAny_bind (wpAny_listPart pl (wpAny_bind (wpAny_field hos hds (x := .none) rfl (wpAny_bind (wpAny_listPart .none (wpAny_pure ?_))))))))
  first | simp only [hsm, Bool.false_eq_true, if_false] | refine PySem.W.KFB.if_not hsm ?_
  refine wpAny_bind (m := Builtin.List.listAllItems (.ref b) "must assign iterable to extended slice") ?_
  unfold Builtin.List.listAllItems
  refine wpAny_bind (wpAny_typeOf hb.typeIs ?_)
  first | refine PySem.W.KFB.if_so (by decide) ?_ | rw [if_pos (by decide)] | simp only [beq_self_eq_true, Bool.true_or, if_true]
  unfold Builtin.List.listItems
  refine wpAny_bind (wpAny_seqItems e2 rfl (wpAny_pure (wpAny_bind (wpAny_bind (wpAny_seqItems e rfl (wpAny_pure ?_))))))
  refine wpAny_bind (wpAny_of_eq ((sliceIndices_raw (some (a : Int)) none none its.size (by simp)).trans (congrArg (pure : Int × Int × Int → Sem (Int × Int × Int)) (bounds_tail ha))) ?_)
  show wpAny _ _ (if ((1 : Int) == 1) = true then _ else _) _ _ s
  rw [if_pos (by decide)]
  refine wpAny_bind (wpAny_rule ?_)
  first | simp only [notLongL hsz, Bool.false_eq_true, if_false] | refine PySem.W.KFB.if_not (notLongL hsz) ?_
  first | refine wpAny_bind (wpAny_pure ?_) | skip
  show wpAny _ _ (updateSeq l (fun xs => xs.extract 0 ((a : Int)).toNat ++ nw ++ xs.extract (max (a : Int) (its.size : Int)).toNat xs.size) >>= _) _ _ s
  rw [hmx, Int.toNat_natCast]
  refine wpAny_bind (wpAny_updateSeq (hz := Nat.le_trans (Nat.le_add_right _ _) hsz) (_hz' := hz2) e rfl (wpAny_bind (wpAny_letGo ?_)))
  first | exact wpAny_bind (wpAny_pure (wpAny_pure ⟨.none, rfl, wpAny_pure h⟩)) | exact wpAny_pure ⟨.none, rfl, wpAny_pure h⟩
end
section
variable {X : Cx}
theorem set_tail {pins : List (Addr × Obj)} {s : Shared} {σ : L2.St} {H : Hp} {l b sl : Addr} {xs ys : List V} {a : Nat} {vl : Value} {Q : Unit → Shared → Prop} (I : Inv X pins σ H s) (hH : H l = some (.lst xs)) (hB : H b = some (.lst ys)) (hne : l ≠ b)
    (hs : s.heap.IsSliceOf sl vl .none .none) (pl : IsPart vl (some (a : Int))) (ha : a ≤ xs.length) (hz : xs.length + ys.length ≤ sizeLine) (h : ∀ s', Inv X pins σ (upd H l (.lst (xs.take a ++ ys))) s' → Q () s') :
    wpAny (model X.prog X.w) X.A (setItem (.ref l) (.ref sl) (.ref b)) Q X.xe s := by
  obtain ⟨z, its, n, r, hl, e⟩ := I.lstM hH
  obtain ⟨z2, its2, n2, r2, hl2, e2⟩ := I.lstM hB
  refine setItem_tail (a := a) e e2 hne hs pl (by rw [List.size_toArray]; omega) (by rw [List.size_toArray, List.size_toArray]; omega) (h _ ?_)
  refine I.lset (its' := its.take a ++ its2) (t' := s.toks) hH e ?_ (Vals.append (r.take _) r2) (by rw [List.length_append, List.length_take]; omega)
  have sp := splice_eq its its2 a its.toArray.size
  rw [sp, List.size_toArray, List.drop_length, List.append_nil]
/-- o[lo:] = a list -/
def gTail (to : TE) (tl : TO) : TG := fun v σ H Q => to σ H fun x H1 => tl σ H1 fun k H2 => ∃ (l b : Addr) (xs ys : List V) (a : Nat), x = .ref l ∧ v = .ref b ∧ k = some (a : Int) ∧ H2 l = some (.lst xs) ∧ H2 b = some (.lst ys) ∧ l ≠ b ∧ a ≤ xs.length ∧ xs.length + ys.length ≤ sizeLine ∧ Q σ (upd H2 l (.lst (xs.take a ++ ys)))
theorem pg_tail {o : Expr} {lo : Option Expr} {to : TE} {tl : TO} {pos p2 : Pos} (ho : PE X o to) (hl : PO X lo tl)
    (ha : ∀ v, assign (.Subscript o (.Slice lo none none p2) pos) X.env v = (do
      let ov ← holding [v] (eval o X.env)
      let iv ← holding [v, ov] (eval (.Slice lo none none p2) X.env)
      standAt pos
      holding [v, ov, iv] (setItem ov iv v)
      release [iv, v, ov] []) := by intro _; rfl) : PG X (.Subscript o (.Slice lo none none p2) pos) (gTail to tl) := by
  refine ⟨fun pins s σ H v u Q I r h => ?_⟩
  rw [ha]
  refine wpAny_bind (wpAny_holding (thn (ho.run pins s σ H _ I h) fun ov s1 ⟨x, H1, I1, r1, q1⟩ => ?_))
  refine wpAny_bind (wpAny_holding (wpAny_Slice (thn (hl.run pins s1 σ H1 _ I1 q1) fun vl s2 ⟨k, H2, I2, pl, q2⟩ => ?_)))
  rw [evalPart_none]
  refine wpAny_pure (wpAny_pure ?_)
  obtain ⟨l, b, xs, ys, a, rfl, rfl, rfl, hH, hB, hne, hal, hz, q⟩ := q2
  cases r
  cases r1
  have I3 : Inv X pins σ H2 { s2 with heap := s2.heap.push { cls := .type "slice", data := .fields #[vl, .none, .none] } } := I2.kept (t' := s2.toks) fun b ob q => Heap.get?_push_of_some _ q
  refine wpAny_bind (wpAny_standAt (wpAny_bind (wpAny_holding (set_tail I3 hH hB hne (Heap.IsSliceOf.new ..) pl hal hz fun s4 I4 => ?_))))
  exact wpAny_release ⟨σ, _, I4, q⟩
end
end Ln


set_option Elab.async false
set_option linter.all false
set_option maxRecDepth 100000
set_option maxHeartbeats 8000000
namespace Ln
open PySem PySem.Spec PyProof.Rows L2 GxR
theorem scLaw : FnScope ["script", "k", "source", "turn", "fleet", "initial", "happened", "moves", "cut", "event"] ["script"] (defScope sLaw) := ⟨rfl, rfl, rfl, by decide +kernel, rfl, by decide +kernel, by decide +kernel⟩
/-- what came of a history, tuple by tuple and list by list -/
structure Sit (H : Hp) (t l m : Addr) (xs : List Str) (as : List Addr) (es : List Ev) (sd : List Str) : Prop where
  t1 : H t = some (.tup (xs.map V.str))
  l1 : H l = some (.lst (as.map V.ref))
  m1 : H m = some (.lst (sd.map V.str))
  ev : EvT H as es
  laneB : laneB xs = true
  logB : logB xs xs.length es = true
  len : sd.length = es.length
  sides : sd.all sideB = true
  few1 : xs.length ≤ 400
  few2 : es.length ≤ 400
theorem carsOf {xs : List Str} (h : laneB xs = true) : ∀ x ∈ xs, carB x = true := fun x hx => by
  unfold Ln.laneB at h
  rw [Bool.and_eq_true] at h
  exact List.all_eq_true.mp h.1 x hx
theorem car_sz {x : Str} (h : carB x = true) : x.length ≤ sizeLine := Nat.le_trans (car_len h) (by decide)
theorem Sit.hist {K : PySem.W.Frag} {H : Hp} {t l m : Addr} {xs : List Str} {as : List Addr} {es : List Ev} {sd : List Str} (h : Sit H t l m xs as es sd) : HistAt K H t l m xs as es sd :=
  ⟨⟨SqT.of h.t1, h.few1, fun x hx => car_sz (carsOf h.laneB x hx)⟩, h.laneB, ⟨SqL.of h.l1, h.ev.at_, h.few2, fun c hc => car_sz (logB_cars es xs _ h.logB c (mem_arrs hc))⟩, h.logB, SqL.of h.m1, h.len, h.sides⟩
theorem Kp.kt {Ps : List Addr} {H H1 : Hp} (k : Kp Ps H H1) (hT : Tabs Ps H) : KT H H1 := fun b xs e => k.tup hT e
theorem Sit.kp {Ps : List Addr} {H H1 : Hp} {t l m : Addr} {xs : List Str} {as : List Addr} {es : List Ev} {sd : List Str} (h : Sit H t l m xs as es sd) (k : Kp Ps H H1) (hT : Tabs Ps H) : Sit H1 t l m xs as es sd :=
  { h with t1 := k.tup hT h.t1, l1 := k.lst hT h.l1, m1 := k.lst hT h.m1, ev := h.ev.kt (k.kt hT) }
theorem Sit.src {H : Hp} {s t l m : Addr} {xs : List Str} {as : List Addr} {es : List Ev} {sd : List Str} {ys zs : List V} (h : Sit H t l m xs as es sd) (hs : H s = some (.lst ys)) (h1 : l ≠ s) (h2 : m ≠ s) : Sit (upd H s (.lst zs)) t l m xs as es sd :=
  { h with t1 := by rw [upd_ne (fun z => by have := h.t1; rw [z, hs] at this; cases this)]; exact h.t1, l1 := by rw [upd_ne h1]; exact h.l1, m1 := by rw [upd_ne h2]; exact h.m1, ev := h.ev.kt (KT.upd fun xs e => by rw [hs] at e; cases e) }
theorem Kp.ch {Ps : List Addr} {s : Addr} {H H1 H2 : Hp} {l : List V} (k : Kp Ps H H1) (hT : Tabs Ps H) (h0 : H s = none) (h1 : H1 s = some (.lst l)) (c : Ch s H1 H2) : Kp Ps H H2 :=
  ⟨fun b o e n => c b o (k.at_ b o e n) (ne_of_none e h0), c.tabs h1 k.tab⟩
theorem Kp.srcU {Ps : List Addr} {s : Addr} {H H1 : Hp} {o : HO} (k : Kp Ps H H1) (hT : Tabs Ps H) (h0 : H s = none) : Kp Ps H (L2.upd H1 s o) := Kp.upd k hT h0
theorem logB_take : ∀ (es : List Ev) (us : List Str) (n j : Nat), logB us n es = true → logB us n (es.take j) = true
  | [], _, _, j, _ => by rw [List.take_nil]; rfl
  | _ :: _, _, _, 0, _ => rfl
  | .inn c :: r, us, n, j + 1, h => by
    have h : (if carB c = true ∧ ¬ c ∈ us then logB (c :: us) (n + 1) r else false) = true := h
    show (if carB c = true ∧ ¬ c ∈ us then logB (c :: us) (n + 1) (r.take j) else false) = true
    by_cases q : carB c = true ∧ ¬ c ∈ us
    · rw [if_pos q] at h ⊢
      exact logB_take r _ _ j h
    · rw [if_neg q] at h
      cases h
  | .out :: r, us, n, j + 1, h => by
    have h : (if 0 < n then logB us (n - 1) r else false) = true := h
    show (if 0 < n then logB us (n - 1) (r.take j) else false) = true
    by_cases q : 0 < n
    · rw [if_pos q] at h ⊢
      exact logB_take r _ _ j h
    · rw [if_neg q] at h
      cases h
theorem EvT.take {H : Hp} : ∀ {as : List Addr} {es : List Ev} (j : Nat), EvT H as es → EvT H (as.take j) (es.take j)
  | _, _, 0, _ => .nil
  | _, _, j + 1, .nil => .nil
  | _, _, j + 1, .cons h t => .cons h (EvT.take j t)
/-- the same, cut short -/
theorem Sit.cut {H H1 : Hp} {t l m : Addr} {xs : List Str} {as : List Addr} {es : List Ev} {sd : List Str} (h : Sit H t l m xs as es sd) (j : Nat) (k : KT H H1) (hl : H1 l = some (.lst ((as.take j).map V.ref))) (hm : H1 m = some (.lst ((sd.take j).map V.str))) :
    Sit H1 t l m xs (as.take j) (es.take j) (sd.take j) :=
  ⟨k _ _ h.t1, hl, hm, (h.ev.kt k).take j, h.laneB, logB_take _ _ _ _ h.logB, by rw [List.length_take, List.length_take, h.len], by
    rw [List.all_eq_true]
    exact fun x hx => List.all_eq_true.mp h.sides x (List.mem_of_mem_take hx), h.few1, by
    rw [List.length_take]
    exact Nat.le_trans (Nat.min_le_right _ _) h.few2⟩
theorem ix3 {r : Int} (h0 : 0 ≤ r) (h3 : r < 3) : ∃ lim : Int, atI [V.int 6, .int 30, .int 160] r = some (.int lim) ∧ 1 ≤ lim ∧ lim ≤ 160 := by
  have : r = 0 ∨ r = 1 ∨ r = 2 := by omega
  rcases this with rfl | rfl | rfl
  · exact ⟨6, atI_nat (j := 0) rfl, by decide, by decide⟩
  · exact ⟨30, atI_nat (j := 1) rfl, by decide, by decide⟩
  · exact ⟨160, atI_nat (j := 2) rfl, by decide, by decide⟩
theorem ix2 {r : Int} (h0 : 0 ≤ r) (h3 : r < 2) : ∃ most : Nat, atI [V.int 8, .int 120] r = some (.int (most : Nat)) ∧ most ≤ 120 := by
  have : r = 0 ∨ r = 1 := by omega
  rcases this with rfl | rfl
  · exact ⟨8, atI_nat (j := 0) rfl, by decide⟩
  · exact ⟨120, atI_nat (j := 1) rfl, by decide⟩
theorem ixLR {r : Int} (h0 : 0 ≤ r) (h3 : r < 2) : ∃ c : Nat, atI ("LR" : Str).cps.toList r = some c ∧ sideB ⟨#[c]⟩ = true := by
  have : r = 0 ∨ r = 1 := by omega
  rcases this with rfl | rfl
  · exact ⟨76, atI_nat (j := 0) rfl, by decide +kernel⟩
  · exact ⟨82, atI_nat (j := 1) rfl, by decide +kernel⟩
theorem cut_drop {xs : List V} {n : Nat} (h : n ≤ xs.length) : cutV xs (some (n : Int)) none = xs.drop n := by
  unfold cutV
  rw [show HT.sIx xs.length 0 (some (n : Int)) = min n xs.length from HT.sIx_nat xs.length 0 n, HT.sIx_none, show min n xs.length = n by omega]
  exact List.take_of_length_le (by rw [List.length_drop]; exact Nat.le_refl _)
section
variable {P : Program} {w : World} {K : PySem.W.Frag} {mg : Str → Option Value} {base : Heap} {Ps : List Addr}
def spLaw (K : PySem.W.Frag) (Ps : List Addr) : Sp := fun vs H Q _ => ∃ (a : Addr) (ns : List Int), vs = [.ref a] ∧ SqL K H a (ns.map V.int) ∧ Tabs Ps H ∧ ∀ H', Kp Ps H H' → Q (.bl true) H'
theorem ok_law {f fS fD fV fH fR : Addr} {fd fdS fdD fdV fdH fdR : FuncData} (F : Fun K "law" "law" sLaw f fd) (B : Bi mg) (B2 : Bl mg)
    (GS : FnOk P w K mg base CX0 1 fS fdS ["script", "k"] (spSource K)) (mgS : mg "_law_source" = some (.ref fS)) (kS : PySem.W.keepIn K (.ref fS) = true) (bS : Binds K fdS ["script", "k"] [])
    (GD : FnOk P w K mg base CX0 1 fD fdD ["source", "limit"] spDraw) (mgD : mg "_law_draw" = some (.ref fD)) (kD : PySem.W.keepIn K (.ref fD) = true) (bD : Binds K fdD ["source", "limit"] [])
    (GV : FnOk P w K mg base CX0 3 fV fdV ["source", "count"] spVeh) (mgV : mg "_law_vehicles" = some (.ref fV)) (kV : PySem.W.keepIn K (.ref fV) = true) (bV : Binds K fdV ["source", "count"] [])
    (GH : FnOk P w K mg base CX0 2 fH fdH ["source", "present", "spare", "most"] (spHap K)) (mgH : mg "_law_happened" = some (.ref fH)) (kH : PySem.W.keepIn K (.ref fH) = true) (bH : Binds K fdH ["source", "present", "spare", "most"] [])
    (GR : FnG P w K mg base 9 fR fdR ["initial", "happened", "moves"] (spRight K Ps)) (mgR : mg "_law_right" = some (.ref fR)) (kR : PySem.W.keepIn K (.ref fR) = true) (bR : Binds K fdR ["initial", "happened", "moves"] []) :
    FnG P w K mg base 10 f fd ["script"] (spLaw K Ps) := by
  refine Fun.okG F scLaw (fun vs H Q E h => ?_) (fun cdv A outer s H vs Q E hr hgd h => ?_)
  · obtain ⟨a, ns, rfl, _⟩ := h
    rfl
  · obtain ⟨a, ns, rfl, hS, hT, q⟩ := h
    have hr1 := hr.mono (show 1 ≤ 9 by decide)
    have hr2 := hr.mono (show 2 ≤ 9 by decide)
    have hr3 := hr.mono (show 3 ≤ 9 by decide)
    refine ⟨_, pss_cons (ps_for PassesOwn.never rfl (pi_range1 (by rfl) B2.rng (pa_cons (pe_callB (call_max2 rfl) (by rfl) B2.max (by decide +kernel) (pa_cons pe_int (pa_cons (pe_callB (call_min2 rfl) (by rfl) B2.min (by decide +kernel) (pa_cons pe_int (pa_cons (pe_callB call_len_seq (by rfl) B.len PySem.boot_len (pa_cons (pv 0) pa_nil)) pa_nil))) pa_nil))) pa_nil)) (pg_name (i := 1) scLaw.nd rfl (.inl rfl))
        (pss_cons (ps_set (i := 2) scLaw.nd rfl (.inr rfl) (pe_call GS hr1 (by rfl) mgS kS bS .nil pass0 (pa_cons (pv 0) (pa_cons (pv 1) pa_nil))))
        (pss_one (ps_for PassesOwn.never rfl (pi_range1 (by rfl) B2.rng (pa_cons pe_int pa_nil)) (pg_name (i := 3) scLaw.nd rfl (.inl rfl))
          (pss_cons (ps_set (i := 4) scLaw.nd rfl (.inl rfl) (pe_call GV hr3 (by rfl) mgV kV bV .nil pass0 (pa_cons (pv 2) (pa_cons (pe_op op_add pe_int (pe_call GD hr1 (by rfl) mgD kD bD .nil pass0 (pa_cons (pv 2) (pa_cons (pe_ix ix_list (pe_lst (pa_cons pe_int (pa_cons pe_int (pa_cons pe_int pa_nil)))) (pe_call GD hr1 (by rfl) mgD kD bD .nil pass0 (pa_cons (pv 2) (pa_cons pe_int pa_nil))) (fun _ _ => rfl)) pa_nil)))) pa_nil))))
          (pss_cons (ps_set (i := 5) scLaw.nd rfl (.inl rfl) (pe_callTy call_tuple_of (by rfl) B.tup (by decide +kernel) (pa_cons (pe_slice sl_list (pv 4) po_none (po_some (pe_callB (call_min2 rfl) (by rfl) B2.min (by decide +kernel) (pa_cons pe_int (pa_cons (pe_call GD hr1 (by rfl) mgD kD bD .nil pass0 (pa_cons (pv 2) (pa_cons (pe_op op_add (pe_callB call_len_seq (by rfl) B.len PySem.boot_len (pa_cons (pv 4) pa_nil)) pe_int) pa_nil))) pa_nil))))) pa_nil)))
          (pss_cons (ps_set (i := 6) scLaw.nd rfl (.inl rfl) (pe_call GH hr2 (by rfl) mgH kH bH .nil pass0 (pa_cons (pv 2) (pa_cons (pe_callB call_len_seq (by rfl) B.len PySem.boot_len (pa_cons (pv 5) pa_nil)) (pa_cons (pe_slice sl_list (pv 4) (po_some (pe_callB call_len_seq (by rfl) B.len PySem.boot_len (pa_cons (pv 5) pa_nil))) po_none)
            (pa_cons (pe_ix ix_list (pe_lst (pa_cons pe_int (pa_cons pe_int pa_nil))) (pe_call GD hr1 (by rfl) mgD kD bD .nil pass0 (pa_cons (pv 2) (pa_cons pe_int pa_nil))) (fun _ _ => rfl)) pa_nil))))))
          (pss_cons (ps_setLc (i := 7) (own := [("event", 9)]) (g := gName 9) (tt := tYes) (te := tOp rIxS (tC (.str "LR")) (tCall spDraw [] E0 (tCons (tVar 2) (tCons (tC (.int 2)) tNil)))) (by rfl) scLaw.nd rfl rfl (sw_true rfl rfl rfl (by decide +kernel)) (pi_list (pv 6))
            (blkOk_by (own := [("event", 9)]) (N := ["script", "k", "source", "turn", "fleet", "initial", "happened", "moves", "cut", "event"]) (sc := defScope sLaw) (by decide +kernel))
            (fun _ _ _ _ _ => pg_name (i := 9) scLaw.nd rfl (Or.inl rfl)) (fun _ _ _ _ _ => pts_nil) (fun _ _ _ _ _ => pe_ix ix_str pe_str (pe_call GD hr1 (by rfl) mgD kD bD .nil pass0 (pa_cons (pv 2) (pa_cons pe_int pa_nil))) (fun _ _ => rfl)))
          (pss_cons (ps_if (pt_not (pt_val (pe_callG GR hr hgd (by rfl) mgR kR bR (pa_cons (pv 5) (pa_cons (pv 6) (pa_cons (pv 7) pa_nil)))))) (pss_one (ps_ret pe_bl)) pss_nil)
          (pss_cons (ps_set (i := 8) scLaw.nd rfl (.inl rfl) (pe_call GD hr1 (by rfl) mgD kD bD .nil pass0 (pa_cons (pv 2) (pa_cons (pe_op op_add (pe_callB call_len_seq (by rfl) B.len PySem.boot_len (pa_cons (pv 6) pa_nil)) pe_int) pa_nil))))
          (pss_cons (ps_asg (pe_lst pa_nil) (pg_tail (pv 6) (po_some (pv 8))))
          (pss_cons (ps_asg (pe_lst pa_nil) (pg_tail (pv 7) (po_some (pv 8))))
          (pss_one (ps_if (pt_not (pt_val (pe_callG GR hr hgd (by rfl) mgR kR bR (pa_cons (pv 5) (pa_cons (pv 6) (pa_cons (pv 7) pa_nil)))))) (pss_one (ps_ret pe_bl)) pss_nil))))))))))))))
      (pss_one (ps_ret pe_bl)), ?_⟩
    obtain ⟨c, hc1, hc2⟩ : ∃ c : Nat, (if (if (((ns.map V.int).length : Nat) : Int) < 5 then (((ns.map V.int).length : Nat) : Int) else 5) > 1 then (if (((ns.map V.int).length : Nat) : Int) < 5 then (((ns.map V.int).length : Nat) : Int) else 5) else 1) = (c : Nat) ∧ c ≤ 5 := by
      generalize (ns.map V.int).length = z
      by_cases h1 : ((z : Nat) : Int) < 5
      · rw [if_pos h1]
        by_cases h2 : ((z : Nat) : Int) > 1
        · exact ⟨z, by rw [if_pos h2], by omega⟩
        · exact ⟨1, by rw [if_neg h2]; rfl, by omega⟩
      · rw [if_neg h1]
        exact ⟨5, by rw [if_pos (by decide)]; rfl, by omega⟩
    refine ⟨.ref a, rfl, a, _, rfl, .inl hS, _, _, rfl, _, _, rfl, ?_⟩
    rw [hc1]
    refine ⟨_, rfl, by omega, by omega, ?_⟩
    refine for_range (lo := 0) (n := ((c : Nat) : Int).toNat) (fun i σ H' => ∃ v1 v2 v3 v4 v5 v6 v7 v8 v9 : Option V, σ = [some (.ref a), v1, v2, v3, v4, v5, v6, v7, v8, v9] ∧ Kp Ps H H') ?_ ?_ ?_
    · exact ⟨none, none, none, none, none, none, none, none, none, rfl, Kp.refl hT⟩
    · rintro i σ H1 hi ⟨v1, v2, v3, v4, v5, v6, v7, v8, v9, rfl, k1⟩
      have hi5 : i < 5 := by
        rw [Int.toNat_natCast] at hi
        omega
      refine ⟨.ref a, rfl, _, rfl, a, ns, i, by rw [Int.zero_add]; rfl, k1.seqL hT hS, by omega, fun s0 l0 hs0 hl0 => ?_⟩
      have hs00 : H s0 = none := k1.free hT hs0
      have k2 : Kp Ps H (upd H1 s0 (.lst l0)) := k1.upd hT hs00
      have hs1 : (upd H1 s0 (.lst l0)) s0 = some (.lst l0) := upd_same
      generalize upd H1 s0 (.lst l0) = H2 at k2 hs1 ⊢
      refine ⟨3, rfl, by decide, by decide, ?_⟩
      refine for_range (lo := 0) (n := 3) (fun j σ H' => ∃ (v3 v4 v5 v6 v7 v8 v9 : Option V) (l : List V), σ = [some (.ref a), some (.int (0 + (i : Int))), some (.ref s0), v3, v4, v5, v6, v7, v8, v9] ∧ Kp Ps H H' ∧ H' s0 = some (.lst l) ∧ SrcV (1000 * j) l) ?_ ?_ ?_
      · exact ⟨v3, v4, v5, v6, v7, v8, v9, l0, rfl, k2, hs1, hl0⟩
      · rintro j σ H3 hj ⟨v3, v4, v5, v6, v7, v8, v9, l, rfl, k3, hs3, hl3⟩
        -- the cars
        refine ⟨.ref s0, rfl, .ref s0, rfl, by show 3 ≤ sizeLine; decide, fun p hp => ?_⟩
        have kA : Kp Ps H (upd H3 p (.lst [.int 6, .int 30, .int 160])) := k3.upd hT (k3.free hT hp)
        have sA : (upd H3 p (.lst [.int 6, .int 30, .int 160])) s0 = some (.lst l) := by rw [upd_ne (ne_of_none hs3 hp)]; exact hs3
        have pA : (upd H3 p (.lst [.int 6, .int 30, .int 160])) p = some (.lst [.int 6, .int 30, .int 160]) := upd_same
        have nps : p ≠ s0 := (ne_of_none hs3 hp).symm
        generalize upd H3 p (.lst [.int 6, .int 30, .int 160]) = HA at kA sA pA ⊢
        refine ⟨.ref s0, rfl, s0, l, 1000 * j, 3, rfl, sA, hl3, by omega, by decide, by decide, fun l1 r1 hl1 h10 h13 => ?_⟩
        obtain ⟨lim, hlim, hl_1, hl_2⟩ := ix3 h10 h13
        refine ⟨p, _, r1, _, rfl, rfl, .inl (.inl (by rw [upd_ne nps]; exact pA)), hlim, s0, l1, 1000 * j + 1, lim, rfl, upd_same, hl1, by omega, hl_1, by omega, fun l2 r2 hl2 h20 h2m => ?_⟩
        obtain ⟨c2, rfl⟩ : ∃ c2 : Nat, r2 = (c2 : Int) := ⟨r2.toNat, by omega⟩
        refine ⟨_, _, rfl, rfl, s0, l2, 1000 * j + 2, 1 + c2, ?_, upd_same, hl2, by omega, by omega, fun H4 p2 ys l4 ch4 hp2 hys hcar hnd hl4 hs4 hp4 => ?_⟩
        · show _ = [V.ref s0, V.int ((1 + c2 : Nat) : Int)]
          rw [Int.natCast_add]
          rfl
        have k4 : Kp Ps H H4 := ((kA.srcU hT hs00 (o := .lst l1)).srcU hT hs00 (o := .lst l2)).ch hT hs00 upd_same ch4
        have hp20 : H p2 = none := ((kA.srcU hT hs00 (o := .lst l1)).srcU hT hs00 (o := .lst l2)).free hT hp2
        have np2 : p2 ≠ s0 := fun z => by
          rw [z, upd_same] at hp2
          cases hp2
        have hyl : ys.length ≤ 160 := by omega
        -- the lane
        refine ⟨.ref p2, rfl, .ref s0, rfl, .ref p2, rfl, p2, _, rfl, .inl (.inl (.inl hp4)), _, _, rfl, rfl, s0, l4, 1000 * j + 2 + 161, _, rfl, hs4, hl4, by omega, by rw [List.length_map]; omega, by rw [List.length_map]; omega, fun l5 r3 hl5 h30 h3m => ?_⟩
        obtain ⟨kk, hkk, hkm⟩ : ∃ kk : Nat, (if r3 < 40 then r3 else 40) = (kk : Int) ∧ kk ≤ 40 := by
          by_cases h : r3 < 40
          · rw [if_pos h]
            exact ⟨r3.toNat, by omega, by omega⟩
          · rw [if_neg h]
            exact ⟨40, rfl, by omega⟩
        refine ⟨_, _, rfl, _, rfl, ?_⟩
        rw [hkk]
        have k5 : Kp Ps H (upd H4 s0 (.lst l5)) := k4.srcU hT hs00
        have s5 : (upd H4 s0 (.lst l5)) s0 = some (.lst l5) := upd_same
        have f5 : (upd H4 s0 (.lst l5)) p2 = some (.lst (ys.map V.str)) := by rw [upd_ne np2]; exact hp4
        generalize upd H4 s0 (.lst l5) = H5 at k5 s5 f5 ⊢
        refine ⟨p2, _, rfl, .inl (.inl f5), fun p3 hp3 => ?_⟩
        rw [cut_take, ← List.map_take]
        have k6 := k5.upd hT (k5.free hT hp3) (o := .lst ((ys.take kk).map V.str))
        have s6 : (upd H5 p3 (.lst ((ys.take kk).map V.str))) s0 = some (.lst l5) := by rw [upd_ne (ne_of_none s5 hp3)]; exact s5
        have f6 : (upd H5 p3 (.lst ((ys.take kk).map V.str))) p2 = some (.lst (ys.map V.str)) := by rw [upd_ne (ne_of_none f5 hp3)]; exact f5
        have g6 : (upd H5 p3 (.lst ((ys.take kk).map V.str))) p3 = some (.lst ((ys.take kk).map V.str)) := upd_same
        generalize upd H5 p3 (.lst ((ys.take kk).map V.str)) = H6 at k6 s6 f6 g6 ⊢
        refine ⟨p3, _, rfl, .inl ⟨.inl (.inl g6), fun t ht => ?_⟩⟩
        have k7 := k6.upd hT (k6.free hT ht) (o := .tup ((ys.take kk).map V.str))
        have s7 : (upd H6 t (.tup ((ys.take kk).map V.str))) s0 = some (.lst l5) := by rw [upd_ne (ne_of_none s6 ht)]; exact s6
        have f7 : (upd H6 t (.tup ((ys.take kk).map V.str))) p2 = some (.lst (ys.map V.str)) := by rw [upd_ne (ne_of_none f6 ht)]; exact f6
        have t7 : (upd H6 t (.tup ((ys.take kk).map V.str))) t = some (.tup ((ys.take kk).map V.str)) := upd_same
        generalize upd H6 t (.tup ((ys.take kk).map V.str)) = H7 at k7 s7 f7 t7 ⊢
        have hxl : (ys.take kk).length ≤ ys.length := by
          rw [List.length_take]
          exact Nat.min_le_right _ _
        have hxk : (ys.take kk).length ≤ 40 := by
          rw [List.length_take]
          omega
        have hsplit : ys.take kk ++ ys.drop (ys.take kk).length = ys := by
          by_cases h : kk ≤ ys.length
          · rw [List.length_take, Nat.min_eq_left h, List.take_append_drop]
          · rw [List.take_of_length_le (by omega), List.drop_length, List.append_nil]
        generalize ys.take kk = xs at *
        generalize hzs : ys.drop xs.length = zs at hsplit
        have hzl : zs.length ≤ 400 := by
          rw [← hzs, List.length_drop]
          omega
        have hxc : ∀ x ∈ xs, carB x = true := fun x hx => List.all_eq_true.mp hcar x (by rw [← hsplit]; exact List.mem_append_left _ hx)
        have hzc : ∀ x ∈ zs, carB x = true := fun x hx => List.all_eq_true.mp hcar x (by rw [← hsplit]; exact List.mem_append_right _ hx)
        rw [← hsplit, List.nodup_append] at hnd
        obtain ⟨nd1, nd2, nd3⟩ := hnd
        have hlaneB : laneB xs = true := by
          unfold Ln.laneB
          rw [Bool.and_eq_true]
          exact ⟨List.all_eq_true.mpr hxc, decide_eq_true nd1⟩
        -- the log
        refine ⟨.ref s0, rfl, .ref t, rfl, t, _, rfl, .inr (SqT.of t7), .ref p2, rfl, .ref t, rfl, t, _, rfl, .inr (SqT.of t7), _, rfl, p2, _, rfl, .inl (.inl f7), fun p4 hp4 => ?_⟩
        rw [cut_drop (by rw [List.length_map, List.length_map]; exact hxl), List.length_map, ← List.map_drop, hzs]
        have k8 := k7.upd hT (k7.free hT hp4) (o := .lst (zs.map V.str))
        have s8 : (upd H7 p4 (.lst (zs.map V.str))) s0 = some (.lst l5) := by rw [upd_ne (ne_of_none s7 hp4)]; exact s7
        have t8 : (upd H7 p4 (.lst (zs.map V.str))) t = some (.tup (xs.map V.str)) := by rw [upd_ne (ne_of_none t7 hp4)]; exact t7
        have g8 : (upd H7 p4 (.lst (zs.map V.str))) p4 = some (.lst (zs.map V.str)) := upd_same
        have np4 : p4 ≠ s0 := (ne_of_none s7 hp4).symm
        generalize upd H7 p4 (.lst (zs.map V.str)) = H8 at k8 s8 t8 g8 ⊢
        refine ⟨by show 2 ≤ sizeLine; decide, fun p5 hp5 => ?_⟩
        have k9 := k8.upd hT (k8.free hT hp5) (o := .lst [.int 8, .int 120])
        have s9 : (upd H8 p5 (.lst [.int 8, .int 120])) s0 = some (.lst l5) := by rw [upd_ne (ne_of_none s8 hp5)]; exact s8
        have t9 : (upd H8 p5 (.lst [.int 8, .int 120])) t = some (.tup (xs.map V.str)) := by rw [upd_ne (ne_of_none t8 hp5)]; exact t8
        have g9 : (upd H8 p5 (.lst [.int 8, .int 120])) p4 = some (.lst (zs.map V.str)) := by rw [upd_ne (ne_of_none g8 hp5)]; exact g8
        have e9 : (upd H8 p5 (.lst [.int 8, .int 120])) p5 = some (.lst [.int 8, .int 120]) := upd_same
        have np5 : p5 ≠ s0 := (ne_of_none s8 hp5).symm
        generalize upd H8 p5 (.lst [.int 8, .int 120]) = H9 at k9 s9 t9 g9 e9 ⊢
        refine ⟨.ref s0, rfl, s0, l5, 1000 * j + 2 + 161 + 1, 2, rfl, s9, hl5, by omega, by decide, by decide, fun l6 r4 hl6 h40 h4m => ?_⟩
        obtain ⟨most, hmost, hmm⟩ := ix2 h40 h4m
        have nts : t ≠ s0 := fun z => by
          rw [z, s9] at t9
          cases t9
        refine ⟨p5, _, r4, _, rfl, rfl, .inl (.inl (by rw [upd_ne np5]; exact e9)), hmost, s0, p4, l6, 1000 * j + 2 + 161 + 1 + 1, xs.length, most, zs, rfl, upd_same, hl6, by omega, hmm, by omega, .inl (.inl (by rw [upd_ne np4]; exact g9)), np4, hzl, hzc,
          fun HB p7 as es k' m l7 ch hp7 hfr hel har hct hl7 sB hp7B hev => ?_⟩
        have kB : Kp Ps H HB := (k9.srcU hT hs00 (o := .lst l6)).ch hT hs00 upd_same ch
        have np7 : p7 ≠ s0 := fun z => by
          rw [z, upd_same] at hp7
          cases hp7
        have hp70 : H p7 = none := (k9.srcU hT hs00 (o := .lst l6)).free hT hp7
        have tB : HB t = some (.tup (xs.map V.str)) := ch _ _ (by rw [upd_ne nts]; exact t9) nts
        have hlogB : logB xs xs.length es = true := by
          refine logB_of es xs _ m hct (fun d hd => ?_) ?_
          · rw [har] at hd
            have hz := List.mem_of_mem_take hd
            exact ⟨hzc d hz, fun hx => nd3 d hx d hz rfl⟩
          · rw [har]
            exact nd2.sublist (List.take_sublist _ _)
        have hlen := Paired.length hev
        -- the moves
        refine ⟨.ref p7, rfl, p7, rfl, ⟨_, .inl (.inl hp7B)⟩, fun D hD => ?_⟩
        have hD0 : H D = none := kB.free hT hD
        have nD7 : D ≠ p7 := (ne_of_none hp7B hD).symm
        have nDs : D ≠ s0 := (ne_of_none sB hD).symm
        refine lc_list (K := K) (a := p7) (xs := as.map V.ref) (fun i H' => Kp Ps H H' ∧ Ch s0 HB H' ∧ i ≤ es.length ∧ ∃ (l' : List V) (sd : List Str), H' s0 = some (.lst l') ∧ SrcV (1000 * j + 2 + 161 + 1 + 1 + 122 + i) l' ∧ H' D = some (.lst (sd.map V.str)) ∧ sd.length = i ∧ sd.all sideB = true) ?_ ?_ ?_ ?_
        · exact ⟨kB.upd hT hD0, Ch.refl.new hD, Nat.zero_le _, l7, [], by rw [upd_ne nDs.symm]; exact sB, hl7, upd_same, rfl, rfl⟩
        · rintro i' H' _ ⟨_, ch', _⟩
          exact .inl (.inl (ch' _ _ hp7B np7))
        · rintro i' y H' hi' ⟨k', ch', hie, l', sd, hs', hl', hD', hsl, hsb⟩
          have hlt : i' < es.length := by
            have h1 := (List.getElem?_eq_some_iff.mp hi').1
            rw [List.length_map] at h1
            omega
          refine ⟨rfl, ?_⟩
          unfold tYes
          refine iteT ⟨.ref s0, rfl, s0, l', _, 2, rfl, hs', hl', by omega, by decide, by decide, fun l2' r5 hl2' h50 h5m => ?_⟩
          obtain ⟨cc, hcc, hside⟩ := ixLR h50 h5m
          refine ⟨_, r5, cc, rfl, rfl, by show 2 ≤ sizeLine; decide, hcc, _, by rw [upd_ne nDs]; exact hD', ?_, (k'.srcU hT hs00).upd hT hD0, (ch'.trans Ch.src).new hD, hlt, l2', sd ++ [⟨#[cc]⟩], ?_, hl2', ?_, ?_, ?_⟩
          · rw [List.length_map]
            exact small1000 (by omega)
          · rw [upd_ne nDs.symm, upd_same]
          · rw [upd_same, List.map_append]
            rfl
          · rw [List.length_append, hsl]
            rfl
          · rw [List.all_append, hsb]
            show (true && (sideB ⟨#[cc]⟩ && true)) = true
            rw [hside]
            rfl
        rintro HC ⟨kC, chC, _, l8, sd, sC, hl8, hDC, hsl, hsb⟩
        rw [List.length_map, hlen] at hsl hl8
        have hSit : Sit HC t p7 D xs as es sd := ⟨chC _ _ tB nts, chC _ _ hp7B np7, hDC, hev.kt fun b xs e => chC _ _ e (fun z => by rw [z, sB] at e; cases e), hlaneB, hlogB, hsl, hsb, by omega, by omega⟩
        refine ⟨.ref t, rfl, .ref p7, rfl, .ref D, rfl, t, p7, D, xs, as, es, sd, rfl, hSit.hist, kC.tab, fun HE kE => ⟨_, rfl, iteF ?_⟩⟩
        have hSitE := hSit.kp kE kC.tab
        have sE := kE.lst kC.tab sC
        have kkE := kC.trans kE
        -- cut short
        refine ⟨.ref s0, rfl, .ref p7, rfl, p7, _, rfl, .inl (.inl (.inl hSitE.l1)), _, _, rfl, rfl, s0, l8, _, _, rfl, sE, hl8, by omega, by rw [List.length_map]; omega, by rw [List.length_map]; omega, fun l9 r6 hl9 h60 h6m => ?_⟩
        rw [List.length_map, hlen] at h6m
        obtain ⟨cut, rfl⟩ : ∃ cut : Nat, r6 = (cut : Int) := ⟨r6.toNat, by omega⟩
        have hSitF := hSitE.src sE np7 nDs (zs := l9)
        have kF := kkE.srcU hT hs00 (o := .lst l9)
        have sF : (upd HE s0 (.lst l9)) s0 = some (.lst l9) := upd_same
        generalize upd HE s0 (.lst l9) = HF at hSitF kF sF ⊢
        refine ⟨Nat.zero_le _, fun b hb => ?_⟩
        have nb7 : p7 ≠ b := ne_of_none hSitF.l1 hb
        have nbD : D ≠ b := ne_of_none hSitF.m1 hb
        have nbs : s0 ≠ b := ne_of_none sF hb
        have nst : t ≠ p7 := fun z => by
          have := hSitF.t1
          rw [z, hSitF.l1] at this
          cases this
        have nsD : t ≠ D := fun z => by
          have := hSitF.t1
          rw [z, hSitF.m1] at this
          cases this
        refine ⟨.ref p7, rfl, _, rfl, (cut : Int), rfl, p7, b, as.map V.ref, [], cut, rfl, rfl, rfl, by rw [upd_ne nb7]; exact hSitF.l1, upd_same, nb7, by rw [List.length_map]; omega, by rw [List.length_map]; exact Nat.le_of_lt (small1000 (by show as.length ≤ 1000; omega)), ?_⟩
        refine ⟨Nat.zero_le _, fun b2 hb2 => ?_⟩
        have nb27 : b2 ≠ p7 := fun z => by
          rw [z, upd_same] at hb2
          cases hb2
        rw [upd_ne nb27] at hb2
        have nb2b : b2 ≠ b := fun z => by
          rw [z, upd_same] at hb2
          cases hb2
        rw [upd_ne nb2b] at hb2
        have nb2D : D ≠ b2 := ne_of_none hSitF.m1 hb2
        have nb2s : s0 ≠ b2 := ne_of_none sF hb2
        refine ⟨.ref D, rfl, _, rfl, (cut : Int), rfl, D, b2, sd.map V.str, [], cut, rfl, rfl, rfl, by rw [upd_ne nb2D, upd_ne nD7, upd_ne nbD]; exact hSitF.m1, upd_same, nb2D, by rw [List.length_map]; omega, by rw [List.length_map]; exact Nat.le_of_lt (small1000 (by show sd.length ≤ 1000; omega)), ?_⟩
        have kG := (((kF.upd hT (kF.free hT hb) (o := .lst [])).upd hT hp70 (o := .lst ((as.map V.ref).take cut ++ []))).upd hT (kF.free hT hb2) (o := .lst [])).upd hT hD0 (o := .lst ((sd.map V.str).take cut ++ []))
        have hSitG : Sit (upd (upd (upd (upd HF b (.lst [])) p7 (.lst ((as.map V.ref).take cut ++ []))) b2 (.lst [])) D (.lst ((sd.map V.str).take cut ++ []))) t p7 D xs (as.take cut) (es.take cut) (sd.take cut) := by
          refine hSitF.cut cut (fun q xs e => ?_) ?_ ?_
          · rw [upd_ne (fun z => by rw [z, hSitF.m1] at e; cases e), upd_ne (ne_of_none e hb2), upd_ne (fun z => by rw [z, hSitF.l1] at e; cases e), upd_ne (ne_of_none e hb)]
            exact e
          · rw [upd_ne nD7.symm, upd_ne nb27.symm, upd_same, List.append_nil, ← List.map_take]
          · rw [upd_same, List.append_nil, ← List.map_take]
        have sG : (upd (upd (upd (upd HF b (.lst [])) p7 (.lst ((as.map V.ref).take cut ++ []))) b2 (.lst [])) D (.lst ((sd.map V.str).take cut ++ []))) s0 = some (.lst l9) := by
          rw [upd_ne nDs.symm, upd_ne nb2s, upd_ne np7.symm, upd_ne nbs]
          exact sF
        generalize upd (upd (upd (upd HF b (.lst [])) p7 (.lst ((as.map V.ref).take cut ++ []))) b2 (.lst [])) D (.lst ((sd.map V.str).take cut ++ [])) = HG at kG hSitG sG ⊢
        refine ⟨.ref t, rfl, .ref p7, rfl, .ref D, rfl, t, p7, D, xs, _, _, _, rfl, hSitG.hist, kG.tab, fun HZ kZ' => ⟨_, rfl, iteF ?_⟩⟩
        exact ⟨_, _, _, _, _, _, _, _, rfl, kG.trans kZ', kZ'.lst kG.tab sG, hl9.mono (by omega)⟩
      · rintro σ H3 ⟨v3, v4, v5, v6, v7, v8, v9, l, rfl, k3, hs3, hl3⟩
        exact ⟨_, _, _, _, _, _, _, _, _, rfl, k3⟩
    · rintro σ H1 ⟨v1, v2, v3, v4, v5, v6, v7, v8, v9, rfl, k1⟩
      exact q _ k1
end
end Ln

set_option Elab.async false
set_option linter.all false
set_option maxRecDepth 100000
set_option maxHeartbeats 2000000
namespace Ln
open PySem PySem.Spec PyProof.Rows L2 GxR LamX
/-! ### the law's call -/
/-- what is tracked as the law is called: the tables, and the script where the heap's written part has it not -/
def topH (K : PySem.W.Frag) (cs : List (Addr × Addr)) (a : Addr) (vs : List Value) (ns : List Int) : Hp := fun b =>
  if b ∈ cs.map (·.2) then some (.tbl #[]) else if b = a ∧ K.lookup a = none then some (.frz { cls := .type "list", data := .seq vs.toArray } (.lst (ns.map V.int))) else none
section
variable {P : Program} {w : World} {K : PySem.W.Frag} {cs : List (Addr × Addr)} {a b : Addr} {vs : List Value} {ns : List Int} {h : Heap} {o : HO}
theorem topH_of (e : topH K cs a vs ns b = some o) : (b ∈ cs.map (·.2) ∧ o = .tbl #[]) ∨ (b = a ∧ K.lookup a = none ∧ o = .frz { cls := .type "list", data := .seq vs.toArray } (.lst (ns.map V.int))) := by
  unfold topH at e
  by_cases q : b ∈ cs.map (·.2)
  · rw [if_pos q] at e
    exact .inl ⟨q, (Option.some.inj e).symm⟩
  · rw [if_neg q] at e
    by_cases r : b = a ∧ K.lookup a = none
    · rw [if_pos r] at e
      exact .inr ⟨r.1, r.2, (Option.some.inj e).symm⟩
    · rw [if_neg r] at e
      cases e
theorem topH_tab {p : Addr × Addr} (hp : p ∈ cs) : topH K cs a vs ns p.2 = some (.tbl #[]) := by
  unfold topH
  exact if_pos (List.mem_map.mpr ⟨p, hp, rfl⟩)
theorem tab_at (hT : ∀ p ∈ cs, h.get? p.2 = some { cls := .none, data := .fields #[] }) (hb : b ∈ cs.map (·.2)) : h.get? b = some { cls := .none, data := .fields #[] } := by
  obtain ⟨p, hp, rfl⟩ := List.mem_map.mp hb
  exact hT p hp
theorem scr_tab (hT : ∀ p ∈ cs, h.get? p.2 = some { cls := .none, data := .fields #[] }) (ha : h.get? a = some { cls := .type "list", data := .seq vs.toArray }) : a ∉ cs.map (·.2) := fun q => by
  have := tab_at hT q
  rw [ha] at this
  have := congrArg Obj.data (Option.some.inj this)
  cases this
theorem topH_sq (hT : ∀ p ∈ cs, h.get? p.2 = some { cls := .none, data := .fields #[] }) (ha : h.get? a = some { cls := .type "list", data := .seq vs.toArray }) (KX : K.In h) (hi : IntsAre vs ns) (hl : ns.length ≤ sizeLine) : SqL K (topH K cs a vs ns) a (ns.map V.int) := by
  cases hk : K.lookup a with
  | none =>
    refine .inl (.inr ⟨{ cls := .type "list", data := .seq vs.toArray }, ?_⟩)
    unfold topH
    rw [if_neg (scr_tab hT ha), if_pos ⟨rfl, hk⟩]
  | some ob =>
    have e := KX a ob hk
    rw [ha] at e
    obtain rfl := Option.some.inj e
    exact .inr ⟨_, vs.toArray, _, hk, rfl, rfl, rfl, by rw [List.size_toArray, hi.length]; exact hl, by simpa using vals_ints hi⟩
theorem topH_ok (hT : ∀ p ∈ cs, h.get? p.2 = some { cls := .none, data := .fields #[] }) (ha : h.get? a = some { cls := .type "list", data := .seq vs.toArray }) (hi : IntsAre vs ns) (hl : ns.length ≤ sizeLine) : HOk P w (topH K cs a vs ns) h := fun b o e => by
  rcases topH_of e with ⟨q, rfl⟩ | ⟨rfl, _, rfl⟩
  · exact tab_at hT q
  · exact ⟨ha, by rw [List.length_map]; exact hl, vs, _, vals_ints hi, ha⟩
/-- an object that is no list and no table is not tracked -/
theorem topH_non (hT : ∀ p ∈ cs, h.get? p.2 = some { cls := .none, data := .fields #[] }) (ha : h.get? a = some { cls := .type "list", data := .seq vs.toArray }) {ob : Obj} (e : h.get? b = some ob) (h1 : ∀ us n, ob.data ≠ .seq us n) (h2 : ob.data ≠ .fields #[]) : topH K cs a vs ns b = none := by
  cases q : topH K cs a vs ns b with
  | none => rfl
  | some u =>
    rcases topH_of q with ⟨z, _⟩ | ⟨rfl, _, _⟩
    · rw [tab_at hT z] at e
      exact absurd (congrArg Obj.data (Option.some.inj e)).symm h2
    · rw [ha] at e
      exact absurd (congrArg Obj.data (Option.some.inj e)).symm (h1 _ _)
theorem topH_K (hT : ∀ p ∈ cs, h.get? p.2 = some { cls := .none, data := .fields #[] }) (nT : ∀ p ∈ cs, K.lookup p.2 = none) {ob : Obj} (e : K.lookup b = some ob) : topH K cs a vs ns b = none := by
  cases q : topH K cs a vs ns b with
  | none => rfl
  | some u =>
    rcases topH_of q with ⟨z, _⟩ | ⟨rfl, z, _⟩
    · obtain ⟨p, hp, rfl⟩ := List.mem_map.mp z
      rw [nT p hp] at e
      cases e
    · rw [z] at e
      cases e
theorem Ns.top (hT : ∀ p ∈ cs, h.get? p.2 = some { cls := .none, data := .fields #[] }) (ha : h.get? a = some { cls := .type "list", data := .seq vs.toArray }) {d : Addr} {m : Str → Option Value} (e : h.Ns d m) : (hidT h (topH K cs a vs ns)).Ns d m := by
  obtain ⟨ob, es, ep, e1, e2, r⟩ := e
  exact ⟨ob, es, ep, hidT_get e1 (topH_non hT ha e1 (fun us n z => by rw [e2] at z; cases z) fun z => by rw [e2] at z; cases z), e2, r⟩
end
/-- the law is called on a script, nothing being shown -/
theorem law_callG {P : Program} {w : World} {K : PySem.W.Frag} {mg mb : Str → Option Value} {k : Nat} {fa a : Addr} {cs : List (Addr × Addr)} {fd : FuncData} {x : Str} {sp : Sp} {s : Shared} {vs : List Value} {ns : List Int} (KX : K.In s.heap) (hns : s.heap.Ns mainGlobals mg) (hb : s.heap.Ns builtinsNs mb) (hbb : ∀ x : Str, x ≠ "__name__" → mb x = bootBuiltins x) (hlim : s.heap.NoLimit) (hg : s.gens = #[])
    (hT : ∀ p ∈ cs, s.heap.get? p.2 = some { cls := .none, data := .fields #[] }) (nT : ∀ p ∈ cs, K.lookup p.2 = none) (C : ∀ p ∈ cs, PySem.W.CodeHd s.heap p.1 p.2)
    (hbm : ∃ (bm : Addr) (ob : Obj), mg "__builtins__" = some (.ref bm) ∧ bm ≠ builtinsNs ∧ s.heap.get? bm = some ob ∧ ob.cls = .type "module" ∧ ob.dict = some builtinsNs ∧ ob.data = .plain)
    (ha : s.heap.get? a = some { cls := .type "list", data := .seq vs.toArray }) (hi : IntsAre vs ns) (hl : ns.length ≤ sizeLine) (hr : Room k callerA)
    (F : ∀ base : Heap, K.In base → base.Ns mainGlobals mg → (∀ p ∈ cs, GxR.TabB base mg p.1 p.2) → FnG P w K mg base k fa fd [x] sp) (hbind : ∀ (s : Shared) (u : Value), BindsTo s fd ⟨[u], []⟩ [(x, u)])
    (hsp : ∀ H : Hp, (∀ p ∈ cs, H p.2 = some (.tbl #[])) → SqL K H a (ns.map V.int) → sp [.ref a] H (fun v _ => v = .bl true) E0) :
    codeAny (model P w) callerA (.call (.ref fa) ⟨[.ref a], []⟩) (fun r s' => r = .ok (.ret (.bool true)) ∧ OldK s.heap s'.heap ∧ s'.os = s.os ∧ AllBare s'.gens) s := by
  have hH : ∀ p ∈ cs, topH K cs a vs ns p.2 = some (.tbl #[]) := fun p hp => topH_tab hp
  have hok : HOk P w (topH K cs a vs ns) s.heap := topH_ok hT ha hi hl
  have hKb : K.In (hidT s.heap (topH K cs a vs ns)) := fun b ob e => hidT_get (KX b ob e) (topH_K hT nT e)
  have gG := Ns.top (K := K) (ns := ns) hT ha hns
  have TB : ∀ p ∈ cs, GxR.TabB (hidT s.heap (topH K cs a vs ns)) mg p.1 p.2 := fun p hp => by
    have hTp := hT p hp
    obtain ⟨bm, ob, b1, b2, b3, b4, b5, b6⟩ := hbm
    obtain ⟨og, eg, epg, q1, q2, _⟩ := hns
    refine ⟨?_, ⟨bm, ob, b1, b2, fun z => ?_, fun z => ?_, hidT_get b3 (topH_non hT ha b3 (fun us n z => by rw [b6] at z; cases z) fun z => by rw [b6] at z; cases z), b4, b5, b6⟩, fun z => ?_⟩
    · obtain ⟨o, us, file, tf, flags, tg, inF, text, tt, e1, r1, r2, r3, r⟩ := C p hp
      refine ⟨o, us, file, tf, flags, tg, inF, text, tt, hidT_get e1 (topH_non hT ha e1 (fun us n z => by rw [r2] at z; cases z) fun z => ?_), r1, r2, r3, r⟩
      rw [r2] at z
      cases z
      simp at r3
    · rw [z, q1] at b3
      cases b3
      rw [q2] at b6
      cases b6
    · rw [z, hTp] at b3
      cases b3
      cases b6
    · rw [z, hTp] at q1
      cases q1
      cases q2
  have e0 : Env0 P w K mg (hidT s.heap (topH K cs a vs ns)) callerA [] s (topH K cs a vs ns) :=
    ⟨rfl, ⟨hKb, gG, ⟨mb, Ns.top hT ha hb, hbb⟩, hlim.imp fun mc h1 => ⟨Ns.top hT ha h1.1, h1.2⟩⟩, fun b o e => of_hidT e, Nat.le_of_eq (hidT_size _ _), trivial, fun b hb => absurd (show b ∈ ([] : List Addr) from hb) (by simp), hok, .of_eq hg⟩
  refine codeAny_mono ((F _ hKb gG TB).run callerA [] s (topH K cs a vs ns) ⟨[.ref a], []⟩ [.ref a] [.ref a] _ _ hr rfl e0 (hbind s (.ref a)) (.cons rfl .nil) (hsp _ hH (topH_sq hT ha KX hi hl))) fun r s' h => ?_
  match r, h with
  | .error e, h => exact False.elim h
  | .ok .next, h => exact False.elim h
  | .ok .brk, h => exact False.elim h
  | .ok .cont, h => exact False.elim h
  | .ok (.ret u), ⟨v, H', os, bare, un, hok', r', q⟩ =>
    obtain rfl : v = .bl true := q
    obtain rfl : u = Value.bool true := r'
    have old : ∀ b o, b ∉ cs.map (·.2) → s.heap.get? b = some o → s'.heap.get? b = some o := fun b o nb e => by
      cases q : topH K cs a vs ns b with
      | none => exact un.keep b o e q (fun z => absurd (show b ∈ ([] : List Addr) from z) (by simp)) (by simp)
      | some u =>
        rcases topH_of q with ⟨z, _⟩ | ⟨rfl, _, rfl⟩
        · exact absurd z nb
        · rw [ha] at e
          obtain rfl := Option.some.inj e
          exact (hok' _ _ (un.frzs _ _ _ q)).1
    have tabs : ∀ p ∈ cs, ∃ more : Array Value, s'.heap.get? p.2 = some { cls := .none, data := .fields more } := fun p hp => let ⟨more, z⟩ := un.tbls p.2 #[] (hH p hp); ⟨_, hok' p.2 _ z⟩
    refine ⟨rfl, ⟨fun b o e => ?_, fun b o e => ?_⟩, os, bare⟩
    all_goals by_cases hb : b ∈ cs.map (·.2)
    · obtain ⟨p, hp, rfl⟩ := List.mem_map.mp hb
      obtain ⟨more, hm⟩ := tabs p hp
      obtain rfl := Option.some.inj ((hT p hp).symm.trans e)
      exact .inr (.inl ⟨((C p hp).tab (hT p hp)).isCodeTable, rfl, #[], more, rfl, by rw [Array.empty_append]; exact hm⟩)
    · exact .inl (old b o hb e)
    · obtain ⟨p, hp, rfl⟩ := List.mem_map.mp hb
      obtain ⟨more, hm⟩ := tabs p hp
      exact ⟨_, hm⟩
    · exact ⟨o, old b o hb e⟩
end Ln


set_option Elab.async false
set_option linter.all false
set_option maxRecDepth 100000
set_option maxHeartbeats 2000000
namespace Ln
open PySem PySem.Spec PyProof.Rows L2 GxR LamX
/-! ### what the top has written -/
theorem kb_two {K : PySem.W.Frag} {x : Str} {st : Stmt} {f : Addr} {fd : FuncData} (F : Fun K x x st f fd)
    (h : ∀ (kV doc pm : Value) (an : Option Addr) (cdv ct u v : Value), bindArgs (PySem.W.fnOf x x (defArgs st) (defBody st) (defScope st) .none kV doc pm an cdv ct) ⟨[], [("log", u), ("start", v)]⟩ = (pure [("start", v), ("log", u)] : Sem (List (Str × Value)))) : KBinds K fd ["start", "log"] ["log", "start"] sw2 sw2 := by
  obtain ⟨oc, od, kV, doc, pm, an, cdv, ct, osl, rfl, lk, hcd⟩ := F.ex
  refine ⟨fun s us ws hK hl => ?_, fun {vs us zs ws} r1 r2 => ?_⟩
  · match us, ws, hl with
    | [], [u, v], _ => exact .of_eq (h kV doc pm an cdv ct u v)
  · match r1, r2 with
    | .nil, .nil => exact .nil
    | .nil, .cons _ .nil => exact .nil
    | .nil, .cons a (.cons b .nil) => exact .cons b (.cons a .nil)
    | .nil, .cons a (.cons b (.cons c d)) => exact .nil
    | .cons a b, _ => exact .nil
theorem kb_three {K : PySem.W.Frag} {x : Str} {st : Stmt} {f : Addr} {fd : FuncData} (F : Fun K x x st f fd)
    (h : ∀ (kV doc pm : Value) (an : Option Addr) (cdv ct u v y : Value), bindArgs (PySem.W.fnOf x x (defArgs st) (defBody st) (defScope st) .none kV doc pm an cdv ct) ⟨[], [("sides", u), ("log", v), ("start", y)]⟩ = (pure [("start", y), ("log", v), ("sides", u)] : Sem (List (Str × Value)))) : KBinds K fd ["start", "log", "sides"] ["sides", "log", "start"] sw3 sw3 := by
  obtain ⟨oc, od, kV, doc, pm, an, cdv, ct, osl, rfl, lk, hcd⟩ := F.ex
  refine ⟨fun s us ws hK hl => ?_, fun {vs us zs ws} r1 r2 => ?_⟩
  · match us, ws, hl with
    | [], [u, v, y], _ => exact .of_eq (h kV doc pm an cdv ct u v y)
  · match r1, r2 with
    | .nil, .nil => exact .nil
    | .nil, .cons _ .nil => exact .nil
    | .nil, .cons a (.cons b .nil) => exact .nil
    | .nil, .cons a (.cons b (.cons c .nil)) => exact .cons c (.cons b (.cons a .nil))
    | .nil, .cons a (.cons b (.cons c (.cons d e))) => exact .nil
    | .cons a b, _ => exact .nil
structure DefR (K : PySem.W.Frag) (x : Str) (st : Stmt) : Prop where
  ex : ∃ (f : Addr) (fd : FuncData), PySem.W.nsIn K mainGlobals x = some (some (.ref f)) ∧ Fun K x x st f fd
structure DefC (K : PySem.W.Frag) (x : Str) (st : Stmt) : Prop where
  ex : ∃ (f c p : Addr) (fd : FuncData), PySem.W.nsIn K mainGlobals x = some (some (.ref f)) ∧ FunC K x x st f fd c ∧ PySem.W.tabIn K x = some (c, p) ∧ K.lookup p = none
theorem def_mk {K : PySem.W.Frag} {x : Str} {st : Stmt} {f : Addr} {oc : Value} {od an : Option Addr} {osl : Array (Option Value)} {kV doc pm cdv ct : Value} (a : PySem.W.nsIn K mainGlobals x = some (some (.ref f)))
    (l : K.lookup f = some ⟨oc, od, .func (PySem.W.fnOf x x (defArgs st) (defBody st) (defScope st) .none kV doc pm an cdv ct), osl⟩) (c : PySem.W.codeIn K cdv x = true) (k : PySem.W.keepIn K (.ref f) = true) : DefR K x st := ⟨⟨_, _, a, fun_mk l c k⟩⟩
theorem defC_mk {K : PySem.W.Frag} {x : Str} {st : Stmt} {f cd p : Addr} {oc o1 : Value} {od an o2 : Option Addr} {osl o3 : Array (Option Value)} {us : Array Value} {kV doc pm ct : Value} (a : PySem.W.nsIn K mainGlobals x = some (some (.ref f)))
    (l : K.lookup f = some ⟨oc, od, .func (PySem.W.fnOf x x (defArgs st) (defBody st) (defScope st) .none kV doc pm an (.ref cd) ct), osl⟩) (c : PySem.W.codeIn K (.ref cd) x = true) (k : PySem.W.keepIn K (.ref f) = true)
    (lc : K.lookup cd = some ⟨o1, o2, .fields us, o3⟩) (hv : us[11]? = some (.ref p)) (hn : K.lookup p = none) : DefC K x st := by
  refine ⟨_, cd, p, _, a, ⟨⟨oc, od, kV, doc, pm, an, ct, osl, rfl, l, c⟩, k⟩, ?_, hn⟩
  unfold PySem.W.tabIn
  rw [a]
  simp only [l, PySem.W.fnOf, lc, hv]
/-- the tables, and the law's own promise -/
structure AllAt (P : Program) (w : World) (K : PySem.W.Frag) (mg : Str → Option Value) (fa : Addr) (cs : List (Addr × Addr)) (fd : FuncData) : Prop where
  bind : ∀ (s : Shared) (u : Value), BindsTo s fd ⟨[u], []⟩ [("script", u)]
  ok : ∀ base : Heap, K.In base → base.Ns mainGlobals mg → (∀ p ∈ cs, GxR.TabB base mg p.1 p.2) → FnG P w K mg base 10 fa fd ["script"] (spLaw K (cs.map (·.2)))
theorem all_mk {P : Program} {w : World} {K : PySem.W.Frag} {h : Heap} {mg : Str → Option Value} {fa : Addr} (X : K.In h) (G : h.Ns mainGlobals mg) (hfa : mg "law" = some (.ref fa))
    (D_is_car : DefC K "is_car" sIsCar)
    (D_is_side : DefR K "is_side" sIsSide)
    (D_is_lane : DefC K "is_lane" sIsLane)
    (D_is_arrival : DefR K "is_arrival" sIsArr)
    (D_is_departure : DefR K "is_departure" sIsDep)
    (D_has_word : DefR K "has_word" sHasW)
    (D_is_log : DefR K "is_log" sIsLog)
    (D_require_lane : DefR K "require_lane" sReqLane)
    (D_require_log : DefR K "require_log" sReqLog)
    (D_require_sides : DefC K "require_sides" sReqSides)
    (D_sizes : DefR K "sizes" sSizes)
    (D_numbers : DefR K "numbers" sNumbers)
    (D_replay : DefR K "replay" sReplay)
    (D_law_source : DefR K "_law_source" sSource)
    (D_law_draw : DefR K "_law_draw" sDraw)
    (D_law_mixed : DefR K "_law_mixed" sMixed)
    (D_law_vehicles : DefR K "_law_vehicles" sVeh)
    (D_law_happened : DefR K "_law_happened" sHap)
    (D_law_rows : DefR K "_law_rows" sRows)
    (D_law_right : DefR K "_law_right" sRight)
    (D_law : DefR K "law" sLaw)
    (D_move : DefR K "move" sMove)
    (z_isinstance : PySem.W.nsIn K mainGlobals "isinstance" = some none)
    (z_len : PySem.W.nsIn K mainGlobals "len" = some none)
    (z_all : PySem.W.nsIn K mainGlobals "all" = some none)
    (z_str : PySem.W.nsIn K mainGlobals "str" = some none)
    (z_tuple : PySem.W.nsIn K mainGlobals "tuple" = some none)
    (z_list : PySem.W.nsIn K mainGlobals "list" = some none)
    (z_set : PySem.W.nsIn K mainGlobals "set" = some none)
    (z_zip : PySem.W.nsIn K mainGlobals "zip" = some none)
    (z_max : PySem.W.nsIn K mainGlobals "max" = some none)
    (z_min : PySem.W.nsIn K mainGlobals "min" = some none)
    (z_abs : PySem.W.nsIn K mainGlobals "abs" = some none)
    (z_range : PySem.W.nsIn K mainGlobals "range" = some none)
    (z_repr : PySem.W.nsIn K mainGlobals "repr" = some none)
    : ∃ (c1 p1 c2 p2 c3 p3 : Addr) (fd : FuncData), PySem.W.tabIn K "is_car" = some (c1, p1) ∧ PySem.W.tabIn K "is_lane" = some (c2, p2) ∧ PySem.W.tabIn K "require_sides" = some (c3, p3) ∧ K.lookup p1 = none ∧ K.lookup p2 = none ∧ K.lookup p3 = none ∧
      AllAt P w K mg fa [(c1, p1), (c2, p2), (c3, p3)] fd := by
  have nn : ∀ {x : Str}, PySem.W.nsIn K mainGlobals x = some none → mg x = none := fun e => PySem.W.mg_none_of X G e
  have B : Bi mg := ⟨nn z_isinstance, nn z_len, nn z_all, nn z_str, nn z_tuple, nn z_list, nn z_set, nn z_zip⟩
  have B2 : Bl mg := ⟨nn z_max, nn z_min, nn z_abs, nn z_range, nn z_repr⟩
  obtain ⟨f0, c1, p1, fd0, a0, F0, t1, n1⟩ := D_is_car.ex
  have m0 := PySem.W.mg_of X G a0
  obtain ⟨f1, fd1, a1, F1⟩ := D_is_side.ex
  have m1 := PySem.W.mg_of X G a1
  obtain ⟨f2, c2, p2, fd2, a2, F2, t2, n2⟩ := D_is_lane.ex
  have m2 := PySem.W.mg_of X G a2
  obtain ⟨f3, fd3, a3, F3⟩ := D_is_arrival.ex
  have m3 := PySem.W.mg_of X G a3
  obtain ⟨f4, fd4, a4, F4⟩ := D_is_departure.ex
  have m4 := PySem.W.mg_of X G a4
  obtain ⟨f5, fd5, a5, F5⟩ := D_has_word.ex
  have m5 := PySem.W.mg_of X G a5
  obtain ⟨f6, fd6, a6, F6⟩ := D_is_log.ex
  have m6 := PySem.W.mg_of X G a6
  obtain ⟨f7, fd7, a7, F7⟩ := D_require_lane.ex
  have m7 := PySem.W.mg_of X G a7
  obtain ⟨f8, fd8, a8, F8⟩ := D_require_log.ex
  have m8 := PySem.W.mg_of X G a8
  obtain ⟨f9, c3, p3, fd9, a9, F9, t3, n3⟩ := D_require_sides.ex
  have m9 := PySem.W.mg_of X G a9
  obtain ⟨f10, fd10, a10, F10⟩ := D_sizes.ex
  have m10 := PySem.W.mg_of X G a10
  obtain ⟨f11, fd11, a11, F11⟩ := D_numbers.ex
  have m11 := PySem.W.mg_of X G a11
  obtain ⟨f12, fd12, a12, F12⟩ := D_replay.ex
  have m12 := PySem.W.mg_of X G a12
  obtain ⟨f13, fd13, a13, F13⟩ := D_law_source.ex
  have m13 := PySem.W.mg_of X G a13
  obtain ⟨f14, fd14, a14, F14⟩ := D_law_draw.ex
  have m14 := PySem.W.mg_of X G a14
  obtain ⟨f15, fd15, a15, F15⟩ := D_law_mixed.ex
  have m15 := PySem.W.mg_of X G a15
  obtain ⟨f16, fd16, a16, F16⟩ := D_law_vehicles.ex
  have m16 := PySem.W.mg_of X G a16
  obtain ⟨f17, fd17, a17, F17⟩ := D_law_happened.ex
  have m17 := PySem.W.mg_of X G a17
  obtain ⟨f18, fd18, a18, F18⟩ := D_law_rows.ex
  have m18 := PySem.W.mg_of X G a18
  obtain ⟨f19, fd19, a19, F19⟩ := D_law_right.ex
  have m19 := PySem.W.mg_of X G a19
  obtain ⟨f20, fd20, a20, F20⟩ := D_law.ex
  have m20 := PySem.W.mg_of X G a20
  obtain ⟨f21, fd21, a21, F21⟩ := D_move.ex
  have m21 := PySem.W.mg_of X G a21
  have b0 : Binds K fd0 ["value"] [] := F0.fn.binds fun _ _ _ _ _ _ us hl => match us, hl with | [_], _ => rfl
  have b1 : Binds K fd1 ["value"] [] := F1.binds fun _ _ _ _ _ _ us hl => match us, hl with | [_], _ => rfl
  have b2 : Binds K fd2 ["value"] [] := F2.fn.binds fun _ _ _ _ _ _ us hl => match us, hl with | [_], _ => rfl
  have b3 : Binds K fd3 ["value"] [] := F3.binds fun _ _ _ _ _ _ us hl => match us, hl with | [_], _ => rfl
  have b4 : Binds K fd4 ["value"] [] := F4.binds fun _ _ _ _ _ _ us hl => match us, hl with | [_], _ => rfl
  have b5 : Binds K fd5 ["value", "word", "length"] [] := F5.binds fun _ _ _ _ _ _ us hl => match us, hl with | [_, _, _], _ => rfl
  have b6 : Binds K fd6 ["start", "value"] [] := F6.binds fun _ _ _ _ _ _ us hl => match us, hl with | [_, _], _ => rfl
  have b7 : Binds K fd7 ["value"] [] := F7.binds fun _ _ _ _ _ _ us hl => match us, hl with | [_], _ => rfl
  have b8 : Binds K fd8 ["start", "log"] [] := F8.binds fun _ _ _ _ _ _ us hl => match us, hl with | [_, _], _ => rfl
  have b9 : Binds K fd9 ["log", "sides"] [] := F9.fn.binds fun _ _ _ _ _ _ us hl => match us, hl with | [_, _], _ => rfl
  have b10 : Binds K fd10 ["start", "log"] [] := F10.binds fun _ _ _ _ _ _ us hl => match us, hl with | [_, _], _ => rfl
  have b11 : Binds K fd11 ["start", "log"] [] := F11.binds fun _ _ _ _ _ _ us hl => match us, hl with | [_, _], _ => rfl
  have b12 : Binds K fd12 ["start", "log", "sides"] [] := F12.binds fun _ _ _ _ _ _ us hl => match us, hl with | [_, _, _], _ => rfl
  have b13 : Binds K fd13 ["script", "k"] [] := F13.binds fun _ _ _ _ _ _ us hl => match us, hl with | [_, _], _ => rfl
  have b14 : Binds K fd14 ["source", "limit"] [] := F14.binds fun _ _ _ _ _ _ us hl => match us, hl with | [_, _], _ => rfl
  have b15 : Binds K fd15 ["source", "things"] [] := F15.binds fun _ _ _ _ _ _ us hl => match us, hl with | [_, _], _ => rfl
  have b16 : Binds K fd16 ["source", "count"] [] := F16.binds fun _ _ _ _ _ _ us hl => match us, hl with | [_, _], _ => rfl
  have b17 : Binds K fd17 ["source", "present", "spare", "most"] [] := F17.binds fun _ _ _ _ _ _ us hl => match us, hl with | [_, _, _, _], _ => rfl
  have b18 : Binds K fd18 ["initial", "happened", "moves"] [] := F18.binds fun _ _ _ _ _ _ us hl => match us, hl with | [_, _, _], _ => rfl
  have b19 : Binds K fd19 ["initial", "happened", "moves"] [] := F19.binds fun _ _ _ _ _ _ us hl => match us, hl with | [_, _, _], _ => rfl
  have b21 : Binds K fd21 ["present", "event", "side"] [] := F21.binds fun _ _ _ _ _ _ us hl => match us, hl with | [_, _, _], _ => rfl
  obtain rfl : fa = f20 := by
    have e := hfa.symm.trans m20
    cases e
    rfl
  refine ⟨c1, p1, c2, p2, c3, p3, fd20, t1, t2, t3, n1, n2, n3, ?_, fun base Kb Gb TB => ?_⟩
  · obtain ⟨oc, od, kV, doc, pm, an, cdv, ct, osl, rfl, lk, hcd⟩ := F20.ex
    exact fun s u => .of_eq rfl
  have TB1 := TB (c1, p1) List.mem_cons_self
  have TB2 := TB (c2, p2) (List.mem_cons_of_mem _ List.mem_cons_self)
  have TB3 := TB (c3, p3) (List.mem_cons_of_mem _ (List.mem_cons_of_mem _ List.mem_cons_self))
  have h1 : p1 ∈ [p1, p2, p3] := List.mem_cons_self
  have h2 : p2 ∈ [p1, p2, p3] := List.mem_cons_of_mem _ List.mem_cons_self
  have h3 : p3 ∈ [p1, p2, p3] := List.mem_cons_of_mem _ (List.mem_cons_of_mem _ List.mem_cons_self)
  have G0 : FnOk P w K mg base CX0 2 f0 fd0 ["value"] (spCar [p1, p2, p3]) := ok_car F0 B TB1 h1
  have G1 : FnOk P w K mg base CX0 1 f1 fd1 ["value"] (spSide [p1, p2, p3]) := ok_side F1 B
  have G2 : FnOk P w K mg base CX0 4 f2 fd2 ["value"] (spLane K [p1, p2, p3]) := ok_lane F2 B TB2 h2 G0 m0 F0.kp b0
  have G5 : FnOk P w K mg base CX0 1 f5 fd5 ["value", "word", "length"] (spHasW K) := ok_hasW F5 B
  have G3 : FnOk P w K mg base CX0 3 f3 fd3 ["value"] (spEv K [p1, p2, p3] arrB) := ok_arr F3 G5 m5 F5.kp b5 G0 m0 F0.kp b0
  have G4 : FnOk P w K mg base CX0 2 f4 fd4 ["value"] (spEv K [p1, p2, p3] depB) := ok_dep F4 G5 m5 F5.kp b5
  have G7 : FnOk P w K mg base CX0 5 f7 fd7 ["value"] (spReqLane K [p1, p2, p3]) := ok_reqLane F7 G2 m2 F2.kp b2
  have G6 : FnOk P w K mg base CX0 6 f6 fd6 ["start", "value"] (spLog K [p1, p2, p3]) := ok_log F6 B G7 m7 F7.kp b7 G3 m3 F3.kp b3 G4 m4 F4.kp b4
  have G8 : FnOk P w K mg base CX0 7 f8 fd8 ["start", "log"] (spReqLog K [p1, p2, p3]) := ok_reqLog F8 G6 m6 F6.kp b6
  have G9 : FnOk P w K mg base CX0 3 f9 fd9 ["log", "sides"] (spReqSides K [p1, p2, p3]) := ok_reqSides F9 B TB3 h3 G1 m1 F1.kp b1
  have G10 : FnOk P w K mg base CX0 8 f10 fd10 ["start", "log"] (spSizes K [p1, p2, p3]) := ok_sizes F10 B G8 m8 F8.kp b8
  have G11 : FnOk P w K mg base CX0 8 f11 fd11 ["start", "log"] (spNumbers K [p1, p2, p3]) := ok_numbers F11 B G8 m8 F8.kp b8
  have G21 : FnOk P w K mg base CX0 1 f21 fd21 ["present", "event", "side"] (spMove K) := ok_move F21 B
  have G12 : FnOk P w K mg base CX0 8 f12 fd12 ["start", "log", "sides"] (spReplay K [p1, p2, p3]) := ok_replay F12 B G8 m8 F8.kp b8 G9 m9 F9.kp b9 G21 m21 F21.kp b21
  have G13 : FnOk P w K mg base CX0 1 f13 fd13 ["script", "k"] (spSource K) := ok_source F13 B B2
  have G14 : FnOk P w K mg base CX0 1 f14 fd14 ["source", "limit"] (spDraw) := ok_draw F14
  have G15 : FnOk P w K mg base CX0 2 f15 fd15 ["source", "things"] (spMixed K) := ok_mixed F15 B B2 G14 m14 F14.kp b14
  have G16 : FnOk P w K mg base CX0 3 f16 fd16 ["source", "count"] (spVeh) := ok_veh F16 B B2 G14 m14 F14.kp b14 G15 m15 F15.kp b15
  have G17 : FnOk P w K mg base CX0 2 f17 fd17 ["source", "present", "spare", "most"] (spHap K) := ok_hap F17 B B2 G14 m14 F14.kp b14
  have G18 : FnOk P w K mg base CX0 1 f18 fd18 ["initial", "happened", "moves"] (spRows K) := ok_rows F18 B
  have kb10 : KBinds K fd10 ["start", "log"] ["log", "start"] sw2 sw2 := kb_two F10 fun _ _ _ _ _ _ _ _ => rfl
  have kb11 : KBinds K fd11 ["start", "log"] ["log", "start"] sw2 sw2 := kb_two F11 fun _ _ _ _ _ _ _ _ => rfl
  have kb12 : KBinds K fd12 ["start", "log", "sides"] ["sides", "log", "start"] sw3 sw3 := kb_three F12 fun _ _ _ _ _ _ _ _ _ => rfl
  have G19 : FnG P w K mg base 9 f19 fd19 ["initial", "happened", "moves"] (spRight K [p1, p2, p3]) := ok_right F19 B B2 G10 m10 F10.kp b10 kb10 G11 m11 F11.kp b11 kb11 G12 m12 F12.kp b12 kb12 G18 m18 F18.kp b18
  exact ok_law F20 B B2 G13 m13 F13.kp b13 G14 m14 F14.kp b14 G16 m16 F16.kp b16 G17 m17 F17.kp b17 G19 m19 F19.kp b19
end Ln


set_option Elab.async false
set_option linter.all false
set_option maxRecDepth 100000
set_option maxHeartbeats 2000000
namespace Ln
open PySem PySem.Spec PyProof.Rows L2 GxR LamX
theorem walk_G {l : PySem.W.OpenLaw} {n : Nat} {q : Program} {loose : List Str} {XP : (Str → Option Value) → Heap → Prop} {YP : World → Heap → Prop} {d d1 d2 d3 : DefRec} {K : Params → PySem.W.Frag} (hn : l.most = some n) (hn2 : n ≤ sizeLine) (hdf : d.params.defaults = []) (hY : ∀ (w : World) (h : Heap), YP w h → (K w.params).In h)
    (r1 : (recsOf q).find? (fun e => e.name == PySem.Str.ofString "is_car") = some d1) (r2 : (recsOf q).find? (fun e => e.name == PySem.Str.ofString "is_lane") = some d2) (r3 : (recsOf q).find? (fun e => e.name == PySem.Str.ofString "require_sides") = some d3)
    (F : ∀ (w : World) (mg : Str → Option Value) (fa : Addr) (h : Heap), (K w.params).In h → h.Ns mainGlobals mg → mg d.name = some (.ref fa) → ∃ (c1 p1 c2 p2 c3 p3 : Addr) (fd : FuncData), PySem.W.tabIn (K w.params) "is_car" = some (c1, p1) ∧ PySem.W.tabIn (K w.params) "is_lane" = some (c2, p2) ∧ PySem.W.tabIn (K w.params) "require_sides" = some (c3, p3) ∧
      (K w.params).lookup p1 = none ∧ (K w.params).lookup p2 = none ∧ (K w.params).lookup p3 = none ∧ AllAt l.prog w (K w.params) mg fa [(c1, p1), (c2, p2), (c3, p3)] fd) :
    PySem.W.WalkO q loose XP YP l.row.toRowW d [] (fun f vs => PySem.call f vs) := by
  refine Att.attach_callB hn hdf fun w s₀ s₁ mg mb fa o pm cd doc a vs ns G Y ho hd hcd hmg hobj hints hlen hbits hg => ?_
  have KX := hY w _ Y
  obtain ⟨c1, p1, c2, p2, c3, p3, fd, t1, t2, t3, n1, n2, n3, all⟩ := F w mg fa _ KX G.T.g hmg
  have T1 := PySem.W.tab_of G.T KX r1 t1
  have T2 := PySem.W.tab_of G.T KX r2 t2
  have T3 := PySem.W.tab_of G.T KX r3 t3
  have three : ∀ {φ : Addr × Addr → Prop}, φ (c1, p1) → φ (c2, p2) → φ (c3, p3) → ∀ p ∈ [(c1, p1), (c2, p2), (c3, p3)], φ p := fun x y z p hp => by
    rcases List.mem_cons.mp hp with rfl | hp
    · exact x
    rcases List.mem_cons.mp hp with rfl | hp
    · exact y
    rcases List.mem_cons.mp hp with rfl | hp
    · exact z
    cases hp
  refine law_callG KX G.T.g G.T.b G.T.builtins G.T.nolimit hg (three T1.2 T2.2 T3.2) (three n1 n2 n3) (three T1.1 T2.1 T3.1) G.T.bmain hobj hints (Nat.le_trans hlen hn2) ⟨rfl, by decide, by decide⟩ all.ok all.bind fun H hH hS => ⟨a, ns, rfl, hS, fun p hp => ?_, fun H' _ => rfl⟩
  obtain ⟨x, hx, rfl⟩ := List.mem_map.mp hp
  exact ⟨#[], hH x hx, by first | trivial | exact .nil | simp [TriplesOk]⟩
end Ln


set_option maxRecDepth 100000
open PySem PySem.W PyProof.Rows
set_option maxHeartbeats 0 in
theorem PySem.Challenge.cw_openlane_k01_sizes_numbers_replay_holds : PySem.Challenge.rw_openlane_k01_sizes_numbers_replay.Holds := by
  w_on; o_law; k_head; (case hw => w_witness2)
  k_fill
  refine Ln.walk_G (l := PySem.Challenge.rw_openlane_k01_sizes_numbers_replay) (n := 63) rfl (by decide) rfl (fun w h Y => PySem.W.kIn_of Y) rfl rfl rfl ?F
  case F =>
    intro w mg fa h KX G hmg
    refine' Ln.all_mk KX G hmg ?D0 ?D1 ?D2 ?D3 ?D4 ?D5 ?D6 ?D7 ?D8 ?D9 ?D10 ?D11 ?D12 ?D13 ?D14 ?D15 ?D16 ?D17 ?D18 ?D19 ?D20 ?D21 ?z0 ?z1 ?z2 ?z3 ?z4 ?z5 ?z6 ?z7 ?z8 ?z9 ?z10 ?z11 ?z12
    (case D0 => refine' Ln.defC_mk ?a ?l ?c ?k ?lc ?hv ?hn; (case a => k_is); (case l => k_is); (case c => k_is); (case k => k_is); (case lc => k_is); (case hv => rfl); (case hn => kernel_rfl))
    (case D1 => refine' Ln.def_mk ?a ?l ?c ?k; (case a => k_is); (case l => k_is); (case c => k_is); (case k => k_is))
    (case D2 => refine' Ln.defC_mk ?a ?l ?c ?k ?lc ?hv ?hn; (case a => k_is); (case l => k_is); (case c => k_is); (case k => k_is); (case lc => k_is); (case hv => rfl); (case hn => kernel_rfl))
    (case D3 => refine' Ln.def_mk ?a ?l ?c ?k; (case a => k_is); (case l => k_is); (case c => k_is); (case k => k_is))
    (case D4 => refine' Ln.def_mk ?a ?l ?c ?k; (case a => k_is); (case l => k_is); (case c => k_is); (case k => k_is))
    (case D5 => refine' Ln.def_mk ?a ?l ?c ?k; (case a => k_is); (case l => k_is); (case c => k_is); (case k => k_is))
    (case D6 => refine' Ln.def_mk ?a ?l ?c ?k; (case a => k_is); (case l => k_is); (case c => k_is); (case k => k_is))
    (case D7 => refine' Ln.def_mk ?a ?l ?c ?k; (case a => k_is); (case l => k_is); (case c => k_is); (case k => k_is))
    (case D8 => refine' Ln.def_mk ?a ?l ?c ?k; (case a => k_is); (case l => k_is); (case c => k_is); (case k => k_is))
    (case D9 => refine' Ln.defC_mk ?a ?l ?c ?k ?lc ?hv ?hn; (case a => k_is); (case l => k_is); (case c => k_is); (case k => k_is); (case lc => k_is); (case hv => rfl); (case hn => kernel_rfl))
    (case D10 => refine' Ln.def_mk ?a ?l ?c ?k; (case a => k_is); (case l => k_is); (case c => k_is); (case k => k_is))
    (case D11 => refine' Ln.def_mk ?a ?l ?c ?k; (case a => k_is); (case l => k_is); (case c => k_is); (case k => k_is))
    (case D12 => refine' Ln.def_mk ?a ?l ?c ?k; (case a => k_is); (case l => k_is); (case c => k_is); (case k => k_is))
    (case D13 => refine' Ln.def_mk ?a ?l ?c ?k; (case a => k_is); (case l => k_is); (case c => k_is); (case k => k_is))
    (case D14 => refine' Ln.def_mk ?a ?l ?c ?k; (case a => k_is); (case l => k_is); (case c => k_is); (case k => k_is))
    (case D15 => refine' Ln.def_mk ?a ?l ?c ?k; (case a => k_is); (case l => k_is); (case c => k_is); (case k => k_is))
    (case D16 => refine' Ln.def_mk ?a ?l ?c ?k; (case a => k_is); (case l => k_is); (case c => k_is); (case k => k_is))
    (case D17 => refine' Ln.def_mk ?a ?l ?c ?k; (case a => k_is); (case l => k_is); (case c => k_is); (case k => k_is))
    (case D18 => refine' Ln.def_mk ?a ?l ?c ?k; (case a => k_is); (case l => k_is); (case c => k_is); (case k => k_is))
    (case D19 => refine' Ln.def_mk ?a ?l ?c ?k; (case a => k_is); (case l => k_is); (case c => k_is); (case k => k_is))
    (case D20 => refine' Ln.def_mk ?a ?l ?c ?k; (case a => k_is); (case l => k_is); (case c => k_is); (case k => k_is))
    (case D21 => refine' Ln.def_mk ?a ?l ?c ?k; (case a => k_is); (case l => k_is); (case c => k_is); (case k => k_is))
    (case z0 => k_is); (case z1 => k_is); (case z2 => k_is); (case z3 => k_is); (case z4 => k_is); (case z5 => k_is); (case z6 => k_is); (case z7 => k_is); (case z8 => k_is); (case z9 => k_is); (case z10 => k_is); (case z11 => k_is); (case z12 => k_is)
#print axioms PySem.Challenge.cw_openlane_k01_sizes_numbers_replay_holds

