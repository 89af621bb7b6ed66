import PyProof.Rows.All
import Wide.All
import OpenK.AllK
import Wide.FinOn
import HandS.AnyAll
import PyProof.GenQ
import PyProof.GenRules
import HandS.GenOver
import HandS.SetKeys
import HandS.Strs
import PyProof.WalksMore
import HandS.Base
import HandS.ForMost
import HandS.IsInst
import HandS.Wide
import HandS.Defaults
import HandS.Style
import HandS.Zip
import HandS.Flow
import HandS.DeepEq
import HandS.More
import HandS.Walk
import HandS.TupAny
import HandS.TupSets
import HandS.Iter
import KE.GoesEnum
import HandS.Conv
import HandS.CallLocal
import HandS.Exc
import HandS.ExcOwn
import HandS.ExcIs
import HandS.ExcValue
import HandS.WordsExc
import PyProof.Rows.RegFStrParts
import HandS.FStr
import HandS.RaiseMore
import HandS.EndTab
import KE.KNest
import PySem.Challenge.RW_openlane_k11_stayers_errors
set_option Elab.async false
set_option linter.all false
set_option maxRecDepth 100000
set_option maxHeartbeats 2000000
namespace Ln
open PySem PySem.Spec PyProof.Rows L2 GxR

theorem bare_set {s : Shared} {g : Nat} {x : GenState} (h : AllBare s.gens) (hx : x.bare = true) : AllBare (s.setGen g x).gens := by
  intro y hy
  obtain ⟨i, hi, e⟩ := Array.mem_iff_getElem.mp hy
  have sz : (s.setGen g x).gens.size = s.gens.size := by simp [Shared.setGen]
  have hi' : i < s.gens.size := by omega
  by_cases z : i = g
  · have q : (s.setGen g x).gens[i]? = some x := by
      show (s.gens.setIfInBounds g x)[i]? = some x
      subst z
      simp [hi']
    rw [Array.getElem?_eq_getElem hi, e] at q
    cases q
    exact hx
  · have q : (s.setGen g x).gens[i]? = s.gens[i]? := by
      show (s.gens.setIfInBounds g x)[i]? = s.gens[i]?
      exact Array.getElem?_setIfInBounds_ne (Ne.symm z)
    rw [Array.getElem?_eq_getElem hi, e] at q
    exact h y (Array.mem_of_getElem? q.symm)

/-- the context of a generator expression's own frame -/
def genCx (X : Cx) (cenv : Env) (A' : Around) (x : Str) (fp : List Addr) (s4 : Shared) (H4 : Hp) (pn : List (Addr × Obj)) : Cx where
  prog := X.prog
  w := X.w
  K := X.K
  mg := X.mg
  base := X.base
  A := A'
  N := [x]
  s_0 := s4
  H_0 := H4
  env := cenv
  outer := X.stack
  stack := cenv :: X.stack
  ex := fp
  fn := fun _ => true
  calm := true
  pn := pn
  xe := fun _ _ => False

structure GSc (scope : Scope) (x : Str) : Prop where
  kind : scope.kind = .function
  co : scope.isCoroutine = false
  cell : ∀ y ∈ scope.names, y.2 ≠ .cell
  free : ∀ y ∈ scope.names, y.2 ≠ .free
  dot : scope.names.lookup (".0" : Str) = some NameKind.local
  loc : scope.names.lookup x = some .local

theorem clo_nil {cells : List (Str × Addr)} : ∀ {names : List (Str × NameKind)} {acc : List (Str × Addr)}, (∀ y ∈ names, y.2 ≠ .free) → cloFrom cells names acc = acc
  | [], _, _ => rfl
  | (n, k) :: r, acc, h => by
    have hk : k ≠ .free := h (n, k) List.mem_cons_self
    unfold cloFrom
    rw [if_neg (by simpa using hk)]
    exact clo_nil fun y hy => h y (List.mem_cons_of_mem _ hy)

theorem over_comp {A : Around} {elt : Expr} {gs : List Comprehension} {scope : Scope} {pos : Pos} {it acc : Value} {env : Env} :
    A.over (.compLoop (.GeneratorExp elt gs scope pos) 0 it acc env) [] = A.deeper env := by
  first
    | rfl
    | (obtain ⟨hd, d, fr, gs, u⟩ := A; simp [Around.over, Around.deeper, marksOver, frameCount, unitsOf, envsOf, guardsOf, pushEnvs, pushGuards, Code.envs, Code.env?, Code.isFrame, Code.guards, Code.isGuard, Code.weight, Code.frames, Code.isCreation, Code.isCaller, Code.cUnits])
theorem over_start {A : Around} {elt : Expr} {gs : List Comprehension} {scope : Scope} {pos : Pos} {it acc : Value} {env : Env} :
    A.over (.compStart (.GeneratorExp elt gs scope pos) 0 it acc env) [] = A.deeper env := by
  first
    | rfl
    | (obtain ⟨hd, d, fr, gs, u⟩ := A; simp [Around.over, Around.deeper, marksOver, frameCount, unitsOf, envsOf, guardsOf, pushEnvs, pushGuards, Code.envs, Code.env?, Code.isFrame, Code.guards, Code.isGuard, Code.weight, Code.frames, Code.isCreation, Code.isCaller, Code.cUnits])


def YA (Y : Cx) (Q : VK) : Protocol := fun _ _ v s kap =>
  ∃ (b : Bool) (H : Hp), v = .bool b ∧ Inv Y [] [none] H s ∧ if b = true then ∀ s', s'.heap = s.heap → s'.os = s.os → AllBare s'.gens → kap (.send .none) s' else Q (.bl false) H
def RA (Y : Cx) (Q : VK) : Nat → Shared → Shared → Prop := fun _ _ s => ∃ H, Inv Y [] [none] H s ∧ Q (.bl true) H
def RestA (Y : Cx) (fp : List Addr) (tn : Nat → Heap → Prop) (W : Nat → Nat → Hp → Prop) (n i : Nat) (s : Shared) : Prop :=
  ∃ m H, m < n ∧ Inv Y [] [none] H s ∧ tn i s.heap ∧ (∀ b ∈ fp, H b = none) ∧ W i m H
/-- what is asked of each turn -/
def TurnA (J : It) (te : TE) (W : Nat → Nat → Hp → Prop) (Q : VK) : Prop := ∀ i m H, W i m H →
  (J.stop i H ∧ Q (.bl true) H) ∨ (J.go i H ∧ ∀ v H', J.yld i H v H' → te [some v] H' fun y H3 => ∃ b, y = .bl b ∧ if b = true then ∃ m', m' < m ∧ W (i + 1) m' H3 else Q (.bl false) H3)
theorem inv_none {Y : Cx} {v : Option V} {pins : List (Addr × Obj)} {H : Hp} {s : Shared} (I : Inv Y pins [v] H s) : Inv Y pins [none] H s :=
  I.weak rfl fun i u e => by
    match i, e with
    | 0, e => cases e
    | i + 1, e => simp at e
theorem inv_same {Y : Cx} {pins : List (Addr × Obj)} {σ : L2.St} {H : Hp} {s s' : Shared} (I : Inv Y pins σ H s) (hh : s'.heap = s.heap) (ho : s'.os = s.os) (hg : AllBare s'.gens) : Inv Y pins σ H s' :=
  I.call' (ch := []) ho (by rw [hh]; exact Un.refl) (by rw [hh]; exact I.hok) hg fun b z => by simp at z

section
variable {X : Cx} {elt iter : Expr} {x : Str} {px pos : Pos} {scope : Scope} {it : Addr} {fp : List Addr} {tn : Nat → Heap → Prop} {J : It} {te : TE} {W : Nat → Nat → Hp → Prop} {Q : VK} {cenv : Env} {s4 : Shared} {H4 : Hp} {pn : List (Addr × Obj)} {A2 : Around}
theorem seg_all (hsc : GSc scope x) (hcs : cenv.scope = scope)
    (hE : PE (genCx X cenv (A2.deeper cenv) x fp s4 H4 pn) elt te) (T : Turn X.prog X.w X.K (.Name x px) J fp it tn)
    (hst : ∀ H : Hp, (∀ b ∈ fp, H b = none) → ∀ b ∈ fp, FpOk (genCx X cenv (A2.deeper cenv) x fp s4 H4 pn) [] H b) (turn : TurnA J te W Q) :
    ∀ (n i : Nat) (s₀ s : Shared), RestA (genCx X cenv (A2.deeper cenv) x fp s4 H4 pn) fp tn W n i s →
      Seg (model X.prog X.w) A2 (fun n s₀ r s₁ => r = .ok .next ∧ RA (genCx X cenv (A2.deeper cenv) x fp s4 H4 pn) Q n s₀ s₁) (YA (genCx X cenv (A2.deeper cenv) x fp s4 H4 pn) Q) n s₀
        (.compLoop (.GeneratorExp elt [⟨.Name x px, iter, [], 0⟩] scope pos) 0 (.ref it) .none cenv)
        ((model X.prog X.w).den (.compLoop (.GeneratorExp elt [⟨.Name x px, iter, [], 0⟩] scope pos) 0 (.ref it) .none cenv)) [] s := by
  intro n
  induction n with
  | zero =>
    intro i s₀ s ⟨m, _, hm, _⟩
    exact absurd hm (Nat.not_lt_zero m)
  | succ n ih =>
    intro i s₀ s ⟨m, H, hm, I, st, fr, w⟩
    have ov : A2.over (.compLoop (.GeneratorExp elt [⟨.Name x px, iter, [], 0⟩] scope pos) 0 (.ref it) .none cenv) [] = A2.deeper cenv := over_comp
    show Seg _ A2 _ _ _ s₀ _ ((compTurn (.GeneratorExp elt [⟨.Name x px, iter, [], 0⟩] scope pos) 0 (.ref it) .none cenv).onRaise (leaving cenv)) [] s
    rw [compTurn_gen, Sem.onRaise_eq_wrap]
    refine seg_bind_wrap (wpAny_standAt (seg_bind_wrap ?_))
    rw [ov]
    rcases turn i m H w with ⟨stop, q⟩ | ⟨go, step⟩
    · refine thn (T.done (genCx X cenv (A2.deeper cenv) x fp s4 H4 pn) rfl rfl rfl rfl i [] s [none] H _ I (hst H fr) st stop) fun r s1 h1 => ?_
      obtain ⟨rfl, I1⟩ := h1
      exact seg_end (.ok .next) ⟨rfl, H, I1, q⟩
    · refine thn (T.item (genCx X cenv (A2.deeper cenv) x fp s4 H4 pn) rfl rfl rfl rfl i [] s [none] H _ I (hst H fr) st go) fun r s1 h1 => ?_
      obtain ⟨u, rfl, h1⟩ := h1
      refine seg_bind_wrap ?_
      rw [ov]
      refine thn h1 fun _ s2 h2 => ?_
      obtain ⟨v, H2, I2, r2, y2, st2, fr2⟩ := h2
      have I2' := I2.pinned (hst H2 fr2) (T.obj _ _ st2)
      refine seg_bind_wrap ?_
      rw [ov]
      have hpg : PG (genCx X cenv (A2.deeper cenv) x fp s4 H4 pn) (.Name x px) (gName 0) := pg_name (X := genCx X cenv (A2.deeper cenv) x fp s4 H4 pn) (List.nodup_cons.mpr ⟨by simp, List.nodup_nil⟩) rfl (.inl (by show cenv.scope.names.lookup x = _; rw [hcs]; exact hsc.loc)) (.inl rfl)
      refine wpAny_mono (hpg.run _ s2 [none] H2 v u (fun σ' H' => σ' = [some v] ∧ H' = H2) I2' r2 ⟨rfl, rfl⟩) (fun _ s3 h3 => ?_) fun _ _ z => False.elim z
      obtain ⟨σ3, H3, I3, e3, e4⟩ := h3
      subst e3
      have e4 := e4.symm
      subst e4
      refine seg_bind_wrap ?_
      refine wpAny_of_eq (a := true) (by simp only [List.forIn_nil]) ?_
      simp only [if_true]
      have hy : ∀ v, yieldOut cenv v = yieldValue v := fun v => by simp only [yieldOut, hcs, hsc.co, Bool.false_eq_true, if_false]
      simp only [hy]
      rw [Sem.bind_eq_wrap', Sem.bind_eq_wrap', Sem.wrap_wrap, Sem.wrap_wrap]
      refine seg_wrap ?_
      rw [ov]
      refine wpAny_mono (hE.run _ s3 [some v] H2 _ I3 (step v H2 y2)) (fun y s5 h5 => ?_) fun _ _ z => False.elim z
      obtain ⟨v5, H5, I5, r5, b, rfl, hb⟩ := h5
      obtain rfl : y = Value.bool b := r5
      have I6 := inv_none I5
      have fr5 : ∀ b ∈ fp, H5 b = none := fun c hc => by
        obtain ⟨o, e, d⟩ := T.obj _ _ st2 c hc
        exact (I5.pin (c, o) (List.mem_append_right _ (List.mem_append_right _ (mem_pinsAt hc e)))).2.1
      have st5 : tn (i + 1) s5.heap := T.keep _ _ _ st2 fun c hc o e => (I5.pin (c, o) (List.mem_append_right _ (List.mem_append_right _ (mem_pinsAt hc e)))).1
      refine seg_at (seg_yield rfl rfl rfl ⟨b, H5, rfl, I6.unpinned, ?_⟩)
      cases b with
      | false => exact hb
      | true =>
        obtain ⟨m', hm', w'⟩ := hb
        intro s6 hh ho hbare
        refine seg_again rfl (ih (i + 1) s6 s6 ⟨m', H5, by omega, inv_same I6.unpinned hh ho hbare, by rw [hh]; exact st5, fr5, w'⟩)
end

section
variable {X : Cx} {elt iter : Expr} {x : Str} {px pos : Pos} {scope : Scope} {it : Addr} {fp : List Addr} {tn : Nat → Heap → Prop} {J : It} {te : TE} {W : Nat → Nat → Hp → Prop} {Q : VK} {cenv : Env} {s4 : Shared} {H4 : Hp} {pn : List (Addr × Obj)} {A2 : Around}
theorem seg_all0 (hsc : GSc scope x) (hcs : cenv.scope = scope)
    (hE : PE (genCx X cenv (A2.deeper cenv) x fp s4 H4 pn) elt te) (T : Turn X.prog X.w X.K (.Name x px) J fp it tn)
    (hst : ∀ H : Hp, (∀ b ∈ fp, H b = none) → ∀ b ∈ fp, FpOk (genCx X cenv (A2.deeper cenv) x fp s4 H4 pn) [] H b) (turn : TurnA J te W Q)
    (n : Nat) (s₀ s : Shared) (h : RestA (genCx X cenv (A2.deeper cenv) x fp s4 H4 pn) fp tn W n 0 s) :
      Seg (model X.prog X.w) A2 (fun n s₀ r s₁ => r = .ok .next ∧ RA (genCx X cenv (A2.deeper cenv) x fp s4 H4 pn) Q n s₀ s₁) (YA (genCx X cenv (A2.deeper cenv) x fp s4 H4 pn) Q) n s₀
        (.compStart (.GeneratorExp elt [⟨.Name x px, iter, [], 0⟩] scope pos) 0 (.ref it) .none cenv)
        ((model X.prog X.w).den (.compStart (.GeneratorExp elt [⟨.Name x px, iter, [], 0⟩] scope pos) 0 (.ref it) .none cenv)) [] s := by
  have hl := seg_all (iter := iter) (pos := pos) hsc hcs hE T hst turn n 0 s₀ s h
  obtain ⟨m, H, _, I, st, _⟩ := h
  show Seg _ A2 _ _ _ s₀ _ ((compStart (.GeneratorExp elt [⟨.Name x px, iter, [], 0⟩] scope pos) 0 (.ref it) .none cenv).onRaise (leaving cenv)) [] s
  unfold compStart
  rw [Sem.onRaise_eq_wrap]
  show Seg _ A2 _ _ _ s₀ _ (Sem.wrap _ _ _ _ (ask >>= _)) [] s
  refine seg_bind_wrap (wpAny_askSetting ?_)
  split
  · exact seg_again rfl hl
  · first
      | exact seg_bind_wrap (wpAny_rule (seg_bind_wrap (wpAny_standAt (seg_bind_wrap (T.self _ 0 s _ _ st (seg_again rfl hl))))))
      | (refine seg_bind_wrap (wpAny_rule ?_)
         show Seg _ A2 _ _ _ s₀ _ (Sem.wrap _ _ _ _ (standAt iter.pos >>= _)) [] s
         exact seg_bind_wrap (wpAny_standAt (seg_bind_wrap (T.self _ 0 s _ _ st (seg_again rfl hl)))))

theorem loop_all {Y : Cx} {ag : Addr} {go : Obj} {g : Nat} {A : Around} {R : Result → Shared → Prop} (hpn : (ag, go) ∈ Y.pn) (hgo : ∀ h : Heap, h.get? ag = some go → h.IsGen ag g) (hh : A.handled = none) (hd : A.depth < recursionLimit)
    (hR : ∀ (b : Bool) (H : Hp) (s : Shared), Inv Y [] [none] H s → Q (.bl b) H → R (.ok (.ret (.bool b))) s) :
    ∀ (n : Nat) (s : Shared), s.heap.IsGen ag g → s.heap.NoLimit →
      (∃ gs, s.gens[g]? = some gs ∧ gs.Goes (model Y.prog Y.w) A.in1.in1 (fun n s₀ r s₁ => r = .ok .next ∧ RA Y Q n s₀ s₁) (YA Y Q) n (.send .none) (s.setGen g .running)) →
      codeAny (model Y.prog Y.w) A (.builtin "all.loop" ⟨[.ref ag], []⟩) R s := by
  have ends : ∀ (n : Nat) (s s₁ : Shared), RA Y Q n (s.setGen g .running) s₁ → ∀ h', (∀ b o, s₁.heap.get? b = some o → h'.get? b = some o) → R (.ok (.ret (.bool true))) { s₁.setGen g .finished with heap := h' } := by
    intro n s s₁ ⟨H, I, q⟩ h' hk
    refine hR true H _ ?_ q
    exact I.call' (ch := []) rfl (Un.kept hk) (I.hok.kept hk) (bare_set I.bare rfl) fun b z => by simp at z
  intro n
  induction n with
  | zero =>
    intro s hg hl ⟨gs, hgs, hgo'⟩
    refine codeAny_builtin F.entry_all_loop ?_
    rw [Around.under_plainId F.plain_all_loop _]
    show wpAny _ A.in1 (pyNext (.ref ag) >>= fun r => _) _ _ s
    refine wpAny_bind (wpAny_pyNext_genexpQ (A := A.in1) (P := RA Y Q) hh hl hd hg hgs hgo' (fun v s₁ gs' hbare hv => ?_) fun s₁ hp h' hk => ?_)
    · obtain ⟨b, H, rfl, I, hb⟩ := hv
      refine wpAny_bind (wpAny_holding (wpAny_truthy_bool ?_))
      refine wpAny_bind (wpAny_letGo ?_)
      cases b with
      | true => exact False.elim (hb s₁ rfl rfl I.bare)
      | false =>
        simp only [Bool.false_eq_true, if_false]
        exact wpAny_bind (wpAny_rule (wpAny_pure (hR false H _ (inv_same I rfl rfl (bare_set I.bare hbare)) hb)))
    · exact wpAny_bind (wpAny_rule (wpAny_pure (ends _ _ _ hp h' hk)))
  | succ n ih =>
    intro s hg hl ⟨gs, hgs, hgo'⟩
    have hgl : g < s.gens.size := (Array.getElem?_eq_some_iff.mp hgs).1
    refine codeAny_builtin F.entry_all_loop ?_
    rw [Around.under_plainId F.plain_all_loop _]
    show wpAny _ A.in1 (pyNext (.ref ag) >>= fun r => _) _ _ s
    refine wpAny_bind (GenW.wpAny_gsz (n := g + 1) hgl (wpAny_pyNext_genexpQ (A := A.in1) (P := RA Y Q) hh hl hd hg hgs hgo' (fun v s₁ gs' hbare hv => ?_) fun s₁ hp h' hk => ?_))
    · intro hsz
      obtain ⟨b, H, rfl, I, hb⟩ := hv
      refine wpAny_bind (wpAny_holding (wpAny_truthy_bool ?_))
      refine wpAny_bind (wpAny_letGo ?_)
      have sz : (s₁.setGen g gs').gens.size = s₁.gens.size := by simp [Shared.setGen]
      have hsz1 : g < s₁.gens.size := by
        have : g + 1 ≤ (s₁.setGen g gs').gens.size := hsz
        omega
      cases b with
      | true =>
        simp only [if_true]
        refine wpAny_pure ⟨plainId_quiet F.plain_all_loop _, ih _ (hgo _ ?_) I.nolimit ⟨gs', ?_, ?_⟩⟩
        · exact (I.pin (ag, go) (List.mem_append_left _ hpn)).1
        · show (s₁.gens.setIfInBounds g gs')[g]? = some gs'
          simp [hsz1]
        · exact hb _ rfl rfl (bare_set (s := s₁.setGen g gs') (bare_set I.bare hbare) rfl)
      | false =>
        simp only [Bool.false_eq_true, if_false]
        exact wpAny_bind (wpAny_rule (wpAny_pure (hR false H _ (inv_same I rfl rfl (bare_set I.bare hbare)) hb)))
    · intro _
      exact wpAny_bind (wpAny_rule (wpAny_pure (ends _ _ _ hp h' hk)))
end

def tAllG (P : Addr) (wi : TI) (te : TE) : TE := fun σ H Q => wi σ H fun J H1 => TabG H1 P ∧ ∃ W : Nat → Nat → Hp → Prop, (∀ H2, Tabbed P H1 H2 → ∃ m, W 0 m H2) ∧ TurnA J te W Q
section
variable {X : Cx}
theorem boot_all : bootBuiltins "all" = some (.builtin "all") := by decide +kernel
/-- all(elt for x in iter): elt anything that raises nothing -/
theorem pe_allG {c P : Addr} {elt iter : Expr} {x : Str} {px p pos gpos : Pos} {scope : Scope} {wi : TI} {te : TE} {k : Nat}
    (hr : Room (k + 1) X.A) (hc : X.calm = true) (hg : Gl X "all") (hm : X.mg "all" = none) (TB : TabB X.base X.mg c P) (hcode : X.env.code = .ref c) (S : GSc scope x) (hi : PI X (.Name x px) iter wi)
    (hE : ∀ (C : Addr) (code : Value) (bi : Addr) (A' : Around) (fp : List Addr) (s4 : Shared) (H4 : Hp) (pn : List (Addr × Obj)), Room k A' → PE (genCx X (genEnv scope [] C code bi X.env) A' x fp s4 H4 pn) elt te)
    (hs : ∀ v, genFold iter X.env v = pure v := by intro _; rfl)
    (he : starEach [.GeneratorExp elt [⟨.Name x px, iter, [], 0⟩] scope gpos] X.env = (false, eval (.GeneratorExp elt [⟨.Name x px, iter, [], 0⟩] scope gpos) X.env) :: starEach [] X.env := by rfl) :
    PE X (.Call (.Name "all" p) [.GeneratorExp elt [⟨.Name x px, iter, [], 0⟩] scope gpos] [] pos) (tAllG P wi te) := by
  refine ⟨fun pins s σ H Q I h => ?_⟩
  refine wpAny_Call_Name_kw (ld_blt I hg hm boot_all ?_)
  refine PyProof.Rows.callWith_builtin1 ?_ he (by rfl)
  rw [he]
  show wpAny (model X.prog X.w) X.A (spliced ((false, eval (.GeneratorExp elt [⟨.Name x px, iter, [], 0⟩] scope gpos) X.env) :: backTo pos (starEach [] X.env))) _ _ s
  have hclo : closureFor scope X.env = pure [] := by
    rw [closure_ok fun y hy e => absurd e (S.free y hy), clo_nil S.free]
  refine Calls.spliced_cons (wpAny_GeneratorExp_make S.co hclo S.cell S.dot S.kind hr.depth ?_ hs)
  refine thn (hi.run pins s σ H _ I h) fun xv s1 h1 => thn h1 fun itv s2 h2 => ?_
  obtain ⟨it, fp, tn, J, H2, rfl, I2, T, st2, f2, ⟨ps, hP, htr⟩, W, hW, turn⟩ := h2
  refine ⟨I2.nolimit, ?_⟩
  have hPs : s2.heap.get? P = some { cls := .none, data := .fields ps } := I2.hok P _ hP
  have cd : PySem.W.CodeHd s2.heap c P := TB.code.keeps I2.bk
  have fpP : ∀ b ∈ fp, b ≠ P := fun b hb e => by
    have := (f2 b hb).1
    rw [e, hP] at this
    cases this
  have cont : ∀ (code : Value) (h3 : Heap) (tk : Nat) (H3 : Hp), Inv X pins σ H3 { s2 with heap := h3, toks := tk } → Tabbed P H2 H3 → tn 0 h3 →
      wpAny (model X.prog X.w) X.A (builtinsFor X.env.globals X.env.builtins) (fun bi s4 =>
        ∀ h', h'.Ns s4.heap.objs.size (fun y => if y = ".0" then some (.ref it) else none) → Heap.SameBut s4.heap.objs.size (s4.heap.push { cls := .type "frame", data := .dict #[] }) h' →
          wpAny (model X.prog X.w) X.A (call (.builtin "all") [.ref h'.objs.size]) (EP X pins σ Q) X.xe { s4 with
            gens := s4.gens.push (.fresh (.compStart (.GeneratorExp elt [⟨.Name x px, iter, [], 0⟩] scope gpos) 0 (.ref it) .none (genEnv scope [] s4.heap.objs.size code bi X.env))),
            toks := s4.toks + 1 + 1 + 1,
            heap := h'.push { cls := .type "generator", data := .fields #[.int s4.gens.size 0, .str "<genexpr>" (s4.toks + 1), .str (X.env.qual ++ "<genexpr>") (s4.toks + 1 + 1)] } }) X.xe { s2 with heap := h3, toks := tk } := by
    intro code h3 tk H3 I3 hT st3
    have fr3 : ∀ b ∈ fp, H3 b = none := fun b hb => (hT.2 b (fpP b hb)).trans (f2 b hb).1
    obtain ⟨bm, ob, e1, e2, e3, e4, e5, e6, e7, e8⟩ := TB.bm
    refine wpAny_builtinsFor (m := X.mg) (by rw [I3.ok.glob]; exact I3.mod.glob.keeps I3.bk) e1 e2 (I3.bk _ _ e5) e6 e7 e8 ?_
    intro h' hn' hs'
    generalize hs3 : ({ s2 with heap := h3, toks := tk } : Shared) = s3 at *
    generalize hgo : ({ cls := .type "generator", data := .fields #[.int s3.gens.size 0, .str "<genexpr>" (s3.toks + 1), .str (X.env.qual ++ "<genexpr>") (s3.toks + 1 + 1)] } : Obj) = go
    have hgd : ∀ h : Heap, ∀ a, h.get? a = some go → h.IsGen a s3.gens.size := fun h a e => ⟨go, _, _, e, by rw [← hgo], by rw [← hgo], by rw [← hgo]⟩
    have hgp : ∀ h : Heap, (h.push go).get? h.objs.size = some go := fun h => Heap.get?_push_size _ (by rw [← hgo]; rfl)
    have hgc : ∀ v, go.data ≠ .cell v := fun v e => by rw [← hgo] at e; cases e
    have hsz : h'.objs.size = s3.heap.objs.size + 1 := by rw [hs'.1, Heap.size_push]
    have keep' : ∀ b o, s3.heap.get? b = some o → h'.get? b = some o := fun b o e => hs'.extBut b o (Nat.ne_of_lt (Heap.lt_size e)) (Heap.get?_push_of_some _ e)
    have keepG : ∀ b o, s3.heap.get? b = some o → (h'.push go).get? b = some o := fun b o e => Heap.get?_push_of_some _ (keep' b o e)
    have st3' : tn 0 s3.heap := by rw [← hs3]; exact st3
    have nstk : ∀ b, s3.heap.objs.size ≤ b → b ∉ frs X.stack := fun b hb z => by
      rcases List.mem_cons.mp (I3.stkSub b z) with e | e
      · have := I3.lt
        rw [e] at hb
        exact Nat.lt_irrefl _ (Nat.lt_of_lt_of_le this hb)
      · exact I3.nofs hb e
    have fpl : ∀ b ∈ fp, b < s3.heap.objs.size := fun b hb => by
      obtain ⟨o, e, _⟩ := T.obj _ _ st3' b hb
      exact Heap.lt_size e
    have fpS : ∀ b ∈ fp, b ∉ frs X.stack := fun b hb z => by
      obtain ⟨_, g1, g2, _⟩ := f2 b hb
      rcases List.mem_cons.mp (I3.stkSub b z) with e | e
      · exact g1 e
      · exact g2 e
    have hH3 : ∀ b, s3.heap.objs.size ≤ b → H3 b = none := fun b hb => I3.hok.fresh hb
    refine call_function_tree F.kind_all F.plain_all F.entry_all (F.args_all1 _) ?_
    unfold Builtin.«all»
    refine wpAny_bind (m := oneArg "all" _) (wpAny_pure ?_)
    refine wpAny_bind (wpAny_pyIter_gen (g := s3.gens.size) (hgd _ _ (hgp h')) ?_)
    refine wpAny_pure ⟨plainId_quiet F.plain_all_loop _, ?_⟩
    have hroomk : Room k (X.A.in1.in1.deeper (genEnv scope [] s3.heap.objs.size code builtinsNs X.env)) :=
      ⟨hr.hd, by have := hr.dp; show X.A.depth + 1 + 3 * k + 5 < _; omega, by have := hr.un; show X.A.units + 1 + 1 + 3 + 16 * k + 200 < _; omega⟩
    have cnil : ∀ {y : Str} {c' : Addr}, (([] : List (Str × Addr)).lookup y) = some c' → False := fun e => by cases e
    have kin : ∀ {y : Str}, ¬ (scope.names.lookup y = some .cell ∨ scope.names.lookup y = some .free) := fun {y} e => by
      rcases e with e | e
      · exact S.cell _ (PySem.mem_of_lookup e) rfl
      · exact S.free _ (PySem.mem_of_lookup e) rfl
    have IY : Inv (genCx X (genEnv scope [] s3.heap.objs.size code builtinsNs X.env) (X.A.in1.in1.deeper (genEnv scope [] s3.heap.objs.size code builtinsNs X.env)) x fp s3 H3 [(h'.objs.size, go)]) [] [none] H3
        { s3 with gens := (s3.gens.push (.fresh (.compStart (.GeneratorExp elt [⟨.Name x px, iter, [], 0⟩] scope gpos) 0 (.ref it) .none (genEnv scope [] s3.heap.objs.size code builtinsNs X.env)))), toks := s3.toks + 1 + 1 + 1, heap := h'.push go } := by
      refine ⟨⟨I3.ok.mod, S.kind, I3.ok.glob, rfl, Nat.le_refl _, fun y z c' e _ => (cnil e).elim, fun y e => (kin e).elim, fun y c' _ e => (cnil e).elim, fun _ => hr.hd, Around.frames_deeper I3.ok.frames, .inr ⟨rfl, rfl⟩,
        fun b hb => ⟨Nat.ne_of_lt (fpl b hb), fun y c' e => (cnil e).elim⟩, I3.bs, Nat.le_trans I3.ok.bsz I3.sz, fun b o e hb => ?_, fpS, I3.stack, I3.stkFree⟩,
        rfl, I3.bare.push rfl, Un.kept keepG, ⟨_, hn'.keeps fun b o e => Heap.get?_push_of_some _ e, fun i y v e1 e2 _ => ?_⟩, fun y c' e => (cnil e).elim, hH3 _ (Nat.le_refl _), fun y c' e => (cnil e).elim, fun p hp => ?_, I3.hok.kept keepG, rfl⟩
      · obtain ⟨_, _, _, g3, _⟩ := f2 b hb
        rcases g3 with g3 | g3
        · exact I2.ok.noex b o e g3
        · have h1 := Heap.lt_size e
          have h2 := I2.ok.bsz
          exact Nat.lt_irrefl _ (Nat.lt_of_lt_of_le h1 (Nat.le_trans h2 g3))
      · match i, e2 with
        | 0, e2 => cases e2
        | i + 1, e2 => simp at e2
      · have hp2 : p ∈ ([(h'.objs.size, go)] ++ [] : List (Addr × Obj)) := hp
        have hp' : p = (h'.objs.size, go) := by simpa using hp2
        subst hp'
        exact ⟨hgp h', hH3 _ (by rw [hsz]; exact Nat.le_succ _), by show h'.objs.size ≠ s3.heap.objs.size; rw [hsz]; exact Nat.succ_ne_self _, nstk _ (by rw [hsz]; exact Nat.le_succ _), hgc⟩
    have hst : ∀ H' : Hp, (∀ b ∈ fp, H' b = none) → ∀ b ∈ fp, FpOk (genCx X (genEnv scope [] s3.heap.objs.size code builtinsNs X.env) (X.A.in1.in1.deeper (genEnv scope [] s3.heap.objs.size code builtinsNs X.env)) x fp s3 H3 [(h'.objs.size, go)]) [] H' b :=
      fun H' hf b hb => ⟨hf b hb, Nat.ne_of_lt (fpl b hb), fpS b hb, .inl hb, fun y c' e => (cnil e).elim, fun p hp => by
        have hp2 : p ∈ ([(h'.objs.size, go)] ++ [] : List (Addr × Obj)) := hp
        have hp' : p = (h'.objs.size, go) := by simpa using hp2
        subst hp'
        show h'.objs.size ≠ b
        rw [hsz]
        exact Nat.ne_of_gt (Nat.lt_succ_of_lt (fpl b hb))⟩
    obtain ⟨m, w0⟩ := hW H3 hT
    refine loop_all (Q := Q) (go := go) (g := s3.gens.size) (A := X.A) (Y := genCx X (genEnv scope [] s3.heap.objs.size code builtinsNs X.env) (X.A.in1.in1.deeper (genEnv scope [] s3.heap.objs.size code builtinsNs X.env)) x fp s3 H3 [(h'.objs.size, go)])
      (by exact List.mem_singleton.mpr rfl) (fun h e => hgd h _ e) hr.hd hr.depth (fun b H' s' I' q' => ?_) (m + 1) _ (hgd _ _ (hgp h')) IY.nolimit ⟨_, Array.getElem?_push_size .., rfl, ?_⟩
    · refine ⟨.bl b, H', ?_, rfl, q'⟩
      refine I3.call' (ch := fp) I'.os I'.base I'.hok I'.bare fun b hb => ?_
      obtain ⟨_, g1, _, g3, g4, g5⟩ := f2 b hb
      exact ⟨g3, g1, g4, g5⟩
    · exact seg_all0 S rfl (hE _ _ _ _ _ _ _ _ hroomk) T hst turn (m + 1) _ _ ⟨m, H3, Nat.lt_succ_self m, inv_same IY rfl rfl (bare_set IY.bare rfl), T.keep _ _ _ st3' fun b _ o e => keepG b o e, fr3, w0⟩
  cases hf : codeAmong gpos ps.toList with
  | none =>
    refine wpAny_genexprCodeX hcode (cd.code hPs htr) (cd.tab hPs) hf fun c' h' tk hx hge hlt hco' _ htab' _ => ?_
    obtain ⟨o1, vs, f1, tf, fl, tg, inF, tx, tt, op, _, _, _, _, _, _, _, _, _, htr', _⟩ := hco'
    have J3 := inv_tab (h' := h') (g' := s2.gens) (d' := s2.drawn) (t' := tk) I2 hP (fun b u hb e => hx b u hb e) htab'.2 I2.bare
    exact thn (cont _ h' tk _ J3 ⟨⟨_, upd_same, htr'⟩, fun b hb => upd_ne hb⟩ (T.keep _ _ _ st2 fun b hb o e => hx b o (fpP b hb) e)) fun bi s4 h4 h'' a1 a2 => Calls.spliced_nil (h4 h'' a1 a2)
  | some cv =>
    refine wpAny_genexprCode_hit hcode (cd.code hPs htr) hf ?_
    exact thn (cont cv s2.heap s2.toks H2 I2 ⟨⟨ps, hP, htr⟩, fun _ _ => rfl⟩ st2) fun bi s4 h4 h'' a1 a2 => Calls.spliced_nil (h4 h'' a1 a2)
end
end Ln


set_option Elab.async false
set_option linter.all false
set_option maxRecDepth 100000
set_option maxHeartbeats 4000000
namespace Ln
open PySem PySem.Spec PyProof.Rows L2

theorem keyIs_scan {k : Key} {v : Value} (h : keyIs k v = true) : v.scannable = true := by
  rcases keyIs_shape h with ⟨i, t, _, rfl⟩ | ⟨x, t, _, rfl⟩ <;> rfl

/-- whether k is among the keys l -/
def memK (l : List Key) (k : Key) : Bool := l.any fun j => decide (j = k)
theorem memK_iff {l : List Key} {k : Key} : memK l k = true ↔ k ∈ l := by
  unfold memK
  rw [List.any_eq_true]
  constructor
  · intro ⟨j, hj, e⟩
    rw [← of_decide_eq_true e]
    exact hj
  · intro h
    exact ⟨k, h, decide_eq_true rfl⟩
theorem memK_app {l : List Key} {k k' : Key} : memK (l ++ [k]) k' = (memK l k' || decide (k' = k)) := by
  unfold memK
  rw [List.any_append]
  congr 1
  show (decide (k = k') || false) = _
  rw [Bool.or_false]
  by_cases e : k = k'
  · rw [e]
  · rw [decide_eq_false e, decide_eq_false fun q => e q.symm]
theorem setOf_eq {P : Program} {w : World} {h : Heap} {a : Addr} {S S' : Key → Bool} {n : Nat} (hS : h.SetOf (mixKind P w) a S n) (e : ∀ k, S k = S' k) : h.SetOf (mixKind P w) a S' n := by
  have : S = S' := funext e
  subst this
  exact hS
/-- the set of the first i keys stands at a: m members -/
def SetUp (P : Program) (w : World) (h : Heap) (a : Addr) (ks : List Key) (i : Nat) : Prop :=
  ∃ m, h.SetOf (mixKind P w) a (memK (ks.take i)) m ∧ m ≤ i ∧ (m = i ↔ (ks.take i).Nodup)
theorem nodup_snoc {α : Type} {l : List α} {x : α} : (l ++ [x]).Nodup ↔ l.Nodup ∧ x ∉ l := by
  rw [List.nodup_append]
  constructor
  · intro ⟨a, _, c⟩
    exact ⟨a, fun hx => c x hx x List.mem_cons_self rfl⟩
  · intro ⟨a, b⟩
    refine ⟨a, List.nodup_cons.mpr ⟨by simp, List.nodup_nil⟩, fun y hy z hz e => ?_⟩
    rw [List.mem_singleton] at hz
    exact b (by rw [← hz, ← e]; exact hy)
theorem setUp_step {P : Program} {w : World} {h' : Heap} {a : Addr} {ks : List Key} {i m : Nat} {k : Key} (hk : ks[i]? = some k) (hm : m ≤ i) (hn : m = i ↔ (ks.take i).Nodup)
    (hs : h'.SetOf (mixKind P w) a (fun k' => memK (ks.take i) k' || decide (k' = k)) (if memK (ks.take i) k then m else m + 1)) : SetUp P w h' a ks (i + 1) := by
  have ht : ks.take (i + 1) = ks.take i ++ [k] := by rw [List.take_add_one, hk]; rfl
  refine ⟨if memK (ks.take i) k then m else m + 1, setOf_eq hs (fun k' => by rw [ht, memK_app]), ?_, ?_⟩
  · split <;> omega
  · rw [ht, nodup_snoc]
    by_cases e : k ∈ ks.take i
    · rw [if_pos (memK_iff.mpr e)]
      exact ⟨fun q => by omega, fun q => absurd e q.2⟩
    · rw [if_neg fun q => e (memK_iff.mp q)]
      exact ⟨fun q => ⟨hn.mp (by omega), e⟩, fun q => by have := hn.mpr q.1; omega⟩

section
variable {P : Program} {w : World} {A : Around} {R : Result → Shared → Prop} {it : Addr} {fp wr : List Addr} {G : Array GenState → Array GenState → Prop} {n : Nat} {Pv : Nat → Value → Prop} {St : Nat → Shared → Prop}
theorem loop_keys (W : WalksS P w A.in1 it fp wr G n Pv St) (S : Addr) (hSf : S ∉ fp) (ks : List Key) (hval : ∀ (i : Nat) (v : Value), Pv i v → ∃ k : Key, ks[i]? = some k ∧ keyIs k v = true) (hb : n + 1 < scanBound) :
    ∀ (d i : Nat) (s : Shared), n - i = d → i ≤ n → St i s → SetUp P w s.heap S ks i →
      (∀ s', Moved (S :: wr) G s s' → SetUp P w s'.heap S ks n → R (.ok (.ret .none)) s') →
      codeAny (model P w) A (.builtin "set.update.loop" ⟨[.ref S, .ref it], []⟩) R s := by
  have nwr : S ∉ wr := fun z => hSf (W.sub _ z)
  have more : ∀ b ∈ wr, b ∈ S :: wr := fun b z => List.mem_cons_of_mem S z
  intro d
  induction d with
  | zero =>
    intro i s hd hi st ⟨m, hS, hm, hn⟩ hR
    obtain rfl : i = n := by omega
    refine codeAny_builtin PyProof.Rows.F.entry_set_update_loop ?_
    rw [Around.under_plainId (PyProof.Rows.F.plain_set_update_loop) _]
    show wpAny (model P w) A.in1 (pyNext (.ref it) >>= _) _ _ s
    refine wpAny_bind (W.done s _ _ st fun s1 hmv => ?_)
    exact wpAny_pure (hR s1 (hmv.mono more) ⟨m, setOf_at hS fun o e => hmv.heap S o nwr e, hm, hn⟩)
  | succ d ih =>
    intro i s hd hi st ⟨m, hS, hm, hn⟩ hR
    have hlt : i < n := by omega
    refine codeAny_builtin PyProof.Rows.F.entry_set_update_loop ?_
    rw [Around.under_plainId (PyProof.Rows.F.plain_set_update_loop) _]
    show wpAny (model P w) A.in1 (pyNext (.ref it) >>= _) _ _ s
    refine wpAny_bind (W.item i s _ _ hlt st fun v s1 hv st1 hmv => ?_)
    obtain ⟨k, hk, kv⟩ := hval i v hv
    have hS1 := setOf_at hS fun o e => hmv.heap S o nwr e
    show wpAny (model P w) A.in1 (holding [v] (setAdd S v) >>= _) _ _ s1
    refine wpAny_bind (wpAny_holding ?_)
    unfold setAdd
    refine wpAny_holding (wpAny_bind ((mixKind P w).pyHash (k := k) kv ?_))
    refine wpAny_setAddHashed_of (knd := mixKind P w) (s := { s1 with toks := s1.toks + 1 }) kv (keyIs_scan kv) hS1 (by omega) fun h2 sb hS2 => ?_
    refine wpAny_pure ⟨plainId_quiet (PyProof.Rows.F.plain_set_update_loop) _, ih (i + 1) _ (by omega) hlt (W.frame _ s1 _ _ st1 (Nat.le_succ _) fun b hbf o e => ?_) (setUp_step hk hm hn hS2) fun s3 hm3 hS3 => ?_⟩
    · exact (sb.2 b fun z => hSf (z ▸ hbf)).trans e
    · refine hR s3 (Moved.trans W.gtrans ((hmv.mono more).then_heap (Nat.le_succ _) fun b o hbw e => ?_) hm3) hS3
      exact (sb.2 b fun z => hbw (by rw [z]; exact List.mem_cons_self)).trans e
end

abbrev sObj (led : Bool) : Obj := { cls := .type "set", dict := none, data := .set #[] 0 (.fresh 0 0 led) }
section
variable {P : Program} {w : World} {A : Around} {E : Value → Shared → Prop} {s : Shared}
theorem call_set_keys {l : Addr} {items : Array Value} {ks : List Key} {Q : Value → Shared → Prop}
    (hh : A.handled = none) (hl : s.heap.IsTuple l items) (hk : ks.length = items.size) (hi : ∀ (i : Nat) (v : Value), items[i]? = some v → ∃ k : Key, ks[i]? = some k ∧ keyIs k v = true) (hb : items.size + 1 < scanBound)
    (h : ∀ (h' : Heap) (tk : Nat), SetUp P w h' s.heap.objs.size ks items.size → (∀ b o, b < s.heap.objs.size → s.heap.get? b = some o → h'.get? b = some o) → Q (.ref s.heap.objs.size) { s with heap := h', toks := tk }) :
    wpAny (model P w) A (call (.type "set") [.ref l]) Q E s := by
  obtain ⟨mro1, mro2, hmro⟩ := PySem.F.called_set.mro
  have made := PySem.F.called_set.made
  have subs := PySem.F.called_set.sub
  refine wpAny_call (codeAny_of_tree ?_)
  show wpAny (model P w) _ (callAny (.type "set") _) _ _ _
  refine wpAny_pure ⟨Code.quiet_builtin _ (by decide +kernel), codeAny_builtin (PySem.F.entry_type_call) ?_⟩
  rw [Around.under_plain (weight_type_call_type "set" [Value.ref l] []) rfl]
  have notT := PySem.F.called_set.notType
  have canC := PySem.F.called_set.canCreate
  have chk := PySem.F.typeCall_set_1 (Value.ref l)
  repeat (any_goals (first | assumption | wp_step))
  refine codeAny_mono (code_set_new_1 (.ref l) (E := E) (Q₁ := fun ob s1 => ∃ led, ob = .ref s.heap.objs.size ∧ s1 = { s with heap := s.heap.push (sObj led) }) fun led => ⟨led, rfl, rfl⟩) fun r s1 hr => ?_
  match r, hr with
  | .error e, hr => exact hr
  | .ok .next, hr => exact hr.elim
  | .ok .brk, hr => exact hr.elim
  | .ok .cont, hr => exact hr.elim
  | .ok (.ret ob), hr =>
    obtain ⟨led, rfl, rfl⟩ := hr
    have hS : (s.heap.push (sObj led)).get? s.heap.objs.size = some (sObj led) := Heap.get?_push_size _ rfl
    have tyS : Shared.TypeIs { s with heap := s.heap.push (sObj led) } (.ref s.heap.objs.size) "set" := ⟨_, hS, rfl⟩
    have lkI := PySem.F.called_set.init.lookup
    have bdI := PySem.F.called_set.init.bind (.ref s.heap.objs.size)
    repeat (any_goals (first | assumption | wp_step))
    refine codeAny_mono (codeAny_call_builtin (R := wants (fun r s2 => r = .none ∧ ∃ h' tk, s2 = { s with heap := h', toks := tk } ∧ SetUp P w h' s.heap.objs.size ks items.size ∧ (∀ b o, b < s.heap.objs.size → s.heap.get? b = some o → h'.get? b = some o)) E)
      (PySem.F.called_set.init.plain) (PySem.F.entry_set_init) (check_set_init_1 tyS ?_)) fun r2 s2 hr2 => ?_
    · obtain ⟨ob, hob, hcl, nl, hdl⟩ := hl
      obtain ⟨oc, od, oda, osl⟩ := ob
      simp only at hcl hdl
      subst hcl
      subst hdl
      have hob1 : (s.heap.push (sObj led)).get? l = some { cls := .type "tuple", dict := od, data := .seq items nl, slots := osl } := Heap.get?_push_of_some _ hob
      have n1 := PySem.F.sub_tuple_set
      have n2 := PySem.F.sub_tuple_frozenset
      have n3 : (Value.type "tuple" == Value.type "dict") = false := by decide
      have tup1 : (s.heap.push (sObj led)).IsTuple l items := ⟨_, hob1, rfl, nl, rfl⟩
      unfold Builtin.«set.__init__» noKeywords Builtin.Frozenset.updateFrom
      generalize hPI : pyIter = PI
      wp_walk
      subst hPI
      refine wpAny_pyIter_tuple tup1 (wpAny_bind (wpAny_runValue ?_))
      have lS : l < s.heap.objs.size := Heap.lt_size hob
      have hne : l ≠ (s.heap.push (sObj led)).objs.size := by
        rw [Heap.size_push]
        exact Nat.ne_of_lt (Nat.lt_succ_of_lt lS)
      have nS : s.heap.objs.size ∉ [(s.heap.push (sObj led)).objs.size, l] := by
        rw [Heap.size_push]
        intro z
        rcases List.mem_cons.mp z with z | z
        · exact absurd z (Nat.ne_of_lt (Nat.lt_succ_self _))
        · exact absurd (List.mem_singleton.mp z) (Nat.ne_of_gt lS)
      refine loop_keys ((Walks.tuple (show A.in1.in1.in1.handled = none by simp [hh]) _ l hne items).toS) s.heap.objs.size nS ks hi hb (items.size - 0) 0 _ (by omega) (Nat.zero_le _) ⟨⟨_, Heap.get?_push_size _ rfl, rfl, rfl⟩, tup1.push _⟩ ?hS0 ?hR
      case hS0 =>
        have got : ((s.heap.push (sObj led)).push { cls := .type "tuple_iterator", data := .fields #[.ref l, .int 0 0] }).get? s.heap.objs.size = some (sObj led) := Heap.get?_push_of_some _ hS
        have e0 : ((s.heap.push (sObj led)).push { cls := .type "tuple_iterator", data := .fields #[.ref l, .int 0 0] }).SetOf (mixKind P w) s.heap.objs.size (memK (ks.take 0)) 0 :=
          ⟨_, #[], 0, _, got, ⟨rfl, rfl, rfl⟩, rfl, (fun e he => by simp at he), (fun k => by simp [memK]), (by decide), (by rfl), rfl⟩
        exact ⟨0, e0, Nat.le_refl _, by simp⟩
      case hR =>
        intro s3 hmv hS3
        obtain ⟨h3, g3, d3, t3, o3⟩ := s3
        have eg : g3 = s.gens := hmv.gens
        have ed : d3 = s.drawn := hmv.drawn
        have eo : o3 = s.os := hmv.os
        subst eg ed eo
        show wpAny (model P w) _ _ _ _ _
        refine wpAny_pure ?_
        show wpAny (model P w) _ (ret Value.none) _ _ _
        refine wpAny_pure ⟨rfl, h3, t3, rfl, hS3, fun b o hb2 e => ?_⟩
        refine hmv.heap b o (fun z => ?_) (Heap.get?_push_of_some _ (Heap.get?_push_of_some _ e))
        rcases List.mem_cons.mp z with z | z
        · exact Nat.ne_of_lt hb2 z
        · have z := List.mem_singleton.mp z
          rw [Heap.size_push] at z
          exact Nat.ne_of_lt (Nat.lt_succ_of_lt hb2) z
    · match r2, hr2 with
      | .error e, hr2 => exact hr2
      | .ok .next, hr2 => exact hr2.elim
      | .ok .brk, hr2 => exact hr2.elim
      | .ok .cont, hr2 => exact hr2.elim
      | .ok (.ret r), hr2 =>
        obtain ⟨rfl, h3, t3, rfl, hS3, hk3⟩ := hr2
        repeat (any_goals (first | assumption | wp_step))
        exact h _ _ hS3 hk3
end
end Ln


set_option maxRecDepth 100000
namespace Ln
open PySem
/-! ### the text -/
def topS (i : Nat) : Stmt := PySem.Challenge.pw_openlane_k11_stayers_errors.main.body.getD i (.Pass ⟨0, 0, 0, 0⟩)
abbrev sIsCar : Stmt := topS 18
abbrev sIsLane : Stmt := topS 19
abbrev sIsArr : Stmt := topS 20
abbrev sIsDep : Stmt := topS 21
abbrev sHasW : Stmt := topS 22
abbrev sIsLog : Stmt := topS 23
abbrev sReqLane : Stmt := topS 24
abbrev sReqLog : Stmt := topS 25
abbrev sSizes : Stmt := topS 26
abbrev sNumbers : Stmt := topS 27
abbrev sCell : Stmt := topS 44
abbrev sBag : Stmt := topS 45
abbrev sTake : Stmt := topS 46
abbrev sNames : Stmt := topS 47
abbrev sBuilt : Stmt := topS 48
abbrev sExtras : Stmt := topS 33
abbrev sFirstNeg : Stmt := topS 34
abbrev sBlockR : Stmt := topS 35
abbrev sLaw : Stmt := topS 55
abbrev sNoLane : Stmt := topS 51
abbrev sNoLog : Stmt := topS 52
abbrev sAsked : Stmt := topS 54
abbrev sKind : Stmt := topS 50
abbrev sNoCars : Stmt := topS 53
abbrev sFolk : Stmt := topS 49
abbrev sComplete : Stmt := topS 31
abbrev sLeast : Stmt := topS 39
abbrev sListArr : Stmt := topS 40
abbrev sListBlk : Stmt := topS 41
abbrev sChoose : Stmt := topS 42
abbrev sCanStay : Stmt := topS 29
abbrev sWhyNotStay : Stmt := topS 30
abbrev sReqCars : Stmt := topS 32
abbrev sFirstGap : Stmt := topS 36
abbrev sDepB4 : Stmt := topS 37
abbrev sSideC : Stmt := topS 38
end Ln


set_option Elab.async false
set_option linter.all false
set_option maxRecDepth 100000
set_option maxHeartbeats 2000000
namespace Ln
open PySem PySem.Spec PyProof.Rows L2 GxR
/-! ### the text -/
/-- a def of the text, its code object known -/
structure FunC (K : PySem.W.Frag) (x qual : Str) (st : Stmt) (f : Addr) (fd : FuncData) (c : Addr) : Prop where
  ex : ∃ (oc : Value) (od : Option Addr) (kV doc pm : Value) (an : Option Addr) (ct : Value) (osl : Array (Option Value)),
    fd = PySem.W.fnOf x qual (defArgs st) (defBody st) (defScope st) .none kV doc pm an (.ref c) ct ∧ K.lookup f = some ⟨oc, od, .func fd, osl⟩ ∧ PySem.W.codeIn K (.ref c) qual = true
  kp : PySem.W.keepIn K (.ref f) = true
theorem FunC.fn {K : PySem.W.Frag} {x qual : Str} {st : Stmt} {f : Addr} {fd : FuncData} {c : Addr} (F : FunC K x qual st f fd c) : Fun K x qual st f fd := by
  obtain ⟨oc, od, kV, doc, pm, an, ct, osl, e, lk, hc⟩ := F.ex
  exact ⟨⟨oc, od, kV, doc, pm, an, .ref c, ct, osl, e, lk, hc⟩, F.kp⟩
theorem FunC.ok {P : Program} {w : World} {K : PySem.W.Frag} {mg : Str → Option Value} {base : Heap} {x qual : Str} {st : Stmt} {f : Addr} {fd : FuncData} {c : Addr} {N ps : List Str} {k : Nat} {sp : Sp} (F : FunC K x qual st f fd c) (S : FnScope N ps (defScope st))
    (len : ∀ vs H Q E, sp vs H Q E → vs.length = ps.length)
    (hbody : ∀ (A : Around) (outer : List Env) (s : Shared) (H : Hp) (vs : List V) (Q : VK) (E : XK), Room k (A.deeper (envOfC qual (defScope st) s.heap.objs.size f (.ref c))) → sp vs H Q E →
      ∃ t, PSs (cxOf CX0 P w K mg base N qual (defScope st) f (.ref c) A outer s H E).nox (defBody st) t ∧ t { nx := fun _ H' => Q .non H', rt := Q } (start N vs) H) : FnOk P w K mg base CX0 (k + 1) f fd ps sp := by
  obtain ⟨oc, od, kV, doc, pm, an, ct, osl, rfl, lk, hcd⟩ := F.ex
  refine fn_of lk hcd S len fun A outer s H vs Q E hr hsp => ?_
  obtain ⟨t, h, q⟩ := hbody A outer s H vs Q E hr hsp
  exact ⟨t, h.nox, q⟩

/-! ### heaps -/
/-- what stood stands, but for the tables Ps, which may have grown -/
structure Kp (Ps : List Addr) (H H' : Hp) : Prop where
  at_ : ∀ b o, H b = some o → b ∉ Ps → H' b = some o
  tab : ∀ p ∈ Ps, TabG H' p
def Tabs (Ps : List Addr) (H : Hp) : Prop := ∀ p ∈ Ps, TabG H p
section
variable {Ps : List Addr} {H H1 H2 : Hp} {a p : Addr} {o : HO} {K : PySem.W.Frag} {xs : List V}
theorem Kp.refl (h : Tabs Ps H) : Kp Ps H H := ⟨fun _ _ e _ => e, h⟩
theorem Kp.tabs (h : Kp Ps H H1) : Tabs Ps H1 := h.tab
theorem Kp.trans (h : Kp Ps H H1) (k : Kp Ps H1 H2) : Kp Ps H H2 := ⟨fun b o e n => k.at_ b o (h.at_ b o e n) n, k.tab⟩
theorem tab_ne (h : Tabs Ps H) (e : H a = some o) (hn : ∀ q, o ≠ .tbl q) : a ∉ Ps := fun z => by
  obtain ⟨ps, e2, _⟩ := h a z
  rw [e2] at e
  exact hn ps (Option.some.inj e).symm
theorem tab_free (h : Tabs Ps H) (e : H a = none) : a ∉ Ps := fun z => by
  obtain ⟨ps, e2, _⟩ := h a z
  rw [e2] at e
  cases e
theorem Kp.new (h : Tabs Ps H) (e : H p = none) : Kp Ps H (upd H p o) :=
  ⟨fun b u q _ => by rw [upd_ne (ne_of_none q e)]; exact q, fun q hq => by
    obtain ⟨ps, e2, t⟩ := h q hq
    exact ⟨ps, by rw [upd_ne (ne_of_none e2 e)]; exact e2, t⟩⟩
theorem Kp.tabbed (h : Tabs Ps H) (hp : p ∈ Ps) (t : Tabbed p H H1) : Kp Ps H H1 :=
  ⟨fun b u q n => (t.2 b fun z => n (z ▸ hp)).trans q, fun q hq => by
    by_cases e : q = p
    · rw [e]
      exact t.1
    · obtain ⟨ps, e2, r⟩ := h q hq
      exact ⟨ps, (t.2 q e).trans e2, r⟩⟩
theorem Kp.lst (k : Kp Ps H H1) (h : Tabs Ps H) (e : H a = some (.lst xs)) : H1 a = some (.lst xs) := k.at_ a _ e (tab_ne h e fun q z => by cases z)
theorem Kp.tup (k : Kp Ps H H1) (h : Tabs Ps H) (e : H a = some (.tup xs)) : H1 a = some (.tup xs) := k.at_ a _ e (tab_ne h e fun q z => by cases z)
theorem Kp.ext {φ : Heap → Prop} (k : Kp Ps H H1) (h : Tabs Ps H) (e : H a = some (.ext φ)) : H1 a = some (.ext φ) := k.at_ a _ e (tab_ne h e fun q z => by cases z)
theorem Kp.seqL (k : Kp Ps H H1) (h : Tabs Ps H) (e : SqL K H a xs) : SqL K H1 a xs := by
  rcases e with (e | ⟨ob, e⟩) | e
  · exact .inl (.inl (k.lst h e))
  · exact .inl (.inr ⟨ob, k.at_ a _ e (tab_ne h e fun q z => by cases z)⟩)
  · exact .inr e
theorem Kp.seqT (k : Kp Ps H H1) (h : Tabs Ps H) (e : SqT K H a xs) : SqT K H1 a xs := by
  rcases e with (e | ⟨ob, e⟩) | e
  · exact .inl (.inl (k.tup h e))
  · exact .inl (.inr ⟨ob, k.at_ a _ e (tab_ne h e fun q z => by cases z)⟩)
  · exact .inr e
/-- what is free behind was free before, tables apart -/
theorem Kp.free (k : Kp Ps H H1) (h : Tabs Ps H) (e : H1 p = none) : H p = none := by
  cases q : H p with
  | none => rfl
  | some u =>
    by_cases z : p ∈ Ps
    · exact absurd e (by
        obtain ⟨ps, e2, _⟩ := k.tab p z
        rw [e2]
        exact fun y => by cases y)
    · rw [k.at_ p u q z] at e
      cases e
end
end Ln


set_option Elab.async false
set_option linter.all false
set_option maxRecDepth 100000
set_option maxHeartbeats 2000000
namespace Ln
open PySem PySem.Spec PyProof.Rows L2 GxR
/-- the program's text as it stands: what its defs lean on -/
structure Bi (mg : Str → Option Value) : Prop where
  isi : mg "isinstance" = none
  len : mg "len" = none
  all : mg "all" = none
  str : mg "str" = none
  tup : mg "tuple" = none
  lst : mg "list" = none
  set : mg "set" = none
  zip : mg "zip" = none
def lowB (c : Nat) : Bool := decide (97 ≤ c) && decide (c ≤ 122)
def carB (x : Str) : Bool := decide (1 ≤ x.length) && decide (x.length ≤ 4) && x.cps.toList.all lowB
theorem scIsCar : FnScope ["value"] ["value"] (defScope sIsCar) := ⟨rfl, rfl, rfl, by decide +kernel, rfl, by decide +kernel, by decide +kernel⟩
section
variable {P : Program} {w : World} {K : PySem.W.Frag} {mg : Str → Option Value} {base : Heap} {Ps : List Addr}
def spCar (Ps : List Addr) : Sp := fun vs H Q _ => ∃ c : Str, vs = [.str c] ∧ c.length ≤ sizeLine ∧ Tabs Ps H ∧ ∀ H', Kp Ps H H' → Q (.bl (carB c)) H'
theorem ok_car {f c P1 : Addr} {fd : FuncData} (F : FunC K "is_car" "is_car" sIsCar f fd c) (B : Bi mg) (TB : TabB base mg c P1) (hP : P1 ∈ Ps) : FnOk P w K mg base CX0 2 f fd ["value"] (spCar Ps) := by
  refine F.ok scIsCar (fun vs H Q E h => ?_) (fun A outer s H vs Q E hr h => ?_)
  · obtain ⟨z, rfl, _⟩ := h
    rfl
  · obtain ⟨z, rfl, hz, hT, q⟩ := h
    refine ⟨_, pss_cons (ps_if (PW.pt (pw_or (pt_not (pt_val (pe_callB call_isi (by rfl) B.isi (by decide +kernel) (pa_cons (pv 0) (pa_cons (pe_bltn (by rfl) B.str (by decide +kernel) (v := .ty "str") rfl) pa_nil)))))
        (pw_or1 (pt_not (pt_chain op_le op_le pe_int (pe_callB call_len_str (by rfl) B.len PySem.boot_len (pa_cons (pv 0) pa_nil)) pe_int)))))
        (pss_one (ps_ret pe_bl)) pss_nil)
      (pss_one (ps_ret (pe_allG (k := 0) hr rfl (by rfl) B.all TB rfl ⟨rfl, rfl, by decide +kernel, by decide +kernel, rfl, rfl⟩ (pi_str (pv 0))
        (fun _ _ _ _ _ _ _ _ _ => pe_chain op_le_str op_le_str pe_str (pv 0) pe_str)))), ?_⟩
    refine ⟨_, rfl, .str z, .ty "str", .type "str", .type "str", true, rfl, .ty _, .base (.str z), kit_ty (by decide +kernel), true, rfl, ?_⟩
    refine iteF ?_
    refine ⟨.str z, rfl, z, rfl, hz, 1, (z.length : Int), rfl, rfl, _, rfl, ?_⟩
    have out : ¬ (1 ≤ z.length ∧ z.length ≤ 4) → Q (.bl false) H := fun hn => by
      have e : carB z = false := by
        unfold carB
        by_cases a : 1 ≤ z.length
        · by_cases b : z.length ≤ 4
          · exact absurd ⟨a, b⟩ hn
          · simp [b]
        · simp [a]
      have := q H (Kp.refl hT)
      rw [e] at this
      exact this
    refine ite2 (fun h1 => ?_) (fun h1 => ?_)
    · have h1 : (1 : Int) ≤ z.length := of_decide_eq_true h1
      refine ⟨_, _, rfl, rfl, _, rfl, ?_⟩
      by_cases h4 : z.length ≤ 4
      · rw [decide_eq_true (show (z.length : Int) ≤ 4 by omega)]
        refine iteF ?_
        -- all('a' <= letter <= 'z' ..)
        refine ⟨.str z, rfl, z, rfl, hT P1 hP, fun i m H' => m = z.length - i ∧ Kp Ps H H' ∧ i ≤ z.length ∧ (z.cps.toList.take i).all lowB = true, fun H2 hH => ⟨z.length, by omega, Kp.tabbed hT hP hH, Nat.zero_le _, rfl⟩, fun i m H' hW => ?_⟩
        obtain ⟨rfl, kp, hi, hall⟩ := hW
        by_cases hlt : i < z.length
        · refine .inr ⟨hlt, fun v H3 hy => ?_⟩
          obtain ⟨rfl, c, hc, rfl⟩ := hy
          have cl : ∀ y : Nat, (⟨#[y]⟩ : Str).cps.toList = [y] := fun y => rfl
          have ca : ("a" : Str).cps.toList = [97] := by decide +kernel
          have cz : ("z" : Str).cps.toList = [122] := by decide +kernel
          have lt1 : ∀ x y : Nat, ([x] < [y]) ↔ x < y := fun x y => by rw [List.cons_lt_cons_iff]; simp
          refine ⟨.str ⟨#[c]⟩, rfl, _, _, rfl, rfl, _, rfl, ?_⟩
          have hcl : z.cps.toList[i]? = some c := by rw [Array.getElem?_toList]; exact hc
          have fin : lowB c = false → Q (.bl false) H3 := fun e => by
            have e2 : carB z = false := by
              unfold carB
              have : z.cps.toList.all lowB = false := by
                rw [List.all_eq_false]
                exact ⟨c, List.mem_of_getElem? hcl, by rw [e]; simp⟩
              rw [this, Bool.and_false]
            have := q H3 kp
            rw [e2] at this
            exact this
          by_cases h97 : 97 ≤ c
          · have e1 : (!decide ((⟨#[c]⟩ : Str).cps.toList < ("a" : Str).cps.toList)) = true := by rw [ca, cl, decide_eq_false (by rw [lt1]; omega)]; rfl
            rw [e1]
            refine iteT ⟨_, _, rfl, rfl, _, rfl, ?_⟩
            by_cases h122 : c ≤ 122
            · have e2 : (!decide (("z" : Str).cps.toList < (⟨#[c]⟩ : Str).cps.toList)) = true := by rw [cz, cl, decide_eq_false (by rw [lt1]; omega)]; rfl
              rw [e2]
              refine iteT ⟨z.length - (i + 1), by omega, rfl, kp, hlt, ?_⟩
              rw [List.take_add_one, hcl, List.all_append, hall]
              simp [lowB, h97, h122]
            · have e2 : (!decide (("z" : Str).cps.toList < (⟨#[c]⟩ : Str).cps.toList)) = false := by rw [cz, cl, decide_eq_true (by rw [lt1]; omega)]; rfl
              rw [e2]
              exact iteF (fin (by simp [lowB, h122]))
          · have e1 : (!decide ((⟨#[c]⟩ : Str).cps.toList < ("a" : Str).cps.toList)) = false := by rw [ca, cl, decide_eq_true (by rw [lt1]; omega)]; rfl
            rw [e1]
            exact iteF ⟨_, rfl, iteF (fin (by simp [lowB, h97]))⟩
        · refine .inl ⟨by show z.cps.size ≤ i; exact Nat.le_of_not_lt hlt, ?_⟩
          have e : carB z = true := by
            have : i = z.length := by omega
            rw [this, List.take_of_length_le (Nat.le_of_eq (by show z.cps.toList.length = z.cps.size; simp))] at hall
            have a : 1 ≤ z.length := by omega
            simp [carB, a, h4, hall]
          have := q H' kp
          rw [e] at this
          exact this
      · rw [decide_eq_false (show ¬ (z.length : Int) ≤ 4 by omega)]
        exact iteT (out (by omega))
    · have h1 : ¬ (1 : Int) ≤ z.length := fun z => h1 (decide_eq_true z)
      exact ⟨_, rfl, iteT (out (by omega))⟩
end
end Ln


set_option Elab.async false
set_option linter.all false
set_option maxRecDepth 100000
set_option maxHeartbeats 2000000
namespace Ln
open PySem PySem.Spec PyProof.Rows L2 GxR
section
variable {X : Cx}
/-- set(t), t a tuple of texts -/
def rSetT (K : PySem.W.Frag) (P : Program) (w : World) : List V → Hp → VK → Prop := fun vs H Q => ∃ (a : Addr) (xs : List Str), vs = [.ref a] ∧ SqT K H a (xs.map V.str) ∧ xs.length ≤ 1000 ∧
  ∀ p n, H p = none → n ≤ xs.length → (n = xs.length ↔ xs.Nodup) → Q (.ref p) (upd H p (SetK P w p (memK (xs.map Sum.inr)) n))
theorem nodup_inr {xs : List Str} : (xs.map (Sum.inr : Str → Key)).Nodup ↔ xs.Nodup := by
  constructor
  · intro h
    exact (List.pairwise_map.mp h).imp fun hne e => hne (by rw [e])
  · intro h
    exact List.pairwise_map.mpr (h.imp fun hne e => hne (Sum.inr.inj e))
theorem cr_setT (hc : X.calm = true) : CallR X (.type "set") (rSetT X.K X.prog X.w) := by
  intro pins s σ H vs us Q I r h
  obtain ⟨a, xs, rfl, hS, hlen, q⟩ := h
  obtain ⟨u, rfl, r1⟩ := vals1 r
  obtain rfl : u = Value.ref a := r1
  obtain ⟨its, rv, p, _⟩ := I.tuple hS
  have hl : its.toArray.size = xs.length := by rw [List.size_toArray, ← rv.length, List.length_map]
  refine call_set_keys (ks := xs.map Sum.inr) (I.ok.hd hc) (show s.heap.IsTuple a its.toArray from p) (by rw [hl, List.length_map]) (fun i v hv => ?_) (by rw [hl]; unfold scanBound; omega) fun h' tk hS' hk => ?_
  · have hv' : its[i]? = some v := by simpa using hv
    have hi : i < xs.length := by
      rw [← hl]
      exact (Array.getElem?_eq_some_iff.mp hv).1
    have hx : (xs.map V.str)[i]? = some (V.str xs[i]) := by rw [List.getElem?_map, List.getElem?_eq_getElem hi]; rfl
    obtain ⟨u, hu, ru⟩ := rv.get hx
    rw [hv'] at hu
    obtain rfl : v = u := Option.some.inj hu
    obtain ⟨t, rfl⟩ := ru
    exact ⟨Sum.inr xs[i], by rw [List.getElem?_map, List.getElem?_eq_getElem hi]; rfl, keyIs_str _ _⟩
  · rw [hl] at hS'
    obtain ⟨m, hm, hle, hn⟩ := hS'
    rw [List.take_of_length_le (by rw [List.length_map]; exact Nat.le_refl _)] at hm hn
    have hf : H s.heap.objs.size = none := I.hok.fresh (Nat.le_refl _)
    exact ⟨.ref s.heap.objs.size, _, I.laid (t' := tk) (fun b u e => hk b u (Heap.lt_size e) e) (Nat.le_refl _) (setK_new hm), rfl, q _ m hf hle (hn.trans nodup_inr)⟩
theorem call_len_setK : CallR X (.builtin "len") (fun vs H Q => ∃ a S n, vs = [.ref a] ∧ H a = some (SetK X.prog X.w a S n) ∧ n ≤ 1000 ∧ Q (.int (n : Nat)) H) := by
  intro pins s σ H vs us Q I r h
  obtain ⟨a, S, n, rfl, ha, hn, q⟩ := h
  obtain ⟨u, rfl, r1⟩ := vals1 r
  obtain rfl : u = Value.ref a := r1
  obtain ⟨o, es, ep, t, ho, hex, hd, _, _, _, hf, hsz⟩ := setK_get I ha
  subst hsz
  exact call_len_set ho hex hd hf (by omega) ⟨.int es.size, H, I.tok _, ⟨_, rfl⟩, q⟩
end
theorem tyx_tup {K : PySem.W.Frag} {H : Hp} {a : Addr} {xs : List V} (h : SqT K H a xs) : TyX K H (.ref a) (.type "tuple") := by
  rcases h with (h | ⟨o, h⟩) | ⟨o, its, n, hk, hc, _⟩
  · exact .base (.tup h)
  · exact .fTuple h
  · exact .kTuple hk hc
theorem tyx_lst {K : PySem.W.Frag} {H : Hp} {a : Addr} {xs : List V} (h : SqL K H a xs) : TyX K H (.ref a) (.type "list") := by
  rcases h with (h | ⟨o, h⟩) | ⟨o, its, n, hk, hc, _⟩
  · exact .base (.lst h)
  · exact .base (.frz h)
  · exact .kList hk hc
def laneB (xs : List Str) : Bool := xs.all carB && decide xs.Nodup
theorem scIsLane : FnScope ["value"] ["value"] (defScope sIsLane) := ⟨rfl, rfl, rfl, by decide +kernel, rfl, by decide +kernel, by decide +kernel⟩
section
variable {P : Program} {w : World} {K : PySem.W.Frag} {mg : Str → Option Value} {base : Heap} {Ps : List Addr}
def spLane (K : PySem.W.Frag) (Ps : List Addr) : Sp := fun vs H Q _ => ∃ (a : Addr) (xs : List Str), vs = [.ref a] ∧ SqT K H a (xs.map V.str) ∧ xs.length ≤ 1000 ∧ (∀ x ∈ xs, x.length ≤ sizeLine) ∧ Tabs Ps H ∧ ∀ H', Kp Ps H H' → Q (.bl (laneB xs)) H'
theorem ok_lane {f c P1 fC : Addr} {fd fdC : FuncData} (F : FunC K "is_lane" "is_lane" sIsLane f fd c) (B : Bi mg) (TB : TabB base mg c P1) (hP : P1 ∈ Ps)
    (GC : FnOk P w K mg base CX0 2 fC fdC ["value"] (spCar Ps)) (mgC : mg "is_car" = some (.ref fC)) (kC : PySem.W.keepIn K (.ref fC) = true) (bC : Binds K fdC ["value"] []) : FnOk P w K mg base CX0 4 f fd ["value"] (spLane K Ps) := by
  refine F.ok scIsLane (fun vs H Q E h => ?_) (fun A outer s H vs Q E hr h => ?_)
  · obtain ⟨a, xs, rfl, _⟩ := h
    rfl
  · obtain ⟨a, xs, rfl, hS, hlen, hsz, hT, q⟩ := h
    refine ⟨_, pss_cons (ps_if (PW.pt (pw_or (pt_not (pt_val (pe_callB call_isi (by rfl) B.isi (by decide +kernel) (pa_cons (pv 0) (pa_cons (pe_bltn (by rfl) B.tup (by decide +kernel) (v := .ty "tuple") rfl) pa_nil)))))
        (pw_or1 (pt_not (pt_val (pe_allG (k := 2) hr rfl (by rfl) B.all TB rfl ⟨rfl, rfl, by decide +kernel, by decide +kernel, rfl, rfl⟩ (pi_tup (pv 0))
          (fun _ _ _ _ _ _ _ _ hk => pe_call GC hk rfl mgC kC bC .nil pass0 (pa_cons (pv 0) pa_nil))))))))
        (pss_one (ps_ret pe_bl)) pss_nil)
      (pss_one (ps_ret (pe_cmpR op_eq (pe_callB call_len_setK (by rfl) B.len PySem.boot_len (pa_cons (pe_callTy (cr_setT rfl) (by rfl) B.set (by decide +kernel) (pa_cons (pv 0) pa_nil)) pa_nil))
        (pe_callB call_len_seq (by rfl) B.len PySem.boot_len (pa_cons (pv 0) pa_nil)) (nomark _)))), ?_⟩
    refine ⟨_, rfl, .ref a, .ty "tuple", .type "tuple", .type "tuple", true, rfl, .ty _, tyx_tup hS, kit_ty (by decide +kernel), true, rfl, ?_⟩
    refine iteF ?_
    -- all(is_car(entry) ..)
    refine ⟨.ref a, rfl, a, rfl, ⟨_, hS⟩, hT P1 hP, fun i m H' => m = xs.length - i ∧ Kp Ps H H' ∧ i ≤ xs.length ∧ (xs.take i).all carB = true, fun H2 hH => ⟨xs.length, by omega, Kp.tabbed hT hP hH, Nat.zero_le _, rfl⟩, fun i m H' hW => ?_⟩
    obtain ⟨rfl, kp, hi, hall⟩ := hW
    have hS' := kp.seqT hT hS
    by_cases hlt : i < xs.length
    · have hx : (xs.map V.str)[i]? = some (V.str xs[i]) := by rw [List.getElem?_map, List.getElem?_eq_getElem hlt]; rfl
      refine .inr ⟨⟨_, _, hS', hx⟩, fun v H3 hy => ?_⟩
      obtain ⟨rfl, fv⟩ := hy
      obtain rfl : v = V.str xs[i] := Option.some.inj ((fv _ hS').symm.trans hx)
      refine ⟨_, rfl, xs[i], rfl, hsz _ (List.getElem_mem hlt), kp.tab, fun H4 kp4 => ⟨_, rfl, ?_⟩⟩
      refine ite2 (fun hc => ?_) (fun hc => ?_)
      · refine ⟨_, ?_, rfl, kp.trans kp4, hlt, ?_⟩
        · omega
        · rw [List.take_add_one, List.getElem?_eq_getElem hlt, List.all_append, hall]
          simp [hc]
      · have e : laneB xs = false := by
          unfold laneB
          have : xs.all carB = false := List.all_eq_false.mpr ⟨xs[i], List.getElem_mem hlt, hc⟩
          rw [this, Bool.false_and]
        have := q H4 (kp.trans kp4)
        rw [e] at this
        exact ⟨false, rfl, iteT this⟩
    · refine .inl ⟨⟨_, hS', by rw [List.length_map]; omega⟩, true, rfl, iteF ?_⟩
      have hall' : xs.all carB = true := by
        rw [List.take_of_length_le (by omega)] at hall
        exact hall
      refine ⟨.ref a, rfl, a, xs, rfl, hS', hlen, fun p n hp hn hnd => ?_⟩
      have k2 : Kp Ps H' (upd H' p (SetK P w p (memK (xs.map Sum.inr)) n)) := Kp.new kp.tab hp
      refine ⟨p, _, n, rfl, upd_same, by omega, .ref a, rfl, a, _, rfl, .inr (k2.seqT kp.tab hS'), rfl, ?_⟩
      have e : laneB xs = decide (V.int (n : Nat) = V.int ((xs.map V.str).length : Nat)) := by
        unfold laneB
        rw [hall', Bool.true_and, List.length_map]
        by_cases hh : xs.Nodup
        · rw [decide_eq_true hh, decide_eq_true (by rw [hnd.mpr hh])]
        · rw [decide_eq_false hh, decide_eq_false fun z => hh (hnd.mp (by have := V.int.inj z; omega))]
      have := q _ (kp.trans k2)
      rw [e] at this
      exact this
end
end Ln


set_option Elab.async false
set_option linter.all false
set_option maxRecDepth 100000
set_option maxHeartbeats 2000000
namespace Ln
open PySem PySem.Spec PyProof.Rows L2 GxR
/-- an event -/
inductive Ev where
  | inn (c : Str)
  | out
def Ev.vals : Ev → List V
  | .inn c => [.str "in", .str c]
  | .out => [.str "out"]
/-- a statement that is never reached -/
theorem ps_dead {X : Cx} {st : Stmt} : PS X st (fun _ _ _ => False) := ⟨fun _ _ _ _ _ _ h => h.elim⟩
theorem scHasW : FnScope ["value", "word", "length"] ["value", "word", "length"] (defScope sHasW) := ⟨rfl, rfl, rfl, by decide +kernel, rfl, by decide +kernel, by decide +kernel⟩
theorem scIsArr : FnScope ["value"] ["value"] (defScope sIsArr) := ⟨rfl, rfl, rfl, by decide +kernel, rfl, by decide +kernel, by decide +kernel⟩
theorem scIsDep : FnScope ["value"] ["value"] (defScope sIsDep) := ⟨rfl, rfl, rfl, by decide +kernel, rfl, by decide +kernel, by decide +kernel⟩
theorem scReqLane : FnScope ["value"] ["value"] (defScope sReqLane) := ⟨rfl, rfl, rfl, by decide +kernel, rfl, by decide +kernel, by decide +kernel⟩
section
variable {P : Program} {w : World} {K : PySem.W.Frag} {mg : Str → Option Value} {base : Heap} {Ps : List Addr}
def spHasW (K : PySem.W.Frag) : Sp := fun vs H Q _ => ∃ (a : Addr) (y wd : Str) (ys : List V) (n : Int), vs = [.ref a, .str wd, .int n] ∧ SqT K H a (.str y :: ys) ∧ Q (.bl (decide (((ys.length + 1 : Nat) : Int) = n) && decide (y = wd))) H
theorem ok_hasW {f : Addr} {fd : FuncData} (F : Fun K "has_word" "has_word" sHasW f fd) (B : Bi mg) : FnOk P w K mg base CX0 1 f fd ["value", "word", "length"] (spHasW K) := by
  refine F.ok scHasW (fun vs H Q E h => ?_) (fun cdv A outer s H vs Q E hr h => ?_)
  · obtain ⟨a, y, wd, ys, n, rfl, _⟩ := h
    rfl
  · obtain ⟨a, y, wd, ys, n, rfl, hS, q⟩ := h
    refine ⟨_, pss_one (ps_ret (pe_and (pe_callB call_isi (by rfl) B.isi (by decide +kernel) (pa_cons (pv 0) (pa_cons (pe_bltn (by rfl) B.tup (by decide +kernel) (v := .ty "tuple") rfl) pa_nil)))
      (pe_and (pe_cmpR op_eq (pe_callB call_len_seq (by rfl) B.len PySem.boot_len (pa_cons (pv 0) pa_nil)) (pv 2) (nomark _))
      (pe_and (pe_callB call_isi (by rfl) B.isi (by decide +kernel) (pa_cons (pe_ix ix_tup (pv 0) pe_int (fun _ _ => rfl)) (pa_cons (pe_bltn (by rfl) B.str (by decide +kernel) (v := .ty "str") rfl) pa_nil)))
      (pe_one (pe_cmpR op_eq (pe_ix ix_tup (pv 0) pe_int (fun _ _ => rfl)) (pv 1) (nomark _))))))), ?_⟩
    refine ⟨.ref a, rfl, .ref a, .ty "tuple", .type "tuple", .type "tuple", true, rfl, .ty _, tyx_tup hS, kit_ty (by decide +kernel), true, rfl, iteT ?_⟩
    refine ⟨.ref a, rfl, a, _, rfl, .inr hS, .int n, rfl, rfl, _, rfl, ?_⟩
    have e1 : decide (V.int (((.str y :: ys : List V).length : Nat) : Int) = V.int n) = decide (((ys.length + 1 : Nat) : Int) = n) := by
      by_cases h : ((ys.length + 1 : Nat) : Int) = n
      · rw [decide_eq_true h]
        exact decide_eq_true (by rw [← h]; rfl)
      · rw [decide_eq_false h]
        exact decide_eq_false fun z => h (V.int.inj z)
    rw [e1]
    refine ite2 (fun hn => ?_) (fun hn => ?_)
    · refine ⟨.ref a, rfl, a, _, 0, .str y, rfl, rfl, hS, atI_nat (j := 0) rfl, .str y, .ty "str", .type "str", .type "str", true, rfl, .ty _, .base (.str y), kit_ty (by decide +kernel), true, rfl, iteT ?_⟩
      refine ⟨.ref a, rfl, a, _, 0, .str y, rfl, rfl, hS, atI_nat (j := 0) rfl, .str wd, rfl, rfl, ?_⟩
      have e2 : decide (V.str y = V.str wd) = decide (y = wd) := by
        by_cases h : y = wd
        · rw [decide_eq_true h, decide_eq_true (by rw [h])]
        · rw [decide_eq_false h, decide_eq_false fun z => h (V.str.inj z)]
      rw [e2]
      rw [hn, Bool.true_and] at q
      exact q
    · have hn' : decide (((ys.length + 1 : Nat) : Int) = n) = false := by simpa using hn
      rw [hn', Bool.false_and] at q
      exact q
def spEv (K : PySem.W.Frag) (Ps : List Addr) (g : Ev → Bool) : Sp := fun vs H Q _ => ∃ (a : Addr) (e : Ev), vs = [.ref a] ∧ SqT K H a e.vals ∧ (∀ c, e = .inn c → c.length ≤ sizeLine) ∧ Tabs Ps H ∧ ∀ H', Kp Ps H H' → Q (.bl (g e)) H'
def arrB : Ev → Bool
  | .inn c => carB c
  | .out => false
def depB : Ev → Bool
  | .inn _ => false
  | .out => true
theorem ne_io : ¬ (("in" : Str) = "out") := by decide +kernel
theorem ne_oi : ¬ (("out" : Str) = "in") := by decide +kernel
theorem ok_arr {f fH fC : Addr} {fd fdH fdC : FuncData} (F : Fun K "is_arrival" "is_arrival" sIsArr f fd)
    (GH : FnOk P w K mg base CX0 1 fH fdH ["value", "word", "length"] (spHasW K)) (mgH : mg "has_word" = some (.ref fH)) (kH : PySem.W.keepIn K (.ref fH) = true) (bH : Binds K fdH ["value", "word", "length"] [])
    (GC : FnOk P w K mg base CX0 2 fC fdC ["value"] (spCar Ps)) (mgC : mg "is_car" = some (.ref fC)) (kC : PySem.W.keepIn K (.ref fC) = true) (bC : Binds K fdC ["value"] []) : FnOk P w K mg base CX0 3 f fd ["value"] (spEv K Ps arrB) := by
  refine F.ok scIsArr (fun vs H Q E h => ?_) (fun cdv A outer s H vs Q E hr h => ?_)
  · obtain ⟨a, e, rfl, _⟩ := h
    rfl
  · obtain ⟨a, e, rfl, hS, hsz, hT, q⟩ := h
    refine ⟨_, pss_one (ps_ret (pe_and (pe_call GH (hr.mono (by decide)) (by rfl) mgH kH bH .nil pass0 (pa_cons (pv 0) (pa_cons pe_str (pa_cons pe_int pa_nil))))
      (pe_one (pe_call GC hr (by rfl) mgC kC bC .nil pass0 (pa_cons (pe_ix ix_tup (pv 0) pe_int (fun _ _ => rfl)) pa_nil))))), ?_⟩
    cases e with
    | inn c =>
      refine ⟨.ref a, rfl, a, "in", "in", [.str c], 2, rfl, hS, _, rfl, ?_⟩
      rw [decide_eq_true (show ((([V.str c] : List V).length + 1 : Nat) : Int) = 2 from rfl), decide_eq_true (rfl : ("in" : Str) = "in")]
      refine iteT ⟨.ref a, rfl, a, _, 1, .str c, rfl, rfl, hS, atI_nat (j := 1) rfl, c, rfl, hsz c rfl, hT, fun H' kp => q H' kp⟩
    | out =>
      refine ⟨.ref a, rfl, a, "out", "in", [], 2, rfl, hS, _, rfl, ?_⟩
      rw [decide_eq_false ne_oi, Bool.and_false]
      exact iteF (q H (Kp.refl hT))
theorem ok_dep {f fH : Addr} {fd fdH : FuncData} (F : Fun K "is_departure" "is_departure" sIsDep f fd)
    (GH : FnOk P w K mg base CX0 1 fH fdH ["value", "word", "length"] (spHasW K)) (mgH : mg "has_word" = some (.ref fH)) (kH : PySem.W.keepIn K (.ref fH) = true) (bH : Binds K fdH ["value", "word", "length"] []) : FnOk P w K mg base CX0 2 f fd ["value"] (spEv K Ps depB) := by
  refine F.ok scIsDep (fun vs H Q E h => ?_) (fun cdv A outer s H vs Q E hr h => ?_)
  · obtain ⟨a, e, rfl, _⟩ := h
    rfl
  · obtain ⟨a, e, rfl, hS, hsz, hT, q⟩ := h
    refine ⟨_, pss_one (ps_ret (pe_call GH hr (by rfl) mgH kH bH .nil pass0 (pa_cons (pv 0) (pa_cons pe_str (pa_cons pe_int pa_nil))))), ?_⟩
    cases e with
    | inn c =>
      refine ⟨.ref a, rfl, a, "in", "out", [.str c], 1, rfl, hS, ?_⟩
      rw [decide_eq_false ne_io, Bool.and_false]
      exact q H (Kp.refl hT)
    | out =>
      refine ⟨.ref a, rfl, a, "out", "out", [], 1, rfl, hS, ?_⟩
      rw [decide_eq_true (rfl : ("out" : Str) = "out")]
      exact q H (Kp.refl hT)
/-- nothing is handed back, what stood stands -/
def spReqLane (K : PySem.W.Frag) (Ps : List Addr) : Sp := fun vs H Q _ => ∃ (a : Addr) (xs : List Str), vs = [.ref a] ∧ SqT K H a (xs.map V.str) ∧ xs.length ≤ 1000 ∧ (∀ x ∈ xs, x.length ≤ sizeLine) ∧ laneB xs = true ∧ Tabs Ps H ∧ ∀ H', Kp Ps H H' → Q .non H'
theorem ok_reqLane {f fL : Addr} {fd fdL : FuncData} (F : Fun K "require_lane" "require_lane" sReqLane f fd)
    (GL : FnOk P w K mg base CX0 4 fL fdL ["value"] (spLane K Ps)) (mgL : mg "is_lane" = some (.ref fL)) (kL : PySem.W.keepIn K (.ref fL) = true) (bL : Binds K fdL ["value"] []) : FnOk P w K mg base CX0 5 f fd ["value"] (spReqLane K Ps) := by
  refine F.ok scReqLane (fun vs H Q E h => ?_) (fun cdv A outer s H vs Q E hr h => ?_)
  · obtain ⟨a, xs, rfl, _⟩ := h
    rfl
  · obtain ⟨a, xs, rfl, hS, hlen, hsz, hB, hT, q⟩ := h
    refine ⟨_, pss_one (ps_if (pt_not (pt_val (pe_call GL hr (by rfl) mgL kL bL .nil pass0 (pa_cons (pv 0) pa_nil)))) (pss_one ps_dead) pss_nil), ?_⟩
    refine ⟨.ref a, rfl, a, xs, rfl, hS, hlen, hsz, hT, fun H' kp => ⟨_, rfl, ?_⟩⟩
    rw [hB]
    exact iteF (q H' kp)
end
end Ln


set_option Elab.async false
set_option linter.all false
set_option maxRecDepth 100000
set_option maxHeartbeats 2000000
namespace Ln
open PySem PySem.Spec PyProof.Rows L2 GxR
theorem pair_at {α β : Type} {F : α → β → Prop} : ∀ {as : List α} {bs : List β}, Paired F as bs → ∀ (i : Nat) (b : β), bs[i]? = some b → ∃ a, as[i]? = some a ∧ F a b
  | _, _, .nil, i, b, h => by simp at h
  | _, _, .cons r t, 0, b, h => by
    have e := Option.some.inj h
    exact ⟨_, rfl, e ▸ r⟩
  | _, _, .cons r t, i + 1, b, h => by
    obtain ⟨a, e, q⟩ := pair_at t i b (by simpa using h)
    exact ⟨a, by simpa using e, q⟩
theorem Paired.imp {α β : Type} {F G : α → β → Prop} {as : List α} {bs : List β} (h : Paired F as bs) (f : ∀ a b, F a b → G a b) : Paired G as bs := Paired.mapP h f
/-- may the log es be, the cars used, n present -/
def logB : List Str → Nat → List Ev → Bool
  | _, _, [] => true
  | u, n, .inn c :: r => if carB c = true ∧ ¬ c ∈ u then logB (c :: u) (n + 1) r else false
  | u, n, .out :: r => if 0 < n then logB u (n - 1) r else false
theorem Kp.upd {Ps : List Addr} {H H1 : Hp} {u : Addr} {o : HO} (k : Kp Ps H H1) (hT : Tabs Ps H) (hu : H u = none) : Kp Ps H (upd H1 u o) := by
  have nu := tab_free hT hu
  exact ⟨fun b q e n => by rw [upd_ne (ne_of_none e hu)]; exact k.at_ b q e n, fun q hq => by
    obtain ⟨ps, e, r⟩ := k.tab q hq
    exact ⟨ps, by rw [upd_ne (fun z : q = u => nu (by rw [← z]; exact hq))]; exact e, r⟩⟩
/-- a log's events, each a tuple -/
def EvsAt (K : PySem.W.Frag) (H : Hp) (as : List Addr) (es : List Ev) : Prop := Paired (fun a (e : Ev) => SqT K H a e.vals) as es
theorem EvsAt.kp {K : PySem.W.Frag} {Ps : List Addr} {H H1 : Hp} {as : List Addr} {es : List Ev} (h : EvsAt K H as es) (k : Kp Ps H H1) (hT : Tabs Ps H) : EvsAt K H1 as es := Paired.imp h fun _ _ q => k.seqT hT q
theorem scIsLog : FnScope ["start", "value", "used", "present", "event"] ["start", "value"] (defScope sIsLog) := ⟨rfl, rfl, rfl, by decide +kernel, rfl, by decide +kernel, by decide +kernel⟩
/-- a lane and a log of modest size -/
structure LaneAt (K : PySem.W.Frag) (H : Hp) (a : Addr) (xs : List Str) : Prop where
  at_ : SqT K H a (xs.map V.str)
  few : xs.length ≤ 400
  sz : ∀ x ∈ xs, x.length ≤ sizeLine
structure LogAt (K : PySem.W.Frag) (H : Hp) (l : Addr) (as : List Addr) (es : List Ev) : Prop where
  at_ : SqL K H l (as.map V.ref)
  evs : EvsAt K H as es
  few : es.length ≤ 400
  sz : ∀ c, Ev.inn c ∈ es → c.length ≤ sizeLine
theorem LaneAt.kp {K : PySem.W.Frag} {Ps : List Addr} {H H1 : Hp} {a : Addr} {xs : List Str} (h : LaneAt K H a xs) (k : Kp Ps H H1) (hT : Tabs Ps H) : LaneAt K H1 a xs := ⟨k.seqT hT h.at_, h.few, h.sz⟩
theorem LogAt.kp {K : PySem.W.Frag} {Ps : List Addr} {H H1 : Hp} {l : Addr} {as : List Addr} {es : List Ev} (h : LogAt K H l as es) (k : Kp Ps H H1) (hT : Tabs Ps H) : LogAt K H1 l as es := ⟨k.seqL hT h.at_, h.evs.kp k hT, h.few, h.sz⟩
section
variable {P : Program} {w : World} {K : PySem.W.Frag} {mg : Str → Option Value} {base : Heap} {Ps : List Addr}
def spLog (K : PySem.W.Frag) (Ps : List Addr) : Sp := fun vs H Q _ => ∃ (a l : Addr) (xs : List Str) (as : List Addr) (es : List Ev), vs = [.ref a, .ref l] ∧ LaneAt K H a xs ∧ laneB xs = true ∧ LogAt K H l as es ∧ Tabs Ps H ∧ ∀ H', Kp Ps H H' → Q (.bl (logB xs xs.length es)) H'
theorem ok_log {f fR fA fD : Addr} {fd fdR fdA fdD : FuncData} (F : Fun K "is_log" "is_log" sIsLog f fd) (B : Bi mg)
    (GR : FnOk P w K mg base CX0 5 fR fdR ["value"] (spReqLane K Ps)) (mgR : mg "require_lane" = some (.ref fR)) (kR : PySem.W.keepIn K (.ref fR) = true) (bR : Binds K fdR ["value"] [])
    (GA : FnOk P w K mg base CX0 3 fA fdA ["value"] (spEv K Ps arrB)) (mgA : mg "is_arrival" = some (.ref fA)) (kA : PySem.W.keepIn K (.ref fA) = true) (bA : Binds K fdA ["value"] [])
    (GD : FnOk P w K mg base CX0 2 fD fdD ["value"] (spEv K Ps depB)) (mgD : mg "is_departure" = some (.ref fD)) (kD : PySem.W.keepIn K (.ref fD) = true) (bD : Binds K fdD ["value"] []) :
    FnOk P w K mg base CX0 6 f fd ["start", "value"] (spLog K Ps) := by
  refine F.ok scIsLog (fun vs H Q E h => ?_) (fun cdv A outer s H vs Q E hr h => ?_)
  · obtain ⟨a, l, xs, as, es, rfl, _⟩ := h
    rfl
  · obtain ⟨a, l, xs, as, es, rfl, hL, hB, hE, hT, q⟩ := h
    refine ⟨_, pss_cons (ps_expr (pe_call GR hr (by rfl) mgR kR bR .nil pass0 (pa_cons (pv 0) pa_nil)))
      (pss_cons (ps_if (pt_not (pt_val (pe_callB call_isi (by rfl) B.isi (by decide +kernel) (pa_cons (pv 1) (pa_cons (pe_bltn (by rfl) B.lst (by decide +kernel) (v := .ty "list") rfl) pa_nil))))) (pss_one (ps_ret pe_bl)) pss_nil)
      (pss_cons (ps_set (i := 2) scIsLog.nd rfl (.inl rfl) (pe_callTy (cr_setT rfl) (by rfl) B.set (by decide +kernel) (pa_cons (pv 0) pa_nil)))
      (pss_cons (ps_set (i := 3) scIsLog.nd rfl (.inl rfl) (pe_callB call_len_seq (by rfl) B.len PySem.boot_len (pa_cons (pv 0) pa_nil)))
      (pss_cons (ps_for PassesOwn.never rfl (pi_list (pv 1)) (pg_name (i := 4) scIsLog.nd rfl (.inl rfl))
        (pss_one (ps_if (PW.pt (pw_and (pt_val (pe_call GA (hr.mono (by decide)) (by rfl) mgA kA bA .nil pass0 (pa_cons (pv 4) pa_nil))) (pw_and1 (pt_cmpR or_snotinK (pe_ix ix_tup (pv 4) pe_int (fun _ _ => rfl)) (pv 2) (by rfl)))))
          (pss_cons (ps_expr (pe_saddK (pv 2) (pa_cons (pe_ix ix_tup (pv 4) pe_int (fun _ _ => rfl)) pa_nil))) (pss_one (ps_aug (i := 3) scIsLog.nd rfl (.inl rfl) pe_int ip_add)))
          (pss_one (ps_if (PW.pt (pw_and (pt_val (pe_call GD (hr.mono (by decide)) (by rfl) mgD kD bD .nil pass0 (pa_cons (pv 4) pa_nil))) (pw_and1 (pt_cmpR op_gt (pv 3) pe_int (nomark _)))))
            (pss_one (ps_aug (i := 3) scIsLog.nd rfl (.inl rfl) pe_int ip_sub))
            (pss_one (ps_ret pe_bl)))))))
      (pss_one (ps_ret pe_bl)))))), ?_⟩
    -- require_lane(start)
    refine ⟨.ref a, rfl, a, xs, rfl, hL.at_, by have := hL.few; omega, hL.sz, hB, hT, fun H1 k1 => ?_⟩
    have hL1 := hL.kp k1 hT
    have hE1 := hE.kp k1 hT
    refine ⟨.ref l, rfl, .ref l, .ty "list", .type "list", .type "list", true, rfl, .ty _, tyx_lst hE1.at_, kit_ty (by decide +kernel), true, rfl, iteF ?_⟩
    -- used = set(start); present = len(start)
    refine ⟨.ref a, rfl, a, xs, rfl, hL1.at_, by have := hL.few; omega, fun u n hu hn _ => ?_⟩
    have hu0 : H u = none := k1.free hT hu
    have k2 : Kp Ps H (upd H1 u (SetK P w u (memK (xs.map Sum.inr)) n)) := k1.upd hT hu0
    have hL2 := hL.kp k2 hT
    refine ⟨.ref a, rfl, a, _, rfl, .inr hL2.at_, ?_⟩
    have hE2 := hE.kp k2 hT
    refine ⟨.ref l, rfl, l, rfl, ⟨_, hE2.at_⟩, for_list (K := K) (a := l) (xs := as.map V.ref) (fun i σ H' => ∃ (v4 : Option V) (m : Nat) (S : Key → Bool) (us : List Str) (c : Nat), σ = [some (.ref a), some (.ref l), some (.ref u), some (.int (m : Nat)), v4] ∧ Kp Ps H H' ∧
        H' u = some (SetK P w u S c) ∧ c ≤ xs.length + i ∧ (∀ x : Str, S (.inr x) = true ↔ x ∈ us) ∧ i ≤ es.length ∧ logB xs xs.length es = logB us m (es.drop i)) ?_ ?_ ?_ ?_⟩
    · refine ⟨none, xs.length, _, xs, n, ?_, k2, upd_same, by omega, fun x => ?_, Nat.zero_le _, rfl⟩
      · rw [List.length_map]
        rfl
      · rw [memK_iff, List.mem_map]
        constructor
        · intro ⟨y, hy, e⟩
          rw [← Sum.inr.inj e]
          exact hy
        · intro h
          exact ⟨x, h, rfl⟩
    · rintro i σ H' _ ⟨_, _, _, _, _, _, kp, _⟩
      exact (hE.kp kp hT).at_
    · rintro i y σ H' hi ⟨v4, m, S, us, c, rfl, kp, hSet, hc, hS, hie, hlog⟩
      have hlen := Paired.length hE.evs
      have hlt : i < es.length := by
        have h1 := (List.getElem?_eq_some_iff.mp hi).1
        rw [List.length_map] at h1
        omega
      obtain ⟨ev, hev⟩ : ∃ ev, es[i]? = some ev := ⟨es[i], List.getElem?_eq_getElem hlt⟩
      obtain ⟨b, hb, hbt⟩ := pair_at (hE.kp kp hT).evs i ev hev
      have hy : y = .ref b := by
        rw [List.getElem?_map, hb] at hi
        exact (Option.some.inj hi).symm
      subst hy
      have hdrop : es.drop i = ev :: es.drop (i + 1) := by
        rw [List.drop_eq_getElem_cons hlt]
        rw [List.getElem?_eq_getElem hlt] at hev
        rw [Option.some.inj hev]
      rw [hdrop] at hlog
      have hsz : ∀ c', ev = .inn c' → c'.length ≤ sizeLine := fun c' e => hE.sz c' (e ▸ List.mem_of_getElem? hev)
      have few1 := hL.few
      have few2 := hE.few
      -- is_arrival(event)
      refine ⟨.ref b, rfl, b, ev, rfl, hbt, hsz, kp.tab, fun H3 k3 => ⟨_, rfl, ?_⟩⟩
      have kp3 := kp.trans k3
      have hSet3 := k3.ext kp.tab hSet
      have hbt3 := k3.seqT kp.tab hbt
      -- elif is_departure(event) and present > 0
      have dep : ∀ H4, Kp Ps H3 H4 → (depB ev && decide (0 < m)) = false → logB us m (ev :: es.drop (i + 1)) = false → Q (.bl false) H4 := fun H4 k4 _ hf => by
        have := q H4 (kp3.trans k4)
        rw [hlog, hf] at this
        exact this
      cases ev with
      | out =>
        refine iteF (iteF ?_)
        refine ⟨.ref b, rfl, b, .out, rfl, hbt3, fun _ e => (by cases e), kp3.tab, fun H4 k4 => ⟨_, rfl, iteT ?_⟩⟩
        refine ⟨_, rfl, _, _, rfl, rfl, _, rfl, ite2 (fun hm => ?_) (fun hm => ?_)⟩
        · have hm : (0 : Int) < (m : Nat) := of_decide_eq_true hm
          refine ⟨_, rfl, _, _, rfl, rfl, some (.ref b), m - 1, S, us, c, ?_, kp3.trans k4, k4.ext kp3.tab hSet3, by omega, hS, hlt, ?_⟩
          · show [some (V.ref a), some (V.ref l), some (V.ref u), some (V.int ((m : Nat) - 1)), some (V.ref b)] = _
            rw [show ((m : Nat) : Int) - 1 = ((m - 1 : Nat) : Int) by omega]
          · rw [hlog]
            show (if 0 < m then _ else _) = _
            rw [if_pos (by omega)]
        · have hm : ¬ 0 < m := fun z => hm (decide_eq_true (by omega))
          exact dep H4 k4 (by simp [hm]) (by show (if 0 < m then _ else _) = _; rw [if_neg hm])
      | inn x =>
        refine ite2 (fun hx => ?_) (fun hx => ?_)
        · have hx : carB x = true := hx
          refine ⟨.ref b, rfl, b, _, 1, .str x, rfl, rfl, hbt3, atI_nat (j := 1) rfl, .ref u, rfl, .inr x, u, S, c, rfl, rfl, hSet3, _, rfl, ?_⟩
          show if (!S (.inr x)) = true then _ else _
          cases hin : S (.inr x) with
          | false =>
            have hxu : ¬ x ∈ us := fun z => by
              rw [(hS x).mpr z] at hin
              cases hin
            refine iteT ⟨.ref u, rfl, ⟨u, S, c, rfl, hSet3⟩, .ref b, rfl, b, _, 1, .str x, rfl, rfl, hbt3, atI_nat (j := 1) rfl, u, .inr x, S, c, rfl, rfl, hSet3, by unfold scanBound; omega, ?_⟩
            refine ⟨_, rfl, _, _, rfl, rfl, some (.ref b), m + 1, _, x :: us, _, rfl, kp3.upd hT hu0, upd_same, ?_, fun z => ?_, hlt, ?_⟩
            · rw [hin, if_neg Bool.false_ne_true]
              omega
            · show (S (.inr z) || decide ((Sum.inr z : Key) = Sum.inr x)) = true ↔ _
              rw [Bool.or_eq_true, hS z, decide_eq_true_iff, List.mem_cons]
              constructor
              · rintro (h | h)
                · exact .inr h
                · exact .inl (Sum.inr.inj h)
              · rintro (h | h)
                · exact .inr (by rw [h])
                · exact .inl h
            · rw [hlog]
              show (if carB x = true ∧ ¬ x ∈ us then _ else _) = _
              rw [if_pos ⟨hx, hxu⟩]
          | true =>
            have hxu : x ∈ us := (hS x).mp hin
            refine iteF ?_
            refine ⟨.ref b, rfl, b, .inn x, rfl, hbt3, hsz, kp3.tab, fun H4 k4 => ⟨_, rfl, iteF (iteF ?_)⟩⟩
            exact dep H4 k4 rfl (by show (if carB x = true ∧ ¬ x ∈ us then _ else _) = _; rw [if_neg fun z => z.2 hxu])
        · have hx : ¬ carB x = true := hx
          refine iteF ?_
          refine ⟨.ref b, rfl, b, .inn x, rfl, hbt3, hsz, kp3.tab, fun H4 k4 => ⟨_, rfl, iteF (iteF ?_)⟩⟩
          exact dep H4 k4 rfl (by show (if carB x = true ∧ ¬ x ∈ us then _ else _) = _; rw [if_neg fun z => hx z.1])
    · rintro σ H' ⟨v4, m, S, us, c, rfl, kp, hSet, hc, hS, hie, hlog⟩
      have := q H' kp
      rw [hlog, List.length_map, Paired.length hE.evs, List.drop_length] at this
      exact this
end
end Ln


set_option Elab.async false
set_option linter.all false
set_option maxRecDepth 100000
set_option maxHeartbeats 2000000
namespace Ln
open PySem PySem.Spec PyProof.Rows L2 GxR
theorem scReqLog : FnScope ["start", "log"] ["start", "log"] (defScope sReqLog) := ⟨rfl, rfl, rfl, by decide +kernel, rfl, by decide +kernel, by decide +kernel⟩
theorem scSizes : FnScope ["start", "log", "counts", "event", "change"] ["start", "log"] (defScope sSizes) := ⟨rfl, rfl, rfl, by decide +kernel, rfl, by decide +kernel, by decide +kernel⟩
def szs : Int → List Ev → List Int
  | n, [] => [n]
  | n, .inn _ :: r => n :: szs (n + 1) r
  | n, .out :: r => n :: szs (n - 1) r
def Ev.dn : Ev → Int
  | .inn _ => 1
  | .out => -1
theorem szs_head (n : Int) (es : List Ev) : (szs n es)[0]? = some n := by
  cases es with
  | nil => rfl
  | cons e r => cases e <;> rfl
theorem szs_len : ∀ (n : Int) (es : List Ev), (szs n es).length = es.length + 1
  | _, [] => rfl
  | n, .inn _ :: r => by show (szs (n + 1) r).length + 1 = _; rw [szs_len]; rfl
  | n, .out :: r => by show (szs (n - 1) r).length + 1 = _; rw [szs_len]; rfl
theorem szs_step : ∀ (n : Int) (es : List Ev) (i : Nat) (e : Ev) (k : Int), es[i]? = some e → (szs n es)[i]? = some k → (szs n es)[i + 1]? = some (k + e.dn)
  | n, [], i, e, k, h, _ => by simp at h
  | n, .inn c :: r, 0, e, k, h, h2 => by
    have e1 := Option.some.inj h
    have e2 := Option.some.inj h2
    subst e1 e2
    show (szs (n + 1) r)[0]? = _
    rw [szs_head]
    rfl
  | n, .out :: r, 0, e, k, h, h2 => by
    have e1 := Option.some.inj h
    have e2 := Option.some.inj h2
    subst e1 e2
    show (szs (n - 1) r)[0]? = _
    rw [szs_head]
    rfl
  | n, .inn c :: r, i + 1, e, k, h, h2 => szs_step (n + 1) r i e k (by simpa using h) h2
  | n, .out :: r, i + 1, e, k, h, h2 => szs_step (n - 1) r i e k (by simpa using h) h2
def sideB (x : Str) : Bool := decide (x = "L") || decide (x = "R")
section
variable {P : Program} {w : World} {K : PySem.W.Frag} {mg : Str → Option Value} {base : Heap} {Ps : List Addr}
def spReqLog (K : PySem.W.Frag) (Ps : List Addr) : Sp := fun vs H Q _ => ∃ (a l : Addr) (xs : List Str) (as : List Addr) (es : List Ev), vs = [.ref a, .ref l] ∧ LaneAt K H a xs ∧ laneB xs = true ∧ LogAt K H l as es ∧ logB xs xs.length es = true ∧ Tabs Ps H ∧ ∀ H', Kp Ps H H' → Q .non H'
theorem ok_reqLog {f fL : Addr} {fd fdL : FuncData} (F : Fun K "require_log" "require_log" sReqLog f fd)
    (GL : FnOk P w K mg base CX0 6 fL fdL ["start", "value"] (spLog K Ps)) (mgL : mg "is_log" = some (.ref fL)) (kL : PySem.W.keepIn K (.ref fL) = true) (bL : Binds K fdL ["start", "value"] []) : FnOk P w K mg base CX0 7 f fd ["start", "log"] (spReqLog K Ps) := by
  refine F.ok scReqLog (fun vs H Q E h => ?_) (fun cdv A outer s H vs Q E hr h => ?_)
  · obtain ⟨a, l, xs, as, es, rfl, _⟩ := h
    rfl
  · obtain ⟨a, l, xs, as, es, rfl, hL, hB, hE, hB2, hT, q⟩ := h
    refine ⟨_, pss_one (ps_if (pt_not (pt_val (pe_call GL hr (by rfl) mgL kL bL .nil pass0 (pa_cons (pv 0) (pa_cons (pv 1) pa_nil))))) (pss_one ps_dead) pss_nil), ?_⟩
    refine ⟨.ref a, rfl, .ref l, rfl, a, l, xs, as, es, rfl, hL, hB, hE, hT, fun H' kp => ⟨_, rfl, ?_⟩⟩
    rw [hB2]
    exact iteF (q H' kp)
def spSide (Ps : List Addr) : Sp := fun vs H Q _ => ∃ x : Str, vs = [.str x] ∧ Tabs Ps H ∧ ∀ H', Kp Ps H H' → Q (.bl (sideB x)) H'
end
end Ln


set_option Elab.async false
set_option linter.all false
set_option maxRecDepth 100000
set_option maxHeartbeats 2000000
namespace Ln
open PySem PySem.Spec PyProof.Rows L2 GxR
section
variable {P : Program} {w : World} {K : PySem.W.Frag} {mg : Str → Option Value} {base : Heap} {Ps : List Addr}
def spReqSides (K : PySem.W.Frag) (Ps : List Addr) : Sp := fun vs H Q _ => ∃ (l m : Addr) (as : List V) (sd : List Str), vs = [.ref l, .ref m] ∧ SqL K H l as ∧ SqL K H m (sd.map V.str) ∧ sd.length = as.length ∧ sd.all sideB = true ∧ Tabs Ps H ∧ ∀ H', Kp Ps H H' → Q .non H'
def spSizes (K : PySem.W.Frag) (Ps : List Addr) : Sp := fun vs H Q _ => ∃ (a l : Addr) (xs : List Str) (as : List Addr) (es : List Ev), vs = [.ref a, .ref l] ∧ LaneAt K H a xs ∧ laneB xs = true ∧ LogAt K H l as es ∧ logB xs xs.length es = true ∧ Tabs Ps H ∧
  ∀ H' p, Kp Ps H H' → H p = none → H' p = some (.lst ((szs xs.length es).map V.int)) → Q (.ref p) H'
theorem Kp.setNew {H H1 : Hp} {u : Addr} {o : HO} (k : Kp Ps H H1) (hT : Tabs Ps H) (hu : H u = none) : Kp Ps H (L2.upd H1 u o) := k.upd hT hu
theorem ok_sizes {f fL : Addr} {fd fdL : FuncData} (F : Fun K "sizes" "sizes" sSizes f fd) (B : Bi mg)
    (GL : FnOk P w K mg base CX0 7 fL fdL ["start", "log"] (spReqLog K Ps)) (mgL : mg "require_log" = some (.ref fL)) (kL : PySem.W.keepIn K (.ref fL) = true) (bL : Binds K fdL ["start", "log"] []) : FnOk P w K mg base CX0 8 f fd ["start", "log"] (spSizes K Ps) := by
  refine F.ok scSizes (fun vs H Q E h => ?_) (fun cdv A outer s H vs Q E hr h => ?_)
  · obtain ⟨a, l, xs, as, es, rfl, _⟩ := h
    rfl
  · obtain ⟨a, l, xs, as, es, rfl, hL, hB, hE, hB2, hT, q⟩ := h
    refine ⟨_, pss_cons (ps_expr (pe_call GL hr (by rfl) mgL kL bL .nil pass0 (pa_cons (pv 0) (pa_cons (pv 1) pa_nil))))
      (pss_cons (ps_set (i := 2) scSizes.nd rfl (.inl rfl) (pe_lst (pa_cons (pe_callB call_len_seq (by rfl) B.len PySem.boot_len (pa_cons (pv 0) pa_nil)) pa_nil)))
      (pss_cons (ps_for PassesOwn.never rfl (pi_list (pv 1)) (pg_name (i := 3) scSizes.nd rfl (.inl rfl))
        (pss_cons (ps_set (i := 4) scSizes.nd rfl (.inl rfl) (pe_ifExp (pt_cmpR op_eq (pe_ix ix_tup (pv 3) pe_int (fun _ _ => rfl)) pe_str (nomark _)) pe_int (pe_un un_neg pe_int)))
        (pss_one (ps_expr (pe_bm PySem.F.plainAttrs_list PySem.F.slot_list_append PySem.F.type_list_append mt_append (pv 2) (pa_cons (pe_op op_add (pe_ix ix_list (pv 2) (pe_un un_neg pe_int) (fun _ _ => rfl)) (pv 4)) pa_nil))))))
      (pss_one (ps_ret (pv 2))))), ?_⟩
    refine ⟨.ref a, rfl, .ref l, rfl, a, l, xs, as, es, rfl, hL, hB, hE, hB2, hT, fun H1 k1 => ?_⟩
    have hL1 := hL.kp k1 hT
    have hE1 := hE.kp k1 hT
    refine ⟨.ref a, rfl, a, _, rfl, .inr hL1.at_, by show 1 ≤ sizeLine; decide, fun o ho => ?_⟩
    have hoo : H o = none := k1.free hT ho
    have k2 : Kp Ps H (L2.upd H1 o (.lst [V.int ((xs.map V.str).length : Nat)])) := k1.upd hT hoo
    have hlen := Paired.length hE.evs
    refine ⟨.ref l, rfl, l, rfl, ⟨_, (hE.kp k2 hT).at_⟩, for_list (K := K) (a := l) (xs := as.map V.ref) (fun i σ H' => ∃ v3 v4 : Option V, σ = [some (.ref a), some (.ref l), some (.ref o), v3, v4] ∧ Kp Ps H H' ∧ i ≤ es.length ∧ H' o = some (.lst (((szs xs.length es).take (i + 1)).map V.int))) ?_ ?_ ?_ ?_⟩
    · refine ⟨none, none, rfl, k2, Nat.zero_le _, ?_⟩
      rw [upd_same, List.take_add_one, szs_head, List.length_map]
      rfl
    · rintro i σ H' _ ⟨_, _, _, kp, _⟩
      exact (hE.kp kp hT).at_
    · rintro i y σ H' hi ⟨v3, v4, rfl, kp, hie, ho'⟩
      have hlt : i < es.length := by
        have h1 := (List.getElem?_eq_some_iff.mp hi).1
        rw [List.length_map] at h1
        omega
      have hev : es[i]? = some es[i] := List.getElem?_eq_getElem hlt
      obtain ⟨b, hb, hbt⟩ := pair_at (hE.kp kp hT).evs i _ hev
      have hy : y = .ref b := by
        rw [List.getElem?_map, hb] at hi
        exact (Option.some.inj hi).symm
      subst hy
      have hz : i < (szs xs.length es).length := by rw [szs_len]; omega
      have few2 := hE.few
      have hk : (szs xs.length es)[i]? = some (szs xs.length es)[i] := List.getElem?_eq_getElem hz
      have hlast : ((szs xs.length es).take (i + 1)).map V.int = ((szs xs.length es).take i).map V.int ++ [V.int (szs xs.length es)[i]] := by
        rw [List.take_add_one, hk, List.map_append]
        rfl
      have hstep := szs_step _ es i _ _ hev hk
      have fin : ∀ d : Int, d = (es[i]).dn → L2.upd H' o (.lst (((szs xs.length es).take (i + 1)).map V.int ++ [V.int ((szs xs.length es)[i] + d)])) o = some (.lst (((szs xs.length es).take (i + 1 + 1)).map V.int)) := fun d e => by
        rw [upd_same, List.take_add_one (i := i + 1), hstep, List.map_append, e]
        rfl
      have room : (((szs xs.length es).take (i + 1)).map V.int).length < sizeLine := by
        rw [List.length_map, List.length_take]
        exact Nat.lt_of_le_of_lt (Nat.min_le_left _ _) (small1000 (by omega))
      have lastAt : atI (((szs xs.length es).take (i + 1)).map V.int) (-1) = some (V.int (szs xs.length es)[i]) := by
        rw [hlast]
        exact atI_last _ _
      cases hE2 : es[i] with
      | inn c =>
        rw [hE2] at hbt
        refine ⟨.ref b, rfl, b, _, 0, .str "in", rfl, rfl, hbt, atI_nat (j := 0) rfl, rfl, _, rfl, ?_⟩
        rw [decide_eq_true (rfl : V.str "in" = V.str "in")]
        refine iteT ?_
        refine ⟨.ref o, rfl, .inl ⟨rfl, _, .inl (.inl ho')⟩, .ref o, rfl, 1, rfl, o, _, -1, _, rfl, rfl, .inl (.inl ho'), lastAt, .int 1, rfl, _, _, rfl, rfl, o, _, _, rfl, rfl, ho', room, ?_⟩
        exact ⟨some (.ref b), some (.int 1), rfl, kp.upd hT hoo, hlt, fin 1 (by rw [hE2]; rfl)⟩
      | out =>
        rw [hE2] at hbt
        refine ⟨.ref b, rfl, b, _, 0, .str "out", rfl, rfl, hbt, atI_nat (j := 0) rfl, rfl, _, rfl, ?_⟩
        rw [decide_eq_false (fun z => ne_oi (V.str.inj z))]
        refine iteF ⟨1, rfl, ?_⟩
        refine ⟨.ref o, rfl, .inl ⟨rfl, _, .inl (.inl ho')⟩, .ref o, rfl, 1, rfl, o, _, -1, _, rfl, rfl, .inl (.inl ho'), lastAt, .int (-1), rfl, _, _, rfl, rfl, o, _, _, rfl, rfl, ho', room, ?_⟩
        exact ⟨some (.ref b), some (.int (-1)), rfl, kp.upd hT hoo, hlt, fin (-1) (by rw [hE2]; rfl)⟩
    · rintro σ H' ⟨v3, v4, rfl, kp, hie, ho'⟩
      refine ⟨.ref o, rfl, q H' o kp hoo ?_⟩
      rw [ho', List.length_map, hlen, List.take_of_length_le (by rw [szs_len]; exact Nat.le_refl _)]
end
end Ln


set_option Elab.async false
set_option linter.all false
set_option maxRecDepth 100000
set_option maxHeartbeats 2000000
namespace Ln
open PySem PySem.Spec PyProof.Rows L2 GxR
theorem scNumbers : FnScope ["start", "log", "event"] ["start", "log"] (defScope sNumbers) := ⟨rfl, rfl, rfl, by decide +kernel, rfl, by decide +kernel, by decide +kernel⟩
/-- the cars that arrive -/
def arrs : List Ev → List Str
  | [] => []
  | .inn c :: r => c :: arrs r
  | .out :: r => arrs r
theorem arrs_app : ∀ (a b : List Ev), arrs (a ++ b) = arrs a ++ arrs b
  | [], b => rfl
  | .inn c :: r, b => by show c :: arrs (r ++ b) = _; rw [arrs_app]; rfl
  | .out :: r, b => arrs_app r b
theorem arrs_len : ∀ (a : List Ev), (arrs a).length ≤ a.length
  | [] => Nat.le_refl _
  | .inn c :: r => Nat.succ_le_succ (arrs_len r)
  | .out :: r => Nat.le_succ_of_le (arrs_len r)
section
variable {P : Program} {w : World} {K : PySem.W.Frag} {mg : Str → Option Value} {base : Heap} {Ps : List Addr}
def spNumbers (K : PySem.W.Frag) (Ps : List Addr) : Sp := fun vs H Q _ => ∃ (a l : Addr) (xs : List Str) (as : List Addr) (es : List Ev), vs = [.ref a, .ref l] ∧ LaneAt K H a xs ∧ laneB xs = true ∧ LogAt K H l as es ∧ logB xs xs.length es = true ∧ Tabs Ps H ∧
  ∀ H' p, Kp Ps H H' → H p = none → H' p = some (.lst ((xs ++ arrs es).map V.str)) → Q (.ref p) H'
theorem ok_numbers {f fL : Addr} {fd fdL : FuncData} (F : Fun K "numbers" "numbers" sNumbers f fd) (B : Bi mg)
    (GL : FnOk P w K mg base CX0 7 fL fdL ["start", "log"] (spReqLog K Ps)) (mgL : mg "require_log" = some (.ref fL)) (kL : PySem.W.keepIn K (.ref fL) = true) (bL : Binds K fdL ["start", "log"] []) : FnOk P w K mg base CX0 8 f fd ["start", "log"] (spNumbers K Ps) := by
  refine F.ok scNumbers (fun vs H Q E h => ?_) (fun cdv A outer s H vs Q E hr h => ?_)
  · obtain ⟨a, l, xs, as, es, rfl, _⟩ := h
    rfl
  · obtain ⟨a, l, xs, as, es, rfl, hL, hB, hE, hB2, hT, q⟩ := h
    refine ⟨_, pss_cons (ps_expr (pe_call GL hr (by rfl) mgL kL bL .nil pass0 (pa_cons (pv 0) (pa_cons (pv 1) pa_nil))))
      (pss_one (ps_ret (pe_op op_cat (pe_callTy call_list_of (by rfl) B.lst (by decide +kernel) (pa_cons (pv 0) pa_nil))
        (pe_lc (own := [("event", 2)]) (g := gName 2) (by rfl) scNumbers.nd (pi_list (pv 1)) (blkOk_by (own := [("event", 2)]) (N := ["start", "log", "event"]) (sc := defScope sNumbers) (by decide +kernel))
          (fun _ _ _ _ _ => pg_name (i := 2) scNumbers.nd rfl (Or.inl rfl)) (fun _ _ _ _ _ => pts_one (pt_cmpR op_eq (pe_ix (r := rIxT K) ix_tup (pv 2) pe_int (fun _ _ => rfl)) pe_str (nomark _))) (fun _ _ _ _ _ => pe_ix (r := rIxT K) ix_tup (pv 2) pe_int (fun _ _ => rfl)))))), ?_⟩
    refine ⟨.ref a, rfl, .ref l, rfl, a, l, xs, as, es, rfl, hL, hB, hE, hB2, hT, fun H1 k1 => ?_⟩
    have hL1 := hL.kp k1 hT
    refine ⟨.ref a, rfl, a, _, rfl, .inr hL1.at_, fun o ho => ?_⟩
    have hoo : H o = none := k1.free hT ho
    have k2 : Kp Ps H (L2.upd H1 o (.lst (xs.map V.str))) := k1.upd hT hoo
    have hlen := Paired.length hE.evs
    refine ⟨.ref l, rfl, l, rfl, ⟨_, (hE.kp k2 hT).at_⟩, fun D hD => ?_⟩
    have hDD : H D = none := k2.free hT hD
    have hDo : D ≠ o := fun z => by
      rw [z, upd_same] at hD
      cases hD
    refine lc_list (K := K) (a := l) (xs := as.map V.ref) (fun i H' => Kp Ps H H' ∧ i ≤ es.length ∧ H' o = some (.lst (xs.map V.str)) ∧ H' D = some (.lst ((arrs (es.take i)).map V.str))) ?_ ?_ ?_ ?_
    · exact ⟨k2.upd hT hDD, Nat.zero_le _, by rw [upd_ne hDo.symm, upd_same], upd_same⟩
    · rintro i H' _ ⟨kp, _⟩
      exact (hE.kp kp hT).at_
    · rintro i y H' hi ⟨kp, hie, ho', hD'⟩
      have hlt : i < es.length := by
        have h1 := (List.getElem?_eq_some_iff.mp hi).1
        rw [List.length_map] at h1
        omega
      have hev : es[i]? = some es[i] := List.getElem?_eq_getElem hlt
      obtain ⟨b, hb, hbt⟩ := pair_at (hE.kp kp hT).evs i _ hev
      have hy : y = .ref b := by
        rw [List.getElem?_map, hb] at hi
        exact (Option.some.inj hi).symm
      subst hy
      have few2 := hE.few
      have htake : es.take (i + 1) = es.take i ++ [es[i]] := by rw [List.take_add_one, hev]; rfl
      refine ⟨rfl, ?_⟩
      cases hE2 : es[i] with
      | inn c =>
        rw [hE2] at hbt htake
        refine ⟨.ref b, rfl, b, _, 0, .str "in", rfl, rfl, hbt, atI_nat (j := 0) rfl, rfl, _, rfl, ?_⟩
        rw [decide_eq_true (rfl : V.str "in" = V.str "in")]
        refine iteT ⟨.ref b, rfl, b, _, 1, .str c, rfl, rfl, hbt, atI_nat (j := 1) rfl, _, hD', ?_, kp.upd hT hDD, hlt, ?_, ?_⟩
        · rw [List.length_map]
          refine small1000 ?_
          have := arrs_len (es.take i)
          rw [List.length_take] at this
          omega
        · rw [upd_ne hDo.symm]
          exact ho'
        · rw [upd_same, htake, arrs_app, List.map_append]
          rfl
      | out =>
        rw [hE2] at hbt htake
        refine ⟨.ref b, rfl, b, _, 0, .str "out", rfl, rfl, hbt, atI_nat (j := 0) rfl, rfl, _, rfl, ?_⟩
        rw [decide_eq_false (fun z => ne_oi (V.str.inj z))]
        refine iteF ⟨kp, hlt, ho', ?_⟩
        rw [hD', htake, arrs_app]
        show _ = some (HO.lst ((arrs (es.take i) ++ []).map V.str))
        rw [List.append_nil]
    · rintro H' ⟨kp, hie, ho', hD'⟩
      rw [List.length_map, hlen, List.take_length] at hD'
      refine ⟨o, D, _, _, rfl, rfl, ho', hD', ?_, fun p hp => ?_⟩
      · have h1 := hL.few
        have h2 := hE.few
        have h3 := arrs_len es
        rw [List.length_map, List.length_map]
        exact Nat.le_of_lt (small1000 (by omega))
      · have hpp : H p = none := kp.free hT hp
        refine q _ p (kp.upd hT hpp) hpp ?_
        rw [upd_same, List.map_append]
end
end Ln


set_option Elab.async false
set_option linter.all false
set_option maxRecDepth 100000
set_option maxHeartbeats 2000000
namespace Ln
open PySem PySem.Spec PyProof.Rows L2 GxR
/-- the lane and the departed cars after one event -/
def stepR (p : List Str × List Str) (x : Ev × Str) : List Str × List Str :=
  match x.1 with
  | .inn c => (if x.2 = "L" then c :: p.1 else p.1 ++ [c], p.2)
  | .out => if x.2 = "L" then (p.1.drop 1, p.2 ++ p.1.take 1) else (p.1.dropLast, p.2 ++ p.1.drop (p.1.length - 1))
/-- behind the first i events -/
def atR (xs : List Str) (es : List Ev) (sd : List Str) (i : Nat) : List Str × List Str := ((es.zip sd).take i).foldl stepR (xs, [])
theorem atR_succ {xs : List Str} {es : List Ev} {sd : List Str} {i : Nat} {e : Ev} {x : Str} (h1 : es[i]? = some e) (h2 : sd[i]? = some x) : atR xs es sd (i + 1) = stepR (atR xs es sd i) (e, x) := by
  unfold atR
  have : (es.zip sd)[i]? = some (e, x) := by rw [List.getElem?_zip_eq_some]; exact ⟨h1, h2⟩
  rw [List.take_add_one, this, List.foldl_append]
  rfl
/-- how many are present, and that the rest of the log goes on -/
def Live (xs : List Str) (es : List Ev) (i m : Nat) : Prop := ∃ us, logB us m (es.drop i) = true
theorem live_step {xs : List Str} {es : List Ev} {i m : Nat} {e : Ev} (h : Live xs es i m) (he : es[i]? = some e) : match e with
  | .inn _ => Live xs es (i + 1) (m + 1)
  | .out => 0 < m ∧ Live xs es (i + 1) (m - 1) := by
  obtain ⟨us, hl⟩ := h
  have hlt := (List.getElem?_eq_some_iff.mp he).1
  have hd : es.drop i = e :: es.drop (i + 1) := by
    rw [List.drop_eq_getElem_cons hlt, (List.getElem?_eq_some_iff.mp he).2]
  rw [hd] at hl
  cases e with
  | inn c =>
    have hl : (if carB c = true ∧ ¬ c ∈ us then logB (c :: us) (m + 1) (es.drop (i + 1)) else false) = true := hl
    by_cases q : carB c = true ∧ ¬ c ∈ us
    · rw [if_pos q] at hl
      exact ⟨_, hl⟩
    · rw [if_neg q] at hl
      cases hl
  | out =>
    have hl : (if 0 < m then logB us (m - 1) (es.drop (i + 1)) else false) = true := hl
    by_cases q : 0 < m
    · rw [if_pos q] at hl
      exact ⟨q, _, hl⟩
    · rw [if_neg q] at hl
      cases hl
theorem side_cases {x : Str} (h : sideB x = true) : x = "L" ∨ x = "R" := by
  unfold sideB at h
  rcases Bool.or_eq_true _ _ ▸ h with h | h
  · exact .inl (of_decide_eq_true h)
  · exact .inr (of_decide_eq_true h)
theorem ne_RL : ¬ (("R" : Str) = "L") := by decide +kernel
section
variable {P : Program} {w : World} {K : PySem.W.Frag} {mg : Str → Option Value} {base : Heap} {Ps : List Addr}
def spReplay (K : PySem.W.Frag) (Ps : List Addr) : Sp := fun vs H Q _ => ∃ (a l m : Addr) (xs : List Str) (as : List Addr) (es : List Ev) (sd : List Str), vs = [.ref a, .ref l, .ref m] ∧ LaneAt K H a xs ∧ laneB xs = true ∧ LogAt K H l as es ∧ logB xs xs.length es = true ∧
  SqL K H m (sd.map V.str) ∧ sd.length = es.length ∧ sd.all sideB = true ∧ Tabs Ps H ∧
  ∀ H' p t d, Kp Ps H H' → H p = none → H t = none → H d = none → H' p = some (.tup [.ref t, .ref d]) → H' t = some (.tup ((atR xs es sd es.length).1.map V.str)) → H' d = some (.lst ((atR xs es sd es.length).2.map V.str)) → Q (.ref p) H'
theorem stepR_g (x g : List Str) (e : Ev × Str) : stepR (x, g) e = ((stepR (x, []) e).1, g ++ (stepR (x, []) e).2) := by
  obtain ⟨ev, s⟩ := e
  cases ev with
  | inn c => exact Prod.ext rfl (List.append_nil g).symm
  | out =>
    show (if s = "L" then (x.drop 1, g ++ x.take 1) else (x.dropLast, g ++ x.drop (x.length - 1)) : List Str × List Str) = ((if s = "L" then (x.drop 1, [] ++ x.take 1) else (x.dropLast, [] ++ x.drop (x.length - 1)) : List Str × List Str).1, g ++ (if s = "L" then (x.drop 1, [] ++ x.take 1) else (x.dropLast, [] ++ x.drop (x.length - 1)) : List Str × List Str).2)
    split <;> rfl
end
end Ln


set_option Elab.async false
set_option linter.all false
set_option maxRecDepth 100000
set_option maxHeartbeats 2000000
namespace Ln
open PySem PySem.Spec PyProof.Rows L2 GxR
structure Bl (mg : Str → Option Value) : Prop where
  max : mg "max" = none
  min : mg "min" = none
  abs : mg "abs" = none
  rng : mg "range" = none
  rep : mg "repr" = none
/-- i ** j of great i -/
def CPowW (i j : Int) : Prop := 0 ≤ j ∧ j ≤ 10 ∧ i.natAbs < 2 ^ 1000
theorem op_powW {X : Cx} : OpR X (binaryOp .Pow) (rI CPowW fun i j => .int (i ^ j.toNat)) := opI fun i j _ _ _ _ _ hc q => by
  obtain ⟨h0, h1, h2⟩ := hc
  refine pow_int h0 ?_ q
  have hb : Builtin.Int.intBits i ≤ 1000 := by
    unfold Builtin.Int.intBits
    split
    · omega
    · have := PySem.Flt.log2_lt_of (show 0 < 1000 by decide) h2
      omega
  calc (Builtin.Int.intBits i : Int) * j ≤ 1000 * 10 := Int.mul_le_mul (by omega) h1 h0 (by decide)
    _ ≤ 2 ^ 27 := by decide
/-- a source of draws: at most n have been made -/
def SrcV (n : Nat) (l : List V) : Prop := ∃ a b c : Int, l = [.int a, .int b, .int c] ∧ 0 ≤ a ∧ 0 ≤ b ∧ b < 2 ^ 130 ∧ 0 ≤ c ∧ c ≤ n
theorem SrcV.mono {n m : Nat} {l : List V} (h : SrcV n l) (hm : n ≤ m) : SrcV m l := by
  obtain ⟨a, b, c, e, h1, h2, h3, h4, h5⟩ := h
  exact ⟨a, b, c, e, h1, h2, h3, h4, by omega⟩
theorem SrcV.len {n : Nat} {l : List V} (h : SrcV n l) : l.length = 3 := by
  obtain ⟨a, b, c, e, _⟩ := h
  rw [e]
  rfl
section
variable {P : Program} {w : World} {K : PySem.W.Frag} {mg : Str → Option Value} {base : Heap} {Ps : List Addr}
def spSource (K : PySem.W.Frag) : Sp := fun vs H Q _ => ∃ (a : Addr) (ns : List Int) (k : Nat), vs = [.ref a, .int k] ∧ SqL K H a (ns.map V.int) ∧ k ≤ 8 ∧ ∀ p l, H p = none → SrcV 0 l → Q (.ref p) (upd H p (.lst l))
def spDraw : Sp := fun vs H Q _ => ∃ (s : Addr) (l : List V) (n : Nat) (lim : Int), vs = [.ref s, .int lim] ∧ H s = some (.lst l) ∧ SrcV n l ∧ n ≤ 1000000 ∧ 1 ≤ lim ∧ lim ≤ 100000 ∧ ∀ l' r, SrcV (n + 1) l' → 0 ≤ r → r < lim → Q (.int r) (upd H s (.lst l'))
end
end Ln


set_option Elab.async false
set_option linter.all false
set_option maxRecDepth 100000
set_option maxHeartbeats 2000000
namespace Ln
open PySem PySem.Spec PyProof.Rows L2 GxR
/-- what stood stands, the source apart -/
def Ch (s : Addr) (H H' : Hp) : Prop := ∀ b o, H b = some o → b ≠ s → H' b = some o
theorem Ch.refl {s : Addr} {H : Hp} : Ch s H H := fun _ _ e _ => e
theorem Ch.trans {s : Addr} {H H1 H2 : Hp} (a : Ch s H H1) (b : Ch s H1 H2) : Ch s H H2 := fun c o e n => b c o (a c o e n) n
theorem Ch.src {s : Addr} {H : Hp} {o : HO} : Ch s H (upd H s o) := fun b q e n => by rw [upd_ne n]; exact e
theorem Ch.new {s p : Addr} {H H1 : Hp} {o : HO} (k : Ch s H H1) (hp : H p = none) : Ch s H (upd H1 p o) := fun b q e n => by rw [upd_ne (ne_of_none e hp)]; exact k b q e n
theorem Ch.seqL {K : PySem.W.Frag} {s a : Addr} {H H1 : Hp} {xs : List V} (k : Ch s H H1) (h : SqL K H a xs) (n : a ≠ s) : SqL K H1 a xs := by
  rcases h with (e | ⟨ob, e⟩) | e
  · exact .inl (.inl (k _ _ e n))
  · exact .inl (.inr ⟨ob, k _ _ e n⟩)
  · exact .inr e
theorem Ch.seqT {K : PySem.W.Frag} {s a : Addr} {H H1 : Hp} {xs l : List V} (k : Ch s H H1) (h : SqT K H a xs) (hs : H s = some (.lst l)) : SqT K H1 a xs := by
  rcases h with (e | ⟨ob, e⟩) | e
  · exact .inl (.inl (k _ _ e fun z => by rw [z, hs] at e; cases e))
  · exact .inl (.inr ⟨ob, k _ _ e fun z => by rw [z, hs] at e; cases e⟩)
  · exact .inr e
/-- a new address stays apart from the source -/
theorem Ch.free {s p : Addr} {H H1 : Hp} {l : List V} (k : Ch s H H1) (hs : H s = some (.lst l)) (hs1 : ∃ l1, H1 s = some (.lst l1)) (hp : H1 p = none) : H p = none := by
  by_cases z : p = s
  · obtain ⟨l1, e⟩ := hs1
    rw [z, e] at hp
    cases hp
  · cases q : H p with
    | none => rfl
    | some u =>
      rw [k p u q z] at hp
      cases hp
theorem Ch.tabs {s : Addr} {Ps : List Addr} {H H1 : Hp} {l : List V} (k : Ch s H H1) (hs : H s = some (.lst l)) (hT : Tabs Ps H) : Tabs Ps H1 := fun q hq => by
  obtain ⟨ps, e, t⟩ := hT q hq
  exact ⟨ps, k q _ e (fun z => by rw [z, hs] at e; cases e), t⟩
theorem erase_perm {α : Type} {l : List α} {k : Nat} {x : α} (h : l[k]? = some x) : (x :: l.eraseIdx k).Perm l := by
  obtain ⟨hk, e⟩ := List.getElem?_eq_some_iff.mp h
  have e1 : l = l.take k ++ x :: l.drop (k + 1) := by
    rw [← e, ← List.drop_eq_getElem_cons hk, List.take_append_drop]
  rw [List.eraseIdx_eq_take_drop_succ]
  conv => rhs; rw [e1]
  exact List.perm_middle.symm
theorem map_erase {α β : Type} (f : α → β) : ∀ (l : List α) (k : Nat), (l.map f).eraseIdx k = (l.eraseIdx k).map f
  | [], _ => rfl
  | _ :: _, 0 => rfl
  | x :: r, k + 1 => by
    show f x :: (r.map f).eraseIdx k = f x :: (r.eraseIdx k).map f
    rw [map_erase f r k]
abbrev rLenSeq (K : PySem.W.Frag) : List V → Hp → VK → Prop := fun xs H Q => ∃ p ys, xs = [.ref p] ∧ (SqL K H p ys ∨ SqT K H p ys) ∧ Q (.int ((ys.length : Nat) : Int)) H
section
variable {P : Program} {w : World} {K : PySem.W.Frag} {mg : Str → Option Value} {base : Heap} {Ps : List Addr}
def spMixed (K : PySem.W.Frag) : Sp := fun vs H Q _ => ∃ (s t : Addr) (l : List V) (n : Nat) (xs : List Str), vs = [.ref s, .ref t] ∧ H s = some (.lst l) ∧ SrcV n l ∧ n + xs.length ≤ 1000000 ∧ SqL K H t (xs.map V.str) ∧ t ≠ s ∧ xs.length ≤ 1000 ∧
  ∀ (H' : Hp) (p : Addr) (ys : List Str) (l' : List V), Ch s H H' → H p = none → ys.Perm xs → SrcV (n + xs.length) l' → H' s = some (.lst l') → H' p = some (.lst (ys.map V.str)) → Q (.ref p) H'
end
end Ln


set_option Elab.async false
set_option linter.all false
set_option maxRecDepth 100000
set_option maxHeartbeats 4000000
namespace Ln
open PySem PySem.Spec PyProof.Rows L2 GxR
theorem scCell : FnScope ["script", "k"] ["script", "k"] (defScope sCell) := ⟨rfl, rfl, rfl, by decide +kernel, rfl, by decide +kernel, by decide +kernel⟩
theorem scBag : FnScope ["cell", "k"] ["cell", "k"] (defScope sBag) := ⟨rfl, rfl, rfl, by decide +kernel, rfl, by decide +kernel, by decide +kernel⟩
theorem scTake : FnScope ["bag", "limit", "found", "mixed"] ["bag", "limit"] (defScope sTake) := ⟨rfl, rfl, rfl, by decide +kernel, rfl, by decide +kernel, by decide +kernel⟩
theorem scFolk : FnScope ["initial", "entries", "entry"] ["initial", "entries"] (defScope sFolk) := ⟨rfl, rfl, rfl, by decide +kernel, rfl, by decide +kernel, by decide +kernel⟩
section
variable {P : Program} {w : World} {K : PySem.W.Frag} {mg : Str → Option Value} {base : Heap} {Ps : List Addr}
def spCell (K : PySem.W.Frag) : Sp := fun vs H Q _ => ∃ (a : Addr) (ns : List Int) (k : Nat), vs = [.ref a, .int k] ∧ SqL K H a (ns.map V.int) ∧ ∀ c : Int, Q (.int c) H
theorem ok_cell {f : Addr} {fd : FuncData} (F : Fun K "_law_cell_at" "_law_cell_at" sCell f fd) (B : Bi mg) : FnOk P w K mg base CX0 1 f fd ["script", "k"] (spCell K) := by
  refine F.ok scCell (fun vs H Q E h => ?_) (fun cdv A outer s H vs Q E hr h => ?_)
  · obtain ⟨a, ns, k, rfl, _⟩ := h
    rfl
  · obtain ⟨a, ns, k, rfl, hS, q⟩ := h
    refine ⟨_, pss_cons (ps_if (pt_cmpR op_lt (pv 1) (pe_callB call_len_seq (by rfl) B.len PySem.boot_len (pa_cons (pv 0) pa_nil)) (nomark _)) (pss_one (ps_ret (pe_ix ix_list (pv 0) (pv 1) (fun _ _ => rfl)))) pss_nil) (pss_one (ps_ret pe_int)), ?_⟩
    refine ⟨_, rfl, .ref a, rfl, a, _, rfl, .inl hS, _, _, rfl, rfl, _, rfl, ite2 (fun h => ?_) (fun h => ?_)⟩
    · have h : (k : Int) < ((ns.map V.int).length : Nat) := of_decide_eq_true h
      have hk : k < ns.length := by
        rw [List.length_map] at h
        omega
      refine ⟨.ref a, rfl, _, rfl, a, _, k, .int ns[k], rfl, rfl, hS, atI_nat (by rw [List.getElem?_map, List.getElem?_eq_getElem hk]; rfl), ?_⟩
      exact q _
    · exact q 0
def spBag : Sp := fun vs H Q _ => ∃ (c : Int) (k : Nat), vs = [.int c, .int k] ∧ k ≤ 64 ∧ ∀ p l, H p = none → SrcV 0 l → Q (.ref p) (upd H p (.lst l))
theorem ok_bag {f : Addr} {fd : FuncData} (F : Fun K "_law_bag" "_law_bag" sBag f fd) (B2 : Bl mg) : FnOk P w K mg base CX0 1 f fd ["cell", "k"] spBag := by
  refine F.ok scBag (fun vs H Q E h => ?_) (fun cdv A outer s H vs Q E hr h => ?_)
  · obtain ⟨c, k, rfl, _⟩ := h
    rfl
  · obtain ⟨c, k, rfl, hk, q⟩ := h
    refine ⟨_, pss_one (ps_ret (pe_lst (pa_cons (pe_callB (call_max2 rfl) (by rfl) B2.max (by decide +kernel) (pa_cons pe_int (pa_cons (pe_op op_sub (pv 0) (pe_op op_pow pe_int pe_int)) pa_nil))) (pa_cons (pe_op op_add (pe_op op_mod (pv 0) pe_int) (pe_op op_mul pe_int (pe_op op_add (pv 1) pe_int))) (pa_cons pe_int pa_nil))))), ?_⟩
    refine ⟨_, rfl, 10, 18, rfl, rfl, ⟨by decide, by decide, by decide⟩, _, _, rfl, rfl, _, _, rfl, ?_⟩
    refine ⟨_, rfl, _, _, rfl, rfl, (by show (0 : Int) < 162259276829213363391578010288127; decide), _, rfl, _, _, rfl, rfl, _, _, rfl, rfl, .inl ⟨by decide, by decide⟩, _, _, rfl, rfl, by show 3 ≤ sizeLine; decide, fun p hp => ?_⟩
    refine q p _ hp ⟨_, _, 0, rfl, ?_, ?_, ?_, by decide, by decide⟩
    · split <;> omega
    · have h1 : (0 : Int) ≤ c % 162259276829213363391578010288127 := Int.emod_nonneg _ (by decide)
      omega
    · have h1 : c % 162259276829213363391578010288127 < 162259276829213363391578010288127 := Int.emod_lt_of_pos _ (by decide)
      have h2 : (162259276829213363391578010288127 : Int) + 6469 * 65 < 2 ^ 130 := by decide
      omega
def spTake : Sp := fun vs H Q _ => ∃ (s : Addr) (l : List V) (n : Nat) (lim : Int), vs = [.ref s, .int lim] ∧ H s = some (.lst l) ∧ SrcV n l ∧ n ≤ 1000000 ∧ 1 ≤ lim ∧ lim ≤ 100000 ∧ ∀ l' r, SrcV (n + 1) l' → 0 ≤ r → r < lim → Q (.int r) (upd H s (.lst l'))
theorem ok_take {f : Addr} {fd : FuncData} (F : Fun K "_law_take" "_law_take" sTake f fd) : FnOk P w K mg base CX0 1 f fd ["bag", "limit"] spTake := by
  refine F.ok scTake (fun vs H Q E h => ?_) (fun cdv A outer s H vs Q E hr h => ?_)
  · obtain ⟨s0, l, n, lim, rfl, _⟩ := h
    rfl
  · obtain ⟨s0, l, n, lim, rfl, hs, ⟨a, b, c, rfl, ha, hb, hb2, hc, hcn⟩, hn, hl1, hl2, q⟩ := h
    refine ⟨_, pss_cons (ps_if (pt_cmpR op_gt (pe_ix ix_list (pv 0) pe_int (fun _ _ => rfl)) pe_int (nomark _))
        (pss_cons (ps_set (i := 2) scTake.nd rfl (.inl rfl) (pe_op op_mod (pe_ix ix_list (pv 0) pe_int (fun _ _ => rfl)) (pv 1)))
        (pss_cons (ps_asg (pe_op op_fdiv (pe_ix ix_list (pv 0) pe_int (fun _ _ => rfl)) (pv 1)) (pg_sub (pv 0) pe_int set_list))
        (pss_one (ps_ret (pv 2))))) pss_nil)
      (pss_cons (ps_asg (pe_op op_add (pe_ix ix_list (pv 0) pe_int (fun _ _ => rfl)) pe_int) (pg_sub (pv 0) pe_int set_list))
      (pss_cons (ps_set (i := 3) scTake.nd rfl (.inl rfl) (pe_op op_mod (pe_op op_powW (pe_op op_add (pe_ix ix_list (pv 0) pe_int (fun _ _ => rfl)) (pe_op op_mul pe_int (pe_ix ix_list (pv 0) pe_int (fun _ _ => rfl)))) pe_int) pe_int))
      (pss_cons (ps_set (i := 3) scTake.nd rfl (.inl rfl) (pe_op op_mod (pe_op op_powW (pe_op op_add (pv 3) (pe_op op_mul pe_int (pe_ix ix_list (pv 0) pe_int (fun _ _ => rfl)))) pe_int) pe_int))
      (pss_one (ps_ret (pe_op op_mod (pe_op op_fdiv (pv 3) pe_int) (pv 1))))))), ?_⟩
    have hS := SqL.of (K := K) hs
    refine ⟨.ref s0, rfl, s0, _, 0, .int a, rfl, rfl, hS, atI_nat (j := 0) rfl, _, _, rfl, rfl, _, rfl, ite2 (fun h => ?_) (fun h => ?_)⟩
    · refine ⟨.ref s0, rfl, s0, _, 0, .int a, rfl, rfl, hS, atI_nat (j := 0) rfl, _, rfl, _, _, rfl, rfl, by omega, ?_⟩
      refine ⟨.ref s0, rfl, s0, _, 0, .int a, rfl, rfl, hS, atI_nat (j := 0) rfl, _, rfl, _, _, rfl, rfl, ⟨by omega, by omega⟩, ?_⟩
      refine ⟨.ref s0, rfl, s0, _, _, 0, rfl, rfl, hs, rfl, ?_⟩
      refine ⟨_, rfl, q _ _ ⟨a / lim, b, c, rfl, Int.ediv_nonneg ha (by omega), hb, hb2, hc, by omega⟩ (Int.emod_nonneg _ (by omega)) (Int.emod_lt_of_pos _ (by omega))⟩
    · refine ⟨.ref s0, rfl, s0, _, 2, .int c, rfl, rfl, hS, atI_nat (j := 2) rfl, _, _, rfl, rfl, ?_⟩
      refine ⟨.ref s0, rfl, s0, _, _, 2, rfl, rfl, hs, rfl, ?_⟩
      have hS2 : SqL K (upd H s0 (.lst [.int a, .int b, .int (c + 1)])) s0 [.int a, .int b, .int (c + 1)] := SqL.of upd_same
      have nat_lt : ∀ x y : Int, 0 ≤ x → x ≤ y → y.natAbs < 2 ^ 1000 → x.natAbs < 2 ^ 1000 := fun x y h0 h1 h2 => Nat.lt_of_le_of_lt (by omega) h2
      have big : ((2 ^ 140 : Int)).natAbs < 2 ^ 1000 := by decide +kernel
      refine ⟨.ref s0, rfl, s0, _, 1, .int b, rfl, rfl, hS2, atI_nat (j := 1) rfl, .ref s0, rfl, s0, _, 2, .int (c + 1), rfl, rfl, hS2, atI_nat (j := 2) rfl, _, _, rfl, rfl, .inl ⟨by decide, by decide⟩, _, _, rfl, rfl, _, 3, rfl, rfl, ⟨by decide, by decide, ?_⟩, _, _, rfl, rfl, (by show (0 : Int) < 162259276829213363391578010288127; decide), ?_⟩
      · refine nat_lt _ (2 ^ 140) (by omega) ?_ big
        have : (2 : Int) ^ 130 + 1300223 * 1000001 ≤ 2 ^ 140 := by decide
        omega
      · have m1 : ∀ z : Int, 0 ≤ z % 162259276829213363391578010288127 ∧ z % 162259276829213363391578010288127 ≤ 2 ^ 130 := fun z => by
          have h1 : 0 ≤ z % 162259276829213363391578010288127 := Int.emod_nonneg _ (by decide)
          have h2 : z % 162259276829213363391578010288127 < 162259276829213363391578010288127 := Int.emod_lt_of_pos _ (by decide)
          have h3 : (162259276829213363391578010288127 : Int) ≤ 2 ^ 130 := by decide
          omega
        generalize hmx : (b + 1300223 * (c + 1)) ^ Int.toNat 3 % 162259276829213363391578010288127 = mx
        have m1' : 0 ≤ mx ∧ mx ≤ 2 ^ 130 := by
          rw [← hmx]
          exact m1 _
        refine ⟨_, rfl, .ref s0, rfl, s0, _, 2, .int (c + 1), rfl, rfl, hS2, atI_nat (j := 2) rfl, _, _, rfl, rfl, .inl ⟨by decide, by decide⟩, _, _, rfl, rfl, _, 5, rfl, rfl, ⟨by decide, by decide, ?_⟩, _, _, rfl, rfl, (by show (0 : Int) < 618970019642690137449562111; decide), ?_⟩
        · refine nat_lt _ (2 ^ 140) (by omega) ?_ big
          have : (2 : Int) ^ 130 + 15486253 * 1000001 ≤ 2 ^ 140 := by decide
          omega
        · generalize (mx + 15486253 * (c + 1)) ^ Int.toNat 5 % 618970019642690137449562111 = my
          refine ⟨_, rfl, _, _, rfl, rfl, ⟨by decide, by decide⟩, _, rfl, _, _, rfl, rfl, by show (0 : Int) < lim; omega, ?_⟩
          exact q _ _ ⟨a, b, c + 1, rfl, ha, hb, hb2, by omega, by omega⟩ (Int.emod_nonneg _ (by omega)) (Int.emod_lt_of_pos _ (by omega))
def spFolk (K : PySem.W.Frag) : Sp := fun vs H Q _ => ∃ (a l : Addr) (xs : List Str) (as : List Addr) (es : List Ev), vs = [.ref a, .ref l] ∧ SqT K H a (xs.map V.str) ∧ SqL K H l (as.map V.ref) ∧ EvsAt K H as es ∧ xs.length ≤ 400 ∧ es.length ≤ 400 ∧
  ∀ (H' : Hp) (p : Addr), L2.Same H H' → H p = none → H' p = some (.lst ((xs ++ arrs es).map V.str)) → Q (.ref p) H'
theorem ok_folk {f : Addr} {fd : FuncData} (F : Fun K "_law_folk" "_law_folk" sFolk f fd) (B : Bi mg) : FnOk P w K mg base CX0 1 f fd ["initial", "entries"] (spFolk K) := by
  refine F.ok scFolk (fun vs H Q E h => ?_) (fun cdv A outer s H vs Q E hr h => ?_)
  · obtain ⟨a, l, xs, as, es, rfl, _⟩ := h
    rfl
  · obtain ⟨a, l, xs, as, es, rfl, hA, hL, hE, few1, few2, q⟩ := h
    refine ⟨_, pss_one (ps_ret (pe_op op_cat (pe_callTy call_list_of (by rfl) B.lst (by decide +kernel) (pa_cons (pv 0) pa_nil))
        (pe_lc (own := [("entry", 2)]) (g := gName 2) (by rfl) scFolk.nd (pi_list (pv 1)) (blkOk_by (own := [("entry", 2)]) (N := ["initial", "entries", "entry"]) (sc := defScope sFolk) (by decide +kernel))
          (fun _ _ _ _ _ => pg_name (i := 2) scFolk.nd rfl (Or.inl rfl)) (fun _ _ _ _ _ => pts_one (pt_cmpR op_eq (pe_ix (r := rIxT K) ix_tup (pv 2) pe_int (fun _ _ => rfl)) pe_str (nomark _))) (fun _ _ _ _ _ => pe_ix (r := rIxT K) ix_tup (pv 2) pe_int (fun _ _ => rfl))))), ?_⟩
    have hlen := Paired.length hE
    refine ⟨.ref a, rfl, a, _, rfl, .inr hA, fun o ho => ?_⟩
    have smo : L2.Same H (upd H o (.lst (xs.map V.str))) := fun b u e => by rw [upd_ne (ne_of_none e ho)]; exact e
    refine ⟨.ref l, rfl, l, rfl, ⟨_, smo.seq hL⟩, fun D hD => ?_⟩
    have hDo : D ≠ o := fun z => by
      rw [z, upd_same] at hD
      cases hD
    rw [upd_ne hDo] at hD
    have seqT : ∀ {H1 : Hp} {b : Addr} {zs : List V}, L2.Same H H1 → SqT K H b zs → SqT K H1 b zs := fun {H1 b zs} k h => by
      rcases h with (e | ⟨ob, e⟩) | e
      · exact .inl (.inl (k _ _ e))
      · exact .inl (.inr ⟨ob, k _ _ e⟩)
      · exact .inr e
    have new : ∀ {H1 : Hp} {p : Addr} {u : HO}, L2.Same H H1 → H p = none → L2.Same H (upd H1 p u) := fun {H1 p u} k hp b v e => by
      rw [upd_ne (ne_of_none e hp)]
      exact k b v e
    refine lc_list (K := K) (a := l) (xs := as.map V.ref) (fun i H' => L2.Same H H' ∧ i ≤ es.length ∧ H' o = some (.lst (xs.map V.str)) ∧ H' D = some (.lst ((arrs (es.take i)).map V.str))) ?_ ?_ ?_ ?_
    · exact ⟨new smo hD, Nat.zero_le _, by rw [upd_ne hDo.symm, upd_same], upd_same⟩
    · rintro i H' _ ⟨sm, _⟩
      exact sm.seq hL
    · rintro i y H' hi ⟨sm, hie, ho', hD'⟩
      have hlt : i < es.length := by
        have h1 := (List.getElem?_eq_some_iff.mp hi).1
        rw [List.length_map] at h1
        omega
      have hev : es[i]? = some es[i] := List.getElem?_eq_getElem hlt
      obtain ⟨b, hb, hbt0⟩ := pair_at hE i _ hev
      have hbt := seqT sm hbt0
      have hy : y = .ref b := by
        rw [List.getElem?_map, hb] at hi
        exact (Option.some.inj hi).symm
      subst hy
      have htake : es.take (i + 1) = es.take i ++ [es[i]] := by rw [List.take_add_one, hev]; rfl
      refine ⟨rfl, ?_⟩
      cases hE2 : es[i] with
      | inn c =>
        rw [hE2] at hbt htake
        refine ⟨.ref b, rfl, b, _, 0, .str "in", rfl, rfl, hbt, atI_nat (j := 0) rfl, rfl, _, rfl, ?_⟩
        rw [decide_eq_true (rfl : V.str "in" = V.str "in")]
        refine iteT ⟨.ref b, rfl, b, _, 1, .str c, rfl, rfl, hbt, atI_nat (j := 1) rfl, _, hD', ?_, new sm hD, hlt, ?_, ?_⟩
        · rw [List.length_map]
          refine small1000 ?_
          have := arrs_len (es.take i)
          rw [List.length_take] at this
          omega
        · rw [upd_ne hDo.symm]
          exact ho'
        · rw [upd_same, htake, arrs_app, List.map_append]
          rfl
      | out =>
        rw [hE2] at hbt htake
        refine ⟨.ref b, rfl, b, _, 0, .str "out", rfl, rfl, hbt, atI_nat (j := 0) rfl, rfl, _, rfl, ?_⟩
        rw [decide_eq_false (fun z => ne_oi (V.str.inj z))]
        refine iteF ⟨sm, hlt, ho', ?_⟩
        rw [hD', htake, arrs_app]
        show _ = some (HO.lst ((arrs (es.take i) ++ []).map V.str))
        rw [List.append_nil]
    · rintro H' ⟨sm, hie, ho', hD'⟩
      rw [List.length_map, hlen, List.take_length] at hD'
      refine ⟨o, D, _, _, rfl, rfl, ho', hD', ?_, fun p hp => ?_⟩
      · have h3 := arrs_len es
        rw [List.length_map, List.length_map]
        exact Nat.le_of_lt (small1000 (by omega))
      · exact q _ p (new sm (sm.free hp)) (sm.free hp) (by rw [upd_same, List.map_append])
end
end Ln


set_option Elab.async false
set_option linter.all false
set_option maxRecDepth 100000
set_option maxHeartbeats 4000000
namespace Ln
open PySem PySem.Spec PyProof.Rows L2 GxR
theorem scNames : FnScope ["bag", "many", "pool", "sign", "k", "more"] ["bag", "many"] (defScope sNames) := ⟨rfl, rfl, rfl, by decide +kernel, rfl, by decide +kernel, by decide +kernel⟩
/-! ### the pool of names -/
def pool0 : List Str := ["a", "b", "z", "aa", "ab", "in", "out", "l", "r", "none", "zzzz", "abcd", "abce"]
abbrev sgnS : Str := "cdefghijkmnopq"
abbrev morS : Str := "pqrstuvwxyz"
abbrev sgn (c : Nat) : Str := ⟨#[c]⟩
def pool1 (c : Nat) : List Str := [sgn c, sgn c ++ ("a" : Str)]
def pool2 (c i : Nat) : List Str := (morS.cps.toList.take i).map fun m => (sgn c ++ ("x" : Str)) ++ sgn m
def poolAt (i : Nat) : List Str := pool0 ++ (sgnS.cps.toList.take i).flatMap fun c => pool1 c ++ pool2 c 11
abbrev poolL : List Str := poolAt 14
theorem pool_len : ∀ i < 15, (poolAt i).length ≤ 195 := by decide +kernel
theorem pool_cars : ∀ x ∈ poolL, carB x = true := by decide +kernel
theorem pool_nodup : poolL.Nodup := by decide +kernel
theorem pool_len14 : poolL.length = 195 := by decide +kernel
section
variable {P : Program} {w : World} {K : PySem.W.Frag} {mg : Str → Option Value} {base : Heap} {Ps : List Addr}
def spNames : Sp := fun vs H Q _ => ∃ (s : Addr) (l : List V) (n many : Nat), vs = [.ref s, .int (many : Nat)] ∧ H s = some (.lst l) ∧ SrcV n l ∧ n + many ≤ 1000000 ∧ many ≤ 190 ∧
  ∀ (H' : Hp) (p : Addr) (ys : List Str) (l' : List V), Ch s H H' → H p = none → ys.length = many → ys.Nodup → (∀ y ∈ ys, y ∈ poolL) → SrcV (n + many) l' → H' s = some (.lst l') → H' p = some (.lst (ys.map V.str)) → Q (.ref p) H'
theorem ok_names {f fT : Addr} {fd fdT : FuncData} (F : Fun K "_law_names" "_law_names" sNames f fd) (B : Bi mg) (B2 : Bl mg)
    (GT : FnOk P w K mg base CX0 1 fT fdT ["bag", "limit"] spTake) (mgT : mg "_law_take" = some (.ref fT)) (kT : PySem.W.keepIn K (.ref fT) = true) (bT : Binds K fdT ["bag", "limit"] []) : FnOk P w K mg base CX0 2 f fd ["bag", "many"] spNames := by
  refine F.ok scNames (fun vs H Q E h => ?_) (fun cdv A outer s H vs Q E hr h => ?_)
  · obtain ⟨s0, l, n, many, rfl, _⟩ := h
    rfl
  · obtain ⟨s0, l, n, many, rfl, hs, hl, hn, hm, q⟩ := h
    refine ⟨_, pss_cons (ps_set (i := 2) scNames.nd rfl (.inr rfl) (pe_lst (pa_cons pe_str (pa_cons pe_str (pa_cons pe_str (pa_cons pe_str (pa_cons pe_str (pa_cons pe_str (pa_cons pe_str (pa_cons pe_str (pa_cons pe_str (pa_cons pe_str (pa_cons pe_str (pa_cons pe_str (pa_cons pe_str pa_nil)))))))))))))))
      (pss_cons (ps_for PassesOwn.never rfl (pi_str pe_str) (pg_name (i := 3) scNames.nd rfl (.inr rfl))
        (pss_one (ps_set (i := 2) scNames.nd rfl (.inr rfl) (pe_op op_cat (pe_op op_cat (pv 2) (pe_lst (pa_cons (pv 3) (pa_cons (pe_op op_add_str (pv 3) pe_str) pa_nil))))
          (pe_lc (own := [("more", 5)]) (g := gName 5) (tt := tYes) (by rfl) scNames.nd (pi_str pe_str) (blkOk_by (own := [("more", 5)]) (N := ["bag", "many", "pool", "sign", "k", "more"]) (sc := defScope sNames) (by decide +kernel))
            (fun _ _ _ _ _ => pg_name (i := 5) scNames.nd rfl (Or.inl rfl)) (fun _ _ _ _ _ => pts_nil) (fun _ _ _ _ _ => pe_op op_add_str (pe_op op_add_str (pv 3) pe_str) (pv 5)))))))
      (pss_one (ps_ret (pe_lc (own := [("k", 4)]) (g := gName 4) (tt := tYes) (te := tBM K "list" rPopAt (tVar 2) (tCons (tCall spTake [] E0 (tCons (tVar 0) (tCons (tCB (rLenSeq K) (tCons (tVar 2) tNil)) tNil))) tNil)) (by rfl) scNames.nd
        (pi_range1 (by rfl) B2.rng (pa_cons (pv 1) pa_nil)) (blkOk_by (own := [("k", 4)]) (N := ["bag", "many", "pool", "sign", "k", "more"]) (sc := defScope sNames) (by decide +kernel))
        (fun _ _ _ _ _ => pg_name (i := 4) scNames.nd rfl (Or.inl rfl)) (fun _ _ _ _ _ => pts_nil)
        (fun _ _ _ _ _ => pe_bm PySem.F.plainAttrs_list PySem.F.slot_list_pop PySem.F.type_list_pop mt_popAt (pv 2) (pa_cons (pe_call GT hr (by rfl) mgT kT bT .nil pass0 (pa_cons (pv 0) (pa_cons (pe_callB call_len_seq (by rfl) B.len PySem.boot_len (pa_cons (pv 2) pa_nil)) pa_nil))) pa_nil)))))), ?_⟩
    refine ⟨by show 13 ≤ sizeLine; decide, fun p hp => ?_⟩
    refine ⟨_, rfl, ?_⟩
    have new : ∀ {H1 H2 : Hp} {p : Addr} {u : HO}, L2.Same H1 H2 → H1 p = none → L2.Same H1 (upd H2 p u) := fun {H1 H2 p u} k hp b v e => by
      rw [upd_ne (ne_of_none e hp)]
      exact k b v e
    refine for_it (walk_str (z := sgnS)) (fun i σ H' => ∃ (p : Addr) (v3 v4 v5 : Option V), σ = [some (.ref s0), some (.int (many : Nat)), some (.ref p), v3, v4, v5] ∧ L2.Same H H' ∧ H p = none ∧ H' p = some (.lst ((poolAt i).map V.str))) ?_ (fun _ _ _ _ _ => trivial) ?_ ?_
    · exact ⟨p, none, none, none, rfl, new (L2.Same.refl H) hp, hp, upd_same⟩
    · rintro i x σ H0 H1 hi ⟨p, v3, v4, v5, rfl, sm, hp0, hpl⟩ ⟨rfl, c, hc, rfl⟩
      have hi14 : i < 14 := hi
      have hat : sgnS.cps.toList[i]? = some c := by
        rw [Array.getElem?_toList]
        exact hc
      have hlen := pool_len i (by omega)
      have hnext : poolAt (i + 1) = (poolAt i ++ pool1 c) ++ pool2 c 11 := by
        unfold poolAt
        rw [List.take_add_one, hat, List.flatMap_append, ← List.append_assoc]
        show _ ++ ((pool1 c ++ pool2 c 11) ++ []) = _
        rw [List.append_nil, ← List.append_assoc]
      have hlen2 := pool_len (i + 1) (by omega)
      rw [hnext, List.length_append, List.length_append] at hlen2
      refine ⟨.ref p, rfl, _, rfl, _, rfl, _, _, rfl, rfl, by show 2 ≤ sizeLine; decide, by show 2 ≤ sizeLine; decide, fun p1 hp1 => ?_⟩
      have sm1 := new sm (sm.free hp1) (u := .lst ((pool1 c).map V.str))
      have e1 : (upd H1 p1 (.lst ((pool1 c).map V.str))) p1 = some (.lst ((pool1 c).map V.str)) := upd_same
      have el1 : (upd H1 p1 (.lst ((pool1 c).map V.str))) p = some (.lst ((poolAt i).map V.str)) := by rw [upd_ne (ne_of_none hpl hp1)]; exact hpl
      show rCat (.ref p) (.ref p1) (upd H1 p1 (.lst ((pool1 c).map V.str))) _
      generalize upd H1 p1 (.lst ((pool1 c).map V.str)) = H2 at sm1 e1 el1 ⊢
      refine ⟨p, p1, _, _, rfl, rfl, el1, e1, ?_, fun p2 hp2 => ?_⟩
      · rw [List.length_map, List.length_map]
        exact Nat.le_of_lt (small1000 (by omega))
      rw [← List.map_append]
      have sm2 := new sm1 (sm1.free hp2) (u := .lst ((poolAt i ++ pool1 c).map V.str))
      have e2 : (upd H2 p2 (.lst ((poolAt i ++ pool1 c).map V.str))) p2 = some (.lst ((poolAt i ++ pool1 c).map V.str)) := upd_same
      generalize upd H2 p2 (.lst ((poolAt i ++ pool1 c).map V.str)) = H3 at sm2 e2 ⊢
      refine ⟨_, rfl, fun D hD => ?_⟩
      have hDp : D ≠ p2 := (ne_of_none e2 hD).symm
      refine lc_it (walk_str (z := morS)) (fun j H' => L2.Same H H' ∧ H' p2 = some (.lst ((poolAt i ++ pool1 c).map V.str)) ∧ H' D = some (.lst ((pool2 c j).map V.str))) ?_ (fun _ _ _ _ => trivial) ?_ ?_
      · exact ⟨new sm2 (sm2.free hD), by rw [upd_ne hDp.symm]; exact e2, upd_same⟩
      · rintro j x H0' H4 hj ⟨sm4, e4, hD4⟩ ⟨rfl, d, hd, rfl⟩
        have hj11 : j < 11 := hj
        have hdt : morS.cps.toList[j]? = some d := by
          rw [Array.getElem?_toList]
          exact hd
        have hn2 : pool2 c (j + 1) = pool2 c j ++ [(sgn c ++ ("x" : Str)) ++ sgn d] := by
          unfold pool2
          rw [List.take_add_one, hdt, List.map_append]
          rfl
        refine ⟨rfl, ?_⟩
        unfold tYes
        refine iteT ⟨_, rfl, _, _, rfl, rfl, by show 2 ≤ sizeLine; decide, _, rfl, _, _, rfl, rfl, by show 3 ≤ sizeLine; decide, _, hD4, ?_, new sm4 (sm2.free hD), ?_, ?_⟩
        · unfold pool2
          rw [List.length_map, List.length_map, List.length_take]
          exact small1000 (by omega)
        · rw [upd_ne hDp.symm]
          exact e4
        · rw [upd_same, hn2, List.map_append]
          rfl
      · rintro H4 ⟨sm4, e4, hD4⟩
        refine ⟨p2, D, _, _, rfl, rfl, e4, hD4, ?_, fun p3 hp3 => ?_⟩
        · rw [List.length_map, List.length_map, List.length_append]
          refine Nat.le_of_lt (small1000 ?_)
          show ((poolAt i).length + (pool1 c).length) + (pool2 c 11).length ≤ 1000
          omega
        refine ⟨p3, _, _, _, rfl, new sm4 (sm4.free hp3), sm4.free hp3, ?_⟩
        rw [upd_same, hnext, ← List.map_append]
        rfl
    · rintro σ H1 ⟨p, v3, v4, v5, rfl, sm, hp0, hpl⟩
      have hps : p ≠ s0 := (ne_of_none hs hp0).symm
      have hs1 := sm _ _ hs
      have hpl : H1 p = some (.lst (poolL.map V.str)) := hpl
      refine ⟨_, rfl, _, rfl, by omega, by omega, fun D hD => ?_⟩
      have hDp : D ≠ p := (ne_of_none hpl hD).symm
      have hDs : D ≠ s0 := (ne_of_none hs1 hD).symm
      have hD0 : H D = none := sm.free hD
      have ch0 : Ch s0 H H1 := fun b o e _ => sm _ _ e
      refine lc_range (lo := 0) (n := ((many : Nat) : Int).toNat) (fun i H' => ∃ (l' : List V) (ys zs : List Str), Ch s0 H H' ∧ i ≤ many ∧ SrcV (n + i) l' ∧ H' s0 = some (.lst l') ∧ H' p = some (.lst (zs.map V.str)) ∧ H' D = some (.lst (ys.map V.str)) ∧ (ys ++ zs).Perm poolL ∧ ys.length = i) ?_ ?_ ?_
      · exact ⟨l, [], poolL, ch0.new hD0, Nat.zero_le _, hl, by rw [upd_ne hDs.symm]; exact hs1, by rw [upd_ne hDp.symm]; exact hpl, by rw [upd_same]; rfl, List.Perm.refl _, rfl⟩
      · rintro i H' hi ⟨l', ys, zs, ch, _, hl', hs', hu', hD', hper, hy⟩
        have hi : i < many := by
          rw [Int.toNat_natCast] at hi
          exact hi
        have hlen : ys.length + zs.length = 195 := by
          have := hper.length_eq
          rw [List.length_append, pool_len14] at this
          exact this
        refine ⟨rfl, ?_⟩
        unfold tYes
        refine iteT ?_
        refine ⟨.ref p, rfl, .inl ⟨rfl, _, .inl (.inl hu')⟩, .ref s0, rfl, .ref p, rfl, p, _, rfl, .inl (.inl (.inl hu')), ?_⟩
        refine ⟨s0, l', n + i, _, rfl, hs', hl', by omega, by rw [List.length_map]; omega, by rw [List.length_map]; omega, fun l2 r hl2 h0 h1 => ?_⟩
        rw [List.length_map] at h1
        obtain ⟨k, rfl⟩ : ∃ k : Nat, r = (k : Int) := ⟨r.toNat, by omega⟩
        have hk : k < zs.length := by omega
        have hz : zs[k]? = some zs[k] := List.getElem?_eq_getElem hk
        have hu2 : (upd H' s0 (.lst l2)) p = some (.lst (zs.map V.str)) := by rw [upd_ne hps]; exact hu'
        have hpe := erase_perm hz
        refine ⟨p, _, k, k, V.str zs[k], rfl, rfl, hu2, by omega, by omega, ?_, by rw [List.getElem?_map, hz]; rfl, ys.map V.str, ?_, ?_, ?_⟩
        · refine (ixN_seq (i := (k : Int)) (j := k) ?_).1
          unfold ixN
          rw [if_pos (by omega), if_pos (by rw [List.length_map]; omega)]
          rfl
        · rw [upd_ne hDp, upd_ne hDs]
          exact hD'
        · rw [List.length_map]
          exact small1000 (by omega)
        · refine ⟨l2, ys ++ [zs[k]], zs.eraseIdx k, ((ch.trans Ch.src).new hp0).new hD0, hi, ?_, ?_, ?_, ?_, ?_, ?_⟩
          · rw [← Nat.add_assoc]
            exact hl2
          · rw [upd_ne hDs.symm, upd_ne hps.symm, upd_same]
          · rw [upd_ne hDp.symm, upd_same, map_erase]
          · rw [upd_same, List.map_append]
            rfl
          · rw [List.append_assoc]
            exact ((List.Perm.append_left ys hpe)).trans hper
          · rw [List.length_append, hy]
            rfl
      · rintro H' ⟨l', ys, zs, ch, _, hl', hs', hu', hD', hper, hy⟩
        rw [Int.toNat_natCast] at hy hl'
        have hnd : (ys ++ zs).Nodup := hper.nodup_iff.mpr pool_nodup
        exact q H' D ys l' ch hD0 hy (List.nodup_append.mp hnd).1 (fun y hy => hper.mem_iff.mp (List.mem_append_left _ hy)) hl' hs' hD'
end
end Ln

set_option Elab.async false
set_option linter.all false
set_option maxRecDepth 100000
set_option maxHeartbeats 2000000
namespace Ln
open PySem PySem.Spec PyProof.Rows L2 GxR
/-- how many are present behind a log, if it can be -/
def cnt : Nat → List Ev → Option Nat
  | n, [] => some n
  | n, .inn _ :: r => cnt (n + 1) r
  | n, .out :: r => if 0 < n then cnt (n - 1) r else none
theorem cnt_snoc : ∀ (n : Nat) (es : List Ev) (e : Ev) (m : Nat), cnt n es = some m → cnt n (es ++ [e]) = cnt m [e]
  | n, [], e, m, h => by
    obtain rfl : n = m := Option.some.inj h
    rfl
  | n, .inn c :: r, e, m, h => cnt_snoc (n + 1) r e m h
  | n, .out :: r, e, m, h => by
    show (if 0 < n then cnt (n - 1) (r ++ [e]) else none) = _
    have h : (if 0 < n then cnt (n - 1) r else none) = some m := h
    by_cases q : 0 < n
    · rw [if_pos q] at h ⊢
      exact cnt_snoc (n - 1) r e m h
    · rw [if_neg q] at h
      cases h
/-- a log of new cars that counts is a log -/
theorem logB_of : ∀ (es : List Ev) (us : List Str) (n m : Nat), cnt n es = some m → (∀ c ∈ arrs es, carB c = true ∧ ¬ c ∈ us) → (arrs es).Nodup → logB us n es = true
  | [], _, _, _, _, _, _ => rfl
  | .inn c :: r, us, n, m, h, hc, hn => by
    show (if carB c = true ∧ ¬ c ∈ us then logB (c :: us) (n + 1) r else false) = true
    have hn : (c :: arrs r).Nodup := hn
    obtain ⟨h1, h2⟩ := List.nodup_cons.mp hn
    rw [if_pos (hc c List.mem_cons_self)]
    refine logB_of r (c :: us) (n + 1) m h (fun d hd => ⟨(hc d (List.mem_cons_of_mem _ hd)).1, fun z => ?_⟩) h2
    rcases List.mem_cons.mp z with z | z
    · exact h1 (z ▸ hd)
    · exact (hc d (List.mem_cons_of_mem _ hd)).2 z
  | .out :: r, us, n, m, h, hc, hn => by
    show (if 0 < n then logB us (n - 1) r else false) = true
    have h : (if 0 < n then cnt (n - 1) r else none) = some m := h
    by_cases q : 0 < n
    · rw [if_pos q] at h ⊢
      exact logB_of r us (n - 1) m h hc hn
    · rw [if_neg q] at h
      cases h
/-- the tuples stand -/
def KT (H H' : Hp) : Prop := ∀ b xs, H b = some (.tup xs) → H' b = some (.tup xs)
theorem KT.upd {H : Hp} {a : Addr} {o : HO} (h : ∀ xs, H a ≠ some (.tup xs)) : KT H (upd H a o) := fun b xs e => by
  rw [upd_ne (fun z => h xs (by rw [← z]; exact e))]
  exact e
theorem KT.trans {H H1 H2 : Hp} (a : KT H H1) (b : KT H1 H2) : KT H H2 := fun c xs e => b c xs (a c xs e)
/-- the events' own tuples -/
def EvT (H : Hp) (as : List Addr) (es : List Ev) : Prop := Paired (fun a (e : Ev) => H a = some (.tup e.vals)) as es
theorem EvT.kt {H H' : Hp} {as : List Addr} {es : List Ev} (h : EvT H as es) (k : KT H H') : EvT H' as es := Paired.imp h fun _ _ q => k _ _ q
theorem EvT.at_ {K : PySem.W.Frag} {H : Hp} {as : List Addr} {es : List Ev} (h : EvT H as es) : EvsAt K H as es := Paired.imp h fun _ _ q => SqT.of q
theorem dp_strs {K : PySem.W.Frag} {H : Hp} : ∀ xs : List Str, DpAll K H (xs.map V.str) (xs.map PyData.str)
  | [] => .nil
  | x :: r => .cons (.str x) (dp_strs r)
theorem lay_strs : ∀ xs : List Str, (∀ x ∈ xs, PyData.strOk x = true) → PyData.canLayAll0 (xs.map PyData.str) = true
  | [], _ => rfl
  | x :: r, h => by
    simp only [List.map_cons, PyData.canLayAll0, PyData.canLay0, lay_strs r fun y hy => h y (List.mem_cons_of_mem _ hy), h x List.mem_cons_self]
    rfl
theorem dep_strs : ∀ xs : List Str, PyData.depthAll (xs.map PyData.str) ≤ 1
  | [] => by simp [PyData.depthAll]
  | x :: r => by
    have := dep_strs r
    simp only [List.map_cons, PyData.depthAll, PyData.depth]
    omega
theorem shaped_strs (xs : List Str) (h : ∀ x ∈ xs, PyData.strOk x = true) : SeqAt.shaped (.list (xs.map PyData.str)) = true := by
  unfold SeqAt.shaped
  rw [Bool.and_eq_true]
  refine ⟨by rw [PyData.canLay0]; exact lay_strs xs h, decide_eq_true ?_⟩
  have := dep_strs xs
  simp only [PyData.depth]
  omega
theorem eqv_nil (xs : List Str) : PyData.eqv (.list (xs.map PyData.str)) (.list []) = xs.isEmpty := by
  cases xs with
  | nil => rfl
  | cons x r => simp [PyData.eqv, PyData.eqvAll]
theorem car_ok {x : Str} (h : carB x = true) : PyData.strOk x = true := by
  unfold carB at h
  rw [Bool.and_eq_true] at h
  have h2 := List.all_eq_true.mp h.2
  unfold PyData.strOk
  rw [← Array.all_toList, List.all_eq_true]
  intro c hc
  have := h2 c hc
  unfold lowB at this
  rw [Bool.and_eq_true] at this
  have := of_decide_eq_true this.2
  exact decide_eq_true (by omega)
theorem cnt_le : ∀ (n : Nat) (es : List Ev) (m : Nat), cnt n es = some m → m ≤ n + es.length
  | n, [], m, h => by
    obtain rfl : n = m := Option.some.inj h
    exact Nat.le_refl _
  | n, .inn c :: r, m, h => by
    have := cnt_le (n + 1) r m h
    show m ≤ n + (r.length + 1)
    omega
  | n, .out :: r, m, h => by
    have h : (if 0 < n then cnt (n - 1) r else none) = some m := h
    by_cases q : 0 < n
    · rw [if_pos q] at h
      have := cnt_le (n - 1) r m h
      show m ≤ n + (r.length + 1)
      omega
    · rw [if_neg q] at h
      cases h
section
variable {P : Program} {w : World} {K : PySem.W.Frag} {mg : Str → Option Value} {base : Heap} {Ps : List Addr}
def spHap (K : PySem.W.Frag) : Sp := fun vs H Q _ => ∃ (s t : Addr) (l : List V) (n n0 most : Nat) (zs : List Str), vs = [.ref s, .int n0, .ref t, .int most] ∧ H s = some (.lst l) ∧ SrcV n l ∧ n + 200 ≤ 1000000 ∧ most ≤ 120 ∧ n0 ≤ 400 ∧ SqL K H t (zs.map V.str) ∧ t ≠ s ∧ zs.length ≤ 400 ∧ (∀ z ∈ zs, carB z = true) ∧
  ∀ (H' : Hp) (p : Addr) (as : List Addr) (es : List Ev) (k m : Nat) (l' : List V), Ch s H H' → H p = none → (∀ a ∈ as, H a = none) → es.length ≤ most → arrs es = zs.take k → cnt n0 es = some m → SrcV (n + 122) l' → H' s = some (.lst l') → H' p = some (.lst (as.map V.ref)) → EvT H' as es → Q (.ref p) H'
end
end Ln


set_option Elab.async false
set_option linter.all false
set_option maxRecDepth 100000
set_option maxHeartbeats 4000000
namespace Ln
open PySem PySem.Spec PyProof.Rows L2
/-! ### t[::-1] of a tuple -/
theorem fmap_some {α β : Type} {f : α → Option β} {g : α → β} : ∀ {xs : List α}, (∀ x ∈ xs, f x = some (g x)) → xs.filterMap f = xs.map g
  | [], _ => rfl
  | x :: r, h => by rw [List.filterMap_cons_some (h x List.mem_cons_self), fmap_some fun y hy => h y (List.mem_cons_of_mem _ hy), List.map_cons]
theorem pick_back (xs : Array Value) : ((List.range xs.size).filterMap fun (m : Nat) => xs[(((xs.size : Nat) : Int) - 1 + (m : Int) * (-1)).toNat]?).toArray = xs.toList.reverse.toArray := by
  congr 1
  have e : ∀ m ∈ List.range xs.size, xs[(((xs.size : Nat) : Int) - 1 + (m : Int) * (-1)).toNat]? = some (xs.toList.reverse.getD m .none) := fun m hm => by
    have hm := List.mem_range.mp hm
    rw [show (((xs.size : Nat) : Int) - 1 + (m : Int) * (-1)).toNat = xs.size - 1 - m by omega, ← Array.getElem?_toList, List.getD_eq_getElem?_getD, List.getElem?_reverse (by rw [Array.length_toList]; exact hm), Array.length_toList]
    have h2 : xs.size - 1 - m < xs.toList.length := by
      rw [Array.length_toList]
      omega
    rw [List.getElem?_eq_getElem h2]
    rfl
  have e2 : (List.range xs.size).filterMap (fun (m : Nat) => xs[(((xs.size : Nat) : Int) - 1 + (m : Int) * (-1)).toNat]?) = (List.range xs.size).map fun m => xs.toList.reverse.getD m .none := by
    exact fmap_some e
  rw [e2]
  refine List.ext_getElem? fun i => ?_
  by_cases h : i < xs.size
  · have h2 : i < xs.toList.reverse.length := by
      rw [List.length_reverse, Array.length_toList]
      exact h
    rw [List.getElem?_map, List.getElem?_range h, List.getElem?_eq_getElem h2]
    show some (xs.toList.reverse.getD i .none) = _
    rw [List.getD_eq_getElem?_getD, List.getElem?_eq_getElem h2]
    rfl
  · rw [List.getElem?_eq_none (by rw [List.length_map, List.length_range]; omega), List.getElem?_eq_none (by rw [List.length_reverse, Array.length_toList]; omega)]
section
variable {prog : Program} {w : World} {A : Around} {E : Value → Shared → Prop} {s : Shared}
theorem places_back (n : Nat) : Builtin.Slice.slicePlaces ((n : Int) - 1) (-1) (-1) = n := by
  unfold Builtin.Slice.slicePlaces
  rw [if_neg (by decide)]
  by_cases h : 0 < n
  · rw [if_pos (by omega), show (-(-1) : Int) = 1 from rfl, Int.ediv_one]
    omega
  · rw [if_neg (by omega)]
    omega
theorem applied_back {sl : Addr} {vs : Value} {n : Nat} {Q : Int × Int × Nat → Shared → Prop} (hs : s.heap.IsSliceOf sl .none .none vs) (ps : IsPart vs (some (-1))) (h : Q ((n : Int) - 1, -1, n) s) : wpAny (model prog w) A (Builtin.Slice.sliceApplied (.ref sl) (pure (n : Int))) Q E s := by
  obtain ⟨os, hos, hcs, hds⟩ := id hs
  unfold Builtin.Slice.sliceApplied Builtin.Slice.sliceFields
  refine wpAny_bind (wpAny_bind (wpAny_field hos hds (x := .none) rfl (wpAny_bind (wpAny_field hos hds (x := .none) rfl (wpAny_bind (wpAny_field hos hds (x := vs) rfl (wpAny_pure ?_)))))))
  refine wpAny_bind (HT.slicePart_ ps ?_)
  show wpAny _ _ (if ((-1 : Int) == 0) = true then _ else _) _ _ s
  rw [if_neg (by decide)]
  refine wpAny_bind (slicePart_none (wpAny_bind (slicePart_none (wpAny_bind (wpAny_pure ?_)))))
  show wpAny _ _ (pure ((n : Int) - 1, (-1 : Int), Builtin.Slice.slicePlaces ((n : Int) - 1) (-1) (-1))) _ _ s
  rw [places_back]
  exact wpAny_pure h
theorem getItem_tuple_back {t sl : Addr} {its : Array Value} {vs : Value} {Q : Value → Shared → Prop} (ht : IsTup s.heap t its) (hs : s.heap.IsSliceOf sl .none .none vs) (ps : IsPart vs (some (-1)))
    (h : Q (.ref s.heap.objs.size) { s with heap := s.heap.push { cls := .type "tuple", data := .seq its.toList.reverse.toArray } }) (hsz : its.size ≤ sizeLine) : wpAny (model prog w) A (getItem (.ref t) (.ref sl)) Q E s := by
  have hk : sizeOk (.seq its.toList.reverse.toArray) := by
    show its.toList.reverse.toArray.size ≤ sizeLine
    rw [List.size_toArray, List.length_reverse, Array.length_toList]
    exact hsz
  obtain ⟨os, hos, hcs, hds⟩ := id hs
  have hTs : s.TypeIs (.ref sl) "slice" := ⟨os, hos, hcs⟩
  unfold getItem
  try with_reducible refine wpAny_holding ?_
  first | refine wpAny_bind (wpAny_pure ?_) | skip
  refine wpAny_bind (wpAny_sequenceKey ht.typeIs (by decide) (wpAny_bind (wpAny_callSpecial?_slot (name := Str.ofString "__getitem__") ht.typeIs PyProof.Rows.slot_tuple_getitem (wpAny_call_entry PyProof.Rows.slot_tuple_getitem ht.typeIs entry_tuple_getitem ?_ (args_tuple_getitem _ _)))))
  show wpAny _ _ (Builtin.Tuple.tupleItemsOf (.ref t) >>= _) _ _ s
  refine wpAny_bind (tupleItemsOf_ ht (wpAny_bind (wpAny_typeOf hTs ?_)))
  rw [if_pos (by decide)]
  refine wpAny_bind (applied_back hs ps ?_)
  have hno : ¬ ((((its.size : Nat) : Int) - 1 == 0 && (-1 : Int) == 1 && its.size == its.size) = true) := fun q => by
    rw [Bool.and_eq_true, Bool.and_eq_true] at q
    exact absurd q.1.2 (by decide)
  show wpAny _ _ (if (((its.size : Nat) : Int) - 1 == 0 && (-1 : Int) == 1 && its.size == its.size) = true then _ else _) _ _ s
  rw [if_neg hno, pick_back]
  first
    | exact wpAny_bind (m := Builtin.Tuple.tupleExact _) (wpAny_newObj_type (wpAny_pure ⟨_, rfl, wpAny_pure h⟩) hk)
    | exact wpAny_bind (m := Builtin.Tuple.tupleExact _) (wpAny_newObj_type (wpAny_bind (wpAny_pure (wpAny_pure ⟨_, rfl, wpAny_pure h⟩))) hk)
    | exact wpAny_bind (wpAny_bind (m := Builtin.Tuple.tupleExact _) (wpAny_newObj_type (wpAny_pure (wpAny_pure ⟨_, rfl, wpAny_pure h⟩)) hk))
    | exact wpAny_bind (wpAny_bind (m := Builtin.Tuple.tupleExact _) (wpAny_newObj_type (wpAny_pure ⟨_, rfl, wpAny_pure h⟩) hk))
end
section
variable {X : Cx}
def tRevT (K : PySem.W.Frag) (te : TE) : TE := fun σ H Q => te σ H fun x H1 => ∃ a xs, x = .ref a ∧ SqT K H1 a xs ∧ ∀ p, H1 p = none → Q (.ref p) (upd H1 p (.tup xs.reverse))
theorem pe_revT {e : Expr} {te : TE} {k : Nat} {p1 p2 p3 pos : Pos} (he : PE X e te) : PE X (.Subscript e (.Slice none none (some (.UnaryOp .USub (.Constant (.int 1) k p1) p2)) p3) pos) (tRevT X.K te) := by
  refine ⟨fun pins s σ H Q I h => Subscript_ (thn (he.run pins s σ H _ I h) fun v s1 ⟨x, H1, I1, r1, q1⟩ => ?_)⟩
  obtain ⟨a, xs, rfl, hx, q⟩ := q1
  cases r1
  have hst : PO X (some (.UnaryOp .USub (.Constant (.int 1) k p1) p2)) (tPart (tUn (rU fun i => .int (-i)) (tC (.int 1)))) := po_some (pe_un un_neg pe_int)
  refine wpAny_Slice ?_
  rw [evalPart_none]
  refine wpAny_pure (wpAny_pure ?_)
  refine thn (hst.run pins s1 σ H1 (fun o H4 => o = some (-1) ∧ H4 = H1) I1 ⟨1, rfl, -1, rfl, rfl, rfl⟩) fun vs s4 ⟨o, H4, I4, ps, eo, e4⟩ => ?_
  subst eo e4
  have I5 : Inv X pins σ H4 { s4 with heap := s4.heap.push { cls := .type "slice", data := .fields #[.none, .none, vs] } } := I4.kept (t' := s4.toks) fun b ob q => Heap.get?_push_of_some _ q
  obtain ⟨its, r, ht, hz⟩ := I5.tuple hx
  show wpAny (model X.prog X.w) X.A (subscriptTail e (.Slice none none (some (.UnaryOp .USub (.Constant (.int 1) k p1) p2)) p3) (.ref a) (.ref s4.heap.objs.size)) (EP X pins σ Q) X.xe { s4 with heap := s4.heap.push { cls := .type "slice", data := .fields #[.none, .none, vs] } }
  refine tail_any (ops := [.ref a, .ref s4.heap.objs.size]) ht.typeIs (PyProof.Rows.slot_tuple_getitem.lookup) ?_ (by with_unfolding_all rfl)
  refine getItem_tuple_back ht (Heap.IsSliceOf.new _ .none .none vs) ps ?_ (by rw [List.size_toArray, ← r.length]; exact hz)
  refine ⟨.ref _, _, I5.laid (t' := s4.toks) (o := .tup xs.reverse) (fun b ob q => Heap.get?_push_of_some _ q) (Nat.le_refl _) ?_, rfl, q _ (I5.hok.fresh (Nat.le_refl _))⟩
  refine ⟨by rw [List.length_reverse]; exact hz, its.reverse, r.reverse, ?_⟩
  exact ⟨_, Heap.get?_push_size _ rfl, rfl, 0, rfl⟩
end
end Ln


set_option Elab.async false
set_option linter.all false
set_option maxRecDepth 100000
set_option maxHeartbeats 4000000
namespace Ln
open PySem PySem.Spec PyProof.Rows L2
/-! ### tuples that have no attributes of their own: what t.index(..) asks -/
def TupD (H : Hp) (a : Addr) (xs : List V) : Prop := ∃ ob : Obj, ob.dict = none ∧ H a = some (.frz ob (.tup xs))
theorem TupD.sq {K : PySem.W.Frag} {H : Hp} {a : Addr} {xs : List V} (h : TupD H a xs) : SqT K H a xs := by
  obtain ⟨ob, _, e⟩ := h
  exact .inl (.inr ⟨ob, e⟩)
theorem TupD.kp {Ps : List Addr} {H H1 : Hp} {a : Addr} {xs : List V} (h : TupD H a xs) (k : Kp Ps H H1) (hT : Tabs Ps H) : TupD H1 a xs := by
  obtain ⟨ob, d, e⟩ := h
  exact ⟨ob, d, k.at_ a _ e (tab_ne hT e fun q z => by cases z)⟩
theorem TupD.same {H H1 : Hp} {a : Addr} {xs : List V} (h : TupD H a xs) (k : L2.Same H H1) : TupD H1 a xs := by
  obtain ⟨ob, d, e⟩ := h
  exact ⟨ob, d, k _ _ e⟩
theorem TupD.of {H : Hp} {p : Addr} {ob : Obj} {xs : List V} (d : ob.dict = none) : TupD (upd H p (.frz ob (.tup xs))) p xs := ⟨ob, d, upd_same⟩
section
variable {X : Cx} {es : List Expr} {pos : Pos} {t : TA}
theorem objD {P : Program} {w : World} {H : Hp} {h : Heap} {xs : List V} {us : List Value} (hz : xs.length ≤ sizeLine) (r : Vals xs us) : ObjOk P w H (h.push { cls := .type "tuple", data := .seq us.toArray }) h.objs.size (.frz { cls := .type "tuple", data := .seq us.toArray } (.tup xs)) :=
  ⟨Heap.get?_push_size _ rfl, hz, us, r, ⟨_, Heap.get?_push_size _ rfl, rfl, _, rfl⟩⟩
def tTupD (t : TA) : TE := fun σ H Q => t σ H fun xs H1 => xs.length ≤ sizeLine ∧ ∀ (p : Addr) (ob : Obj), ob.dict = none → H1 p = none → Q (.ref p) (upd H1 p (.frz ob (.tup xs)))
theorem pe_tupD {x1} (h : PA X es t) : PE X (.Tuple es x1 pos) (tTupD t) := by
  refine ⟨fun pins s σ H Q I hq => ?_⟩
  refine wpAny_Tuple_spliced (thn (h.run pos pins s σ H _ I hq) fun us s1 ⟨xs, H1, I1, r, z, q⟩ => ⟨by rw [← r.length]; exact z, ?_⟩)
  have hf : H1 s1.heap.objs.size = none := I1.hok.fresh (Nat.le_refl _)
  exact ⟨.ref s1.heap.objs.size, _, I1.laid (t' := s1.toks) (fun b u e => Heap.get?_push_of_some _ e) (Nat.le_refl _) (objD z r), rfl, q _ _ rfl hf⟩
def rCatD (K : PySem.W.Frag) : R2 := fun x y H Q => ∃ a b xs ys, x = .ref a ∧ y = .ref b ∧ SqT K H a xs ∧ SqT K H b ys ∧ xs.length + ys.length ≤ sizeLine ∧
  (xs = [] → Q (.ref b) H) ∧ (xs ≠ [] → ys = [] → Q (.ref a) H) ∧ (xs ≠ [] → ys ≠ [] → ∀ (p : Addr) (ob : Obj), ob.dict = none → H p = none → Q (.ref p) (upd H p (.frz ob (.tup (xs ++ ys)))))
theorem op_catD : OpR X (binaryOp .Add) (rCatD X.K) := by
  intro pins s σ H x y v u Q I rx ry h
  obtain ⟨a, b, xs, ys, rfl, rfl, ha, hb, hz, q0, q1, q2⟩ := h
  cases rx
  cases ry
  obtain ⟨its, r1, p1, _⟩ := I.tuple ha
  obtain ⟨its2, r2, p2, _⟩ := I.tuple hb
  by_cases hx : xs = []
  · subst hx
    cases r1
    exact cat_tup0 p1 p2 ⟨.ref b, H, I, rfl, q0 rfl⟩
  · refine HT.cat_tup p1 p2 (fun z => hx (r1.nil_iff.mp z)) (fun z => ⟨.ref a, H, I, rfl, q1 hx (r2.nil_iff.mp z)⟩) (fun z => ?_) (by rw [← r1.length, ← r2.length]; exact hz)
    exact ⟨.ref s.heap.objs.size, _, I.laid (t' := s.toks) (fun b ob q => Heap.get?_push_of_some _ q) (Nat.le_refl _) (objD (by rw [List.length_append]; exact hz) (r1.append r2)), rfl, q2 hx (fun w => z (r2.nil_iff.mpr w)) _ _ rfl (I.hok.fresh (Nat.le_refl _))⟩
def rSlD (K : PySem.W.Frag) : V → Option Int → Option Int → Hp → VK → Prop := fun x lo hi H Q => ∃ a xs, x = .ref a ∧ SqT K H a xs ∧
  ¬ (HT.sIx xs.length 0 lo = 0 ∧ HT.sIx xs.length xs.length hi = xs.length) ∧ ∀ (p : Addr) (ob : Obj), ob.dict = none → H p = none → Q (.ref p) (upd H p (.frz ob (.tup (cutV xs lo hi))))
theorem sl_tupD : SlR X (rSlD X.K) := by
  intro pins s σ H x v vl vu lo hi sl Q I rx hs pl pu h
  obtain ⟨a, xs, rfl, hx, hw, q⟩ := h
  cases rx
  obtain ⟨its, r, ht, hz⟩ := I.tuple hx
  have hlen : its.toArray.size = xs.length := by rw [List.size_toArray]; exact r.length.symm
  refine ⟨"tuple", _, PyProof.Rows.slot_tuple_getitem.lookup, ht.typeIs, ?_⟩
  refine HT.getItem_tuple_cut ht hs pl pu (by rw [hlen]; exact hw) ?_ (by rw [hlen]; exact hz)
  rw [hlen]
  exact ⟨.ref s.heap.objs.size, _, I.laid (t' := s.toks) (fun b ob q => Heap.get?_push_of_some _ q) (Nat.le_refl _) (objD (xs := cutV xs lo hi) (Nat.le_trans (cutV_length xs lo hi) hz) ((r.drop (HT.sIx xs.length 0 lo)).take (HT.sIx xs.length xs.length hi - HT.sIx xs.length 0 lo))), rfl, q _ _ rfl (I.hok.fresh (Nat.le_refl _))⟩
theorem call_tuple_ofD : CallR X (.type "tuple") (fun xs H Q => ∃ p ys, xs = [.ref p] ∧ SqL X.K H p ys ∧ ∀ (l : Addr) (ob : Obj), ob.dict = none → H l = none → Q (.ref l) (upd H l (.frz ob (.tup ys)))) := by
  intro pins s σ H xs us Q I r h
  obtain ⟨p, ys, rfl, hq, q⟩ := h
  obtain ⟨u, rfl, rx⟩ := vals1 r
  cases rx
  obtain ⟨its, r', pl, hz⟩ := I.list hq
  have hlen := r'.length
  refine call_tuple_list pl.isList (fun h' kp => ?_) (by simp only [List.size_toArray] <;> omega)
  have I1 : Inv X pins σ H { s with heap := h' } := I.kept (t' := s.toks) kp
  exact ⟨.ref h'.objs.size, _, I1.laid (t' := s.toks) (fun b o e => Heap.get?_push_of_some _ e) (Nat.le_refl _) (objD hz r'), rfl, q _ _ rfl (I1.hok.fresh (Nat.le_refl _))⟩
def tRevD (K : PySem.W.Frag) (te : TE) : TE := fun σ H Q => te σ H fun x H1 => ∃ a xs, x = .ref a ∧ SqT K H1 a xs ∧ ∀ (p : Addr) (ob : Obj), ob.dict = none → H1 p = none → Q (.ref p) (upd H1 p (.frz ob (.tup xs.reverse)))
theorem pe_revD {e : Expr} {te : TE} {k : Nat} {p1 p2 p3 pos : Pos} (he : PE X e te) : PE X (.Subscript e (.Slice none none (some (.UnaryOp .USub (.Constant (.int 1) k p1) p2)) p3) pos) (tRevD X.K te) := by
  refine ⟨fun pins s σ H Q I h => Subscript_ (thn (he.run pins s σ H _ I h) fun v s1 ⟨x, H1, I1, r1, q1⟩ => ?_)⟩
  obtain ⟨a, xs, rfl, hx, q⟩ := q1
  cases r1
  have hst : PO X (some (.UnaryOp .USub (.Constant (.int 1) k p1) p2)) (tPart (tUn (rU fun i => .int (-i)) (tC (.int 1)))) := po_some (pe_un un_neg pe_int)
  refine wpAny_Slice ?_
  rw [evalPart_none]
  refine wpAny_pure (wpAny_pure ?_)
  refine thn (hst.run pins s1 σ H1 (fun o H4 => o = some (-1) ∧ H4 = H1) I1 ⟨1, rfl, -1, rfl, rfl, rfl⟩) fun vs s4 ⟨o, H4, I4, ps, eo, e4⟩ => ?_
  subst eo e4
  have I5 : Inv X pins σ H4 { s4 with heap := s4.heap.push { cls := .type "slice", data := .fields #[.none, .none, vs] } } := I4.kept (t' := s4.toks) fun b ob q => Heap.get?_push_of_some _ q
  obtain ⟨its, r, ht, hz⟩ := I5.tuple hx
  show wpAny (model X.prog X.w) X.A (subscriptTail e (.Slice none none (some (.UnaryOp .USub (.Constant (.int 1) k p1) p2)) p3) (.ref a) (.ref s4.heap.objs.size)) (EP X pins σ Q) X.xe { s4 with heap := s4.heap.push { cls := .type "slice", data := .fields #[.none, .none, vs] } }
  refine tail_any (ops := [.ref a, .ref s4.heap.objs.size]) ht.typeIs (PyProof.Rows.slot_tuple_getitem.lookup) ?_ (by with_unfolding_all rfl)
  refine getItem_tuple_back ht (Heap.IsSliceOf.new _ .none .none vs) ps ?_ (by rw [List.size_toArray, ← r.length]; exact hz)
  exact ⟨.ref _, _, I5.laid (t' := s4.toks) (fun b ob q => Heap.get?_push_of_some _ q) (Nat.le_refl _) (objD (xs := xs.reverse) (us := its.reverse) (by rw [List.length_reverse]; exact hz) r.reverse), rfl, q _ _ rfl (I5.hok.fresh (Nat.le_refl _))⟩
def tBMT (r : V → List V → Hp → VK → Prop) (to : TE) (t : TA) : TE := fun σ H Q => to σ H fun x H1 => (∃ a xs, x = .ref a ∧ TupD H1 a xs) ∧ t σ H1 fun xs H2 => r x xs H2 Q
theorem pe_bmT {o e : Expr} {es : List Expr} {to : TE} {t : TA} {name : Str} {apos cpos : Pos} {id : String} {r : V → List V → Hp → VK → Prop} (pa : PlainAttrs "tuple") (slot : Slot "tuple" name id) (hty : typeOf (.builtin id) = pure (.type "method_descriptor")) (hm : MtR X id r) (ho : PE X o to) (ha : PA X (e :: es) t)
    (hbase : attributeBase o name X.env (eval o X.env) = eval o X.env := by rfl)
    (hfew : ((backTo cpos (starEach (e :: es) X.env)).all (fun x => !x.1) && (backToKw cpos (keywordEach [] X.env)).all (fun x => x.1.isSome)
      && decide ((e :: es).length + ([] : List Keyword).length + (if ([] : List Keyword).isEmpty then 0 else 1) < 30)) = true := by rfl)
    (hline : (apos.endLine == cpos.line) = true := by rfl) (hs : starEach (e :: es) X.env = (false, eval e X.env) :: starEach es X.env := by rfl) (hplain : (backTo cpos (starEach es X.env)).any (·.1) = false := by rfl) :
    PE X (.Call (.Attribute o name apos) (e :: es) [] cpos) (tBMT r to t) := by
  refine ⟨fun pins s σ H Q I h => ?_⟩
  refine wpAny_Call_method_late hbase hfew hline rfl (thn (ho.run pins s σ H _ I h) fun v s1 ⟨x, H1, I1, r1, ⟨a, ys, ex, td⟩, q1⟩ => ?_)
  have hx : RelV x v := r1
  subst ex
  cases r1
  obtain ⟨its, _, ht, _⟩ := I1.tuple (td.sq (K := X.K))
  refine ⟨"tuple", id, pa, slot, hty, ht.typeIs, fun a' e' => ?_, ?_⟩
  · cases e'
    obtain ⟨ob, hd, e1⟩ := td
    exact ⟨ob, (I1.hok a _ e1).1, hd⟩
  have hA := ha.run cpos pins s1 σ H1 _ I1 q1
  rw [hs] at hA ⊢
  refine Calls.callWith_builtin (by show (false || (backTo cpos (starEach es X.env)).any (·.1)) = false; rw [hplain] <;> rfl) (Calls.evalArgs_plain ?_)
  exact thn hA fun us s2 ⟨vs, H2, I2, r2, q2⟩ => hm pins s2 σ H2 (.ref a) vs (.ref a) us Q I2 hx r2 q2
end
end Ln


set_option Elab.async false
set_option linter.all false
set_option maxRecDepth 100000
set_option maxHeartbeats 8000000
namespace Ln
open PySem PySem.Spec PyProof.Rows L2 GxR
theorem scBuilt : FnScope ["bag", "widest", "most", "names", "size", "initial", "fresh", "lean", "entries", "k", "way", "departs"] ["bag", "widest", "most"] (defScope sBuilt) := ⟨rfl, rfl, rfl, by decide +kernel, rfl, by decide +kernel, by decide +kernel⟩
/-- never more than c cars -/
def Capd (c n : Nat) (es : List Ev) : Prop := ∀ j k, cnt n (es.take j) = some k → k ≤ c
theorem capd_snoc {c n : Nat} {es : List Ev} {e : Ev} (h : Capd c n es) (h2 : ∀ k, cnt n (es ++ [e]) = some k → k ≤ c) : Capd c n (es ++ [e]) := fun j k hk => by
  by_cases hj : j ≤ es.length
  · rw [List.take_append_of_le_length hj] at hk
    exact h j k hk
  · rw [List.take_of_length_le (by rw [List.length_append, List.length_singleton]; omega)] at hk
    exact h2 k hk
/-- what _law_built gives: the lane xs at t, the log es at o -/
structure Bt (H H' : Hp) (s t o : Addr) (xs : List Str) (as : List Addr) (es : List Ev) (widest most n m : Nat) (l' : List V) : Prop where
  ch : Ch s H H'
  t0 : H t = none
  o0 : H o = none
  t1 : TupD H' t (xs.map V.str)
  o1 : H' o = some (.lst (as.map V.ref))
  ev : EvT H' as es
  fr : ∀ a ∈ as, H a = none
  few1 : xs.length ≤ widest
  few2 : es.length ≤ most
  nd : (xs ++ arrs es).Nodup
  cars : ∀ x ∈ xs ++ arrs es, carB x = true
  ct : cnt xs.length es = some m
  cap : Capd (max 40 widest) xs.length es
  src : SrcV (n + (widest + 2 * most + 3)) l'
  s1 : H' s = some (.lst l')
  pool : ∀ x ∈ xs ++ arrs es, x ∈ poolL
def BtInv (H : Hp) (ob : Obj) (s0 nm t fr o : Addr) (n n0 widest most : Nat) (xs zs : List Str) (ln : Int) (c i : Nat) (σ : L2.St) (H' : Hp) : Prop := ∃ (l' : List V) (as : List Addr) (es : List Ev) (k m : Nat) (v9 v10 v11 : Option V),
  σ = [some (.ref s0), some (.int (widest : Nat)), some (.int (most : Nat)), some (.ref nm), some (.int (m : Nat)), some (.ref t), some (.ref fr), some (.int ln), some (.ref o), v9, v10, v11] ∧ Ch s0 H H' ∧ i ≤ c ∧ H' s0 = some (.lst l') ∧ SrcV (n + i) l' ∧ H' t = some (.frz ob (.tup (xs.map V.str))) ∧ H' fr = some (.lst ((zs.drop k).map V.str)) ∧
  H' o = some (.lst (as.map V.ref)) ∧ EvT H' as es ∧ (∀ a ∈ as, H a = none) ∧ es.length ≤ i ∧ k ≤ i ∧ arrs es = zs.take k ∧ cnt n0 es = some m ∧ Capd (max 40 widest) n0 es
theorem ix4 (b0 b1 b2 b3 : Bool) {r : Int} (h0 : 0 ≤ r) (h4 : r < 4) : ∃ b : Bool, atI [V.bl b0, .bl b1, .bl b2, .bl b3] r = some (.bl b) := by
  have : r = 0 ∨ r = 1 ∨ r = 2 ∨ r = 3 := by omega
  rcases this with rfl | rfl | rfl | rfl
  · exact ⟨b0, atI_nat (j := 0) rfl⟩
  · exact ⟨b1, atI_nat (j := 1) rfl⟩
  · exact ⟨b2, atI_nat (j := 2) rfl⟩
  · exact ⟨b3, atI_nat (j := 3) rfl⟩
theorem cut_pre {xs : List V} {c : Nat} : cutV xs none (some (c : Int)) = xs.take c := by
  unfold cutV
  rw [HT.sIx_none, List.drop_zero, Nat.sub_zero, show HT.sIx xs.length xs.length (some (c : Int)) = min c xs.length from HT.sIx_nat _ _ c]
  by_cases h : c ≤ xs.length
  · rw [Nat.min_eq_left h]
  · rw [Nat.min_eq_right (by omega), List.take_of_length_le (Nat.le_refl _), List.take_of_length_le (by omega)]
section
variable {P : Program} {w : World} {K : PySem.W.Frag} {mg : Str → Option Value} {base : Heap} {Ps : List Addr}
def spBuilt : Sp := fun vs H Q _ => ∃ (s : Addr) (l : List V) (n widest most : Nat), vs = [.ref s, .int (widest : Nat), .int (most : Nat)] ∧ H s = some (.lst l) ∧ SrcV n l ∧ n + 1000 ≤ 1000000 ∧ widest + most ≤ 190 ∧
  ∀ (H' : Hp) (p t o : Addr) (xs : List Str) (as : List Addr) (es : List Ev) (m : Nat) (l' : List V), Bt H H' s t o xs as es widest most n m l' → H p = none → H' p = some (.tup [.ref t, .ref o]) → Q (.ref p) H'
theorem ok_built {f fT fN : Addr} {fd fdT fdN : FuncData} (F : Fun K "_law_built" "_law_built" sBuilt f fd) (B : Bi mg) (B2 : Bl mg)
    (GT : FnOk P w K mg base CX0 1 fT fdT ["bag", "limit"] spTake) (mgT : mg "_law_take" = some (.ref fT)) (kT : PySem.W.keepIn K (.ref fT) = true) (bT : Binds K fdT ["bag", "limit"] [])
    (GN : FnOk P w K mg base CX0 2 fN fdN ["bag", "many"] spNames) (mgN : mg "_law_names" = some (.ref fN)) (kN : PySem.W.keepIn K (.ref fN) = true) (bN : Binds K fdN ["bag", "many"] []) : FnOk P w K mg base CX0 3 f fd ["bag", "widest", "most"] spBuilt := by
  refine F.ok scBuilt (fun vs H Q E h => ?_) (fun cdv A outer s H vs Q E hr h => ?_)
  · obtain ⟨s0, l, n, widest, most, rfl, _⟩ := h
    rfl
  · obtain ⟨s0, l, n, widest, most, rfl, hs, hl, hn, hwm, q⟩ := h
    have hr1 := hr.mono (show 1 ≤ 2 by decide)
    refine ⟨_, pss_cons (ps_set (i := 3) scBuilt.nd rfl (.inl rfl) (pe_call GN hr (by rfl) mgN kN bN .nil pass0 (pa_cons (pv 0) (pa_cons (pe_op op_add (pv 1) (pv 2)) pa_nil))))
      (pss_cons (ps_set (i := 4) scBuilt.nd rfl (.inl rfl) (pe_call GT hr1 (by rfl) mgT kT bT .nil pass0 (pa_cons (pv 0) (pa_cons (pe_op op_add (pv 1) pe_int) pa_nil))))
      (pss_cons (ps_par (i := 5) (j := 6) (by rfl) scBuilt.nd rfl rfl (by decide) rfl rfl (pa_cons (pe_callTy call_tuple_ofD (by rfl) B.tup (by decide +kernel) (pa_cons (pe_slice sl_list (pv 3) po_none (po_some (pv 4))) pa_nil)) (pa_cons (pe_slice sl_list (pv 3) (po_some (pv 4)) po_none) pa_nil)) (by rfl))
      (pss_cons (ps_set (i := 7) scBuilt.nd rfl (.inl rfl) (pe_call GT hr1 (by rfl) mgT kT bT .nil pass0 (pa_cons (pv 0) (pa_cons pe_int pa_nil))))
      (pss_cons (ps_set (i := 8) scBuilt.nd rfl (.inl rfl) (pe_lst pa_nil))
      (pss_cons (ps_for PassesOwn.never rfl (pi_range1 (by rfl) B2.rng (pa_cons (pe_call GT hr1 (by rfl) mgT kT bT .nil pass0 (pa_cons (pv 0) (pa_cons (pe_op op_add (pv 2) pe_int) pa_nil))) pa_nil)) (pg_name (i := 9) scBuilt.nd rfl (.inl rfl))
        (pss_cons (ps_set (i := 10) scBuilt.nd rfl (.inl rfl) (pe_call GT hr1 (by rfl) mgT kT bT .nil pass0 (pa_cons (pv 0) (pa_cons pe_int pa_nil))))
        (pss_cons (ps_set (i := 11) scBuilt.nd rfl (.inl rfl) (pe_ix ix_list (pe_lst (pa_cons (pe_cmpR op_lt (pv 10) pe_int (nomark _)) (pa_cons (pe_cmpR op_lt (pv 10) pe_int (nomark _)) (pa_cons (pe_cmpR op_eq (pe_op op_mod (pe_op op_fdiv (pv 9) pe_int) pe_int) pe_int (nomark _)) (pa_cons (pe_cmpR op_lt (pv 10) pe_int (nomark _)) pa_nil))))) (pv 7) (fun _ _ => rfl)))
        (pss_one (ps_if (PW.pt (pw_and (pt_cmpR op_gt (pv 4) pe_int (nomark _)) (pw_and1 (PW.pt (pw_or (pt_val (pv 11)) (pw_or1 (pt_cmpR op_gt (pv 4) pe_int (nomark _))))))))
          (pss_cons (ps_expr (pe_bm PySem.F.plainAttrs_list PySem.F.slot_list_append PySem.F.type_list_append mt_append (pv 8) (pa_cons (pe_tup (pa_cons pe_str pa_nil)) pa_nil)))
            (pss_one (ps_set (i := 4) scBuilt.nd rfl (.inl rfl) (pe_op op_sub (pv 4) pe_int))))
          (pss_cons (ps_expr (pe_bm PySem.F.plainAttrs_list PySem.F.slot_list_append PySem.F.type_list_append mt_append (pv 8) (pa_cons (pe_tup (pa_cons pe_str (pa_cons (pe_bm PySem.F.plainAttrs_list PySem.F.slot_list_pop PySem.F.type_list_pop mt_popAt (pv 6) (pa_cons pe_int pa_nil)) pa_nil))) pa_nil)))
            (pss_one (ps_set (i := 4) scBuilt.nd rfl (.inl rfl) (pe_op op_add (pv 4) pe_int)))))))))
      (pss_one (ps_ret (pe_tup (pa_cons (pv 5) (pa_cons (pv 8) pa_nil)))))))))), ?_⟩
    -- the names
    refine ⟨.ref s0, rfl, _, rfl, _, rfl, _, _, rfl, rfl, s0, l, n, widest + most, ?_, hs, hl, by omega, by omega, fun H1 nm ys l1 ch1 nm0 hyl hynd hyc hl1 hs1 hnm => ?_⟩
    · show _ = [V.ref s0, V.int ((widest + most : Nat) : Int)]
      rw [Int.natCast_add]
      rfl
    have nms : nm ≠ s0 := (ne_of_none hs nm0).symm
    -- how many stand
    refine ⟨.ref s0, rfl, _, rfl, _, _, rfl, rfl, s0, l1, n + (widest + most), _, rfl, hs1, hl1, by omega, by omega, by omega, fun l2 r2 hl2 h20 h2m => ?_⟩
    obtain ⟨size, rfl⟩ : ∃ size : Nat, r2 = (size : Int) := ⟨r2.toNat, by omega⟩
    have ch2 : Ch s0 H (upd H1 s0 (.lst l2)) := ch1.trans Ch.src
    have hs2 : (upd H1 s0 (.lst l2)) s0 = some (.lst l2) := upd_same
    have hnm2 : (upd H1 s0 (.lst l2)) nm = some (.lst (ys.map V.str)) := by rw [upd_ne nms]; exact hnm
    generalize upd H1 s0 (.lst l2) = H2 at ch2 hs2 hnm2 ⊢
    refine ⟨.ref nm, rfl, _, rfl, _, rfl, nm, _, rfl, .inl (.inl hnm2), fun a ha => ?_⟩
    rw [cut_pre, ← List.map_take]
    have ha0 : H a = none := ch2.free hs ⟨_, hs2⟩ ha
    have ch3 := ch2.new (o := .lst ((ys.take size).map V.str)) ha0
    have hs3 : (upd H2 a (.lst ((ys.take size).map V.str))) s0 = some (.lst l2) := by rw [upd_ne (ne_of_none hs2 ha)]; exact hs2
    have hnm3 : (upd H2 a (.lst ((ys.take size).map V.str))) nm = some (.lst (ys.map V.str)) := by rw [upd_ne (ne_of_none hnm2 ha)]; exact hnm2
    have e3 : (upd H2 a (.lst ((ys.take size).map V.str))) a = some (.lst ((ys.take size).map V.str)) := upd_same
    generalize upd H2 a (.lst ((ys.take size).map V.str)) = H3 at ch3 hs3 hnm3 e3 ⊢
    refine ⟨a, _, rfl, .inl (.inl e3), fun t ob hob ht => ?_⟩
    have ht0 : H t = none := ch3.free hs ⟨_, hs3⟩ ht
    have ch4 := ch3.new (o := .frz ob (.tup ((ys.take size).map V.str))) ht0
    have hs4 : (upd H3 t (.frz ob (.tup ((ys.take size).map V.str)))) s0 = some (.lst l2) := by rw [upd_ne (ne_of_none hs3 ht)]; exact hs3
    have hnm4 : (upd H3 t (.frz ob (.tup ((ys.take size).map V.str)))) nm = some (.lst (ys.map V.str)) := by rw [upd_ne (ne_of_none hnm3 ht)]; exact hnm3
    have t4 : (upd H3 t (.frz ob (.tup ((ys.take size).map V.str)))) t = some (.frz ob (.tup ((ys.take size).map V.str))) := upd_same
    show tCons (tSl (rSlL K) (tVar 3) (tPart (tVar 4)) tNoPart) tNil _ (upd H3 t (.frz ob (.tup ((ys.take size).map V.str)))) _
    generalize upd H3 t (.frz ob (.tup ((ys.take size).map V.str))) = H4 at ch4 hs4 hnm4 t4 ⊢
    refine ⟨.ref nm, rfl, _, rfl, _, rfl, nm, _, rfl, .inl (.inl hnm4), fun fr hfr => ?_⟩
    have hdrop : cutV (ys.map V.str) (some ((size : Nat) : Int)) none = (ys.drop size).map V.str := by
      unfold cutV
      rw [show HT.sIx (ys.map V.str).length 0 (some ((size : Nat) : Int)) = min size (ys.map V.str).length from HT.sIx_nat _ 0 size, HT.sIx_none, List.length_map, show min size ys.length = size by omega, ← List.map_drop]
      exact List.take_of_length_le (by rw [List.length_map, List.length_drop]; exact Nat.le_refl _)
    rw [hdrop]
    have hfr0 : H fr = none := ch4.free hs ⟨_, hs4⟩ hfr
    have ch5 := ch4.new (o := .lst ((ys.drop size).map V.str)) hfr0
    have hs5 : (upd H4 fr (.lst ((ys.drop size).map V.str))) s0 = some (.lst l2) := by rw [upd_ne (ne_of_none hs4 hfr)]; exact hs4
    have t5 : (upd H4 fr (.lst ((ys.drop size).map V.str))) t = some (.frz ob (.tup ((ys.take size).map V.str))) := by rw [upd_ne (ne_of_none t4 hfr)]; exact t4
    have f5 : (upd H4 fr (.lst ((ys.drop size).map V.str))) fr = some (.lst ((ys.drop size).map V.str)) := upd_same
    have frs : fr ≠ s0 := (ne_of_none hs4 hfr).symm
    have frt : fr ≠ t := (ne_of_none t4 hfr).symm
    generalize upd H4 fr (.lst ((ys.drop size).map V.str)) = H5 at ch5 hs5 t5 f5 ⊢
    refine ⟨_, _, rfl, ?_⟩
    have ts0 : t ≠ s0 := fun z => by
      rw [z, hs5] at t5
      cases t5
    -- lean
    refine ⟨.ref s0, rfl, s0, l2, n + (widest + most) + 1, 4, rfl, hs5, hl2, by omega, by decide, by decide, fun l3 r3 hl3 h30 h3m => ?_⟩
    have ch6 : Ch s0 H (upd H5 s0 (.lst l3)) := ch5.trans Ch.src
    have hs6 : (upd H5 s0 (.lst l3)) s0 = some (.lst l3) := upd_same
    have t6 : (upd H5 s0 (.lst l3)) t = some (.frz ob (.tup ((ys.take size).map V.str))) := by rw [upd_ne ts0]; exact t5
    have f6 : (upd H5 s0 (.lst l3)) fr = some (.lst ((ys.drop size).map V.str)) := by rw [upd_ne frs]; exact f5
    generalize upd H5 s0 (.lst l3) = H6 at ch6 hs6 t6 f6 ⊢
    refine ⟨Nat.zero_le _, fun o ho => ?_⟩
    have ho0 : H o = none := ch6.free hs ⟨_, hs6⟩ ho
    have ch7 := ch6.new (o := .lst []) ho0
    have hs7 : (upd H6 o (.lst [])) s0 = some (.lst l3) := by rw [upd_ne (ne_of_none hs6 ho)]; exact hs6
    have t7 : (upd H6 o (.lst [])) t = some (.frz ob (.tup ((ys.take size).map V.str))) := by rw [upd_ne (ne_of_none t6 ho)]; exact t6
    have f7 : (upd H6 o (.lst [])) fr = some (.lst ((ys.drop size).map V.str)) := by rw [upd_ne (ne_of_none f6 ho)]; exact f6
    have o7 : (upd H6 o (.lst [])) o = some (.lst []) := upd_same
    have ons : o ≠ s0 := (ne_of_none hs6 ho).symm
    have onf : o ≠ fr := (ne_of_none f6 ho).symm
    have ont : o ≠ t := (ne_of_none t6 ho).symm
    generalize upd H6 o (.lst []) = H7 at ch7 hs7 t7 f7 o7 ⊢
    refine ⟨.ref s0, rfl, _, rfl, _, _, rfl, rfl, s0, l3, n + (widest + most) + 1 + 1, _, rfl, hs7, hl3, by omega, by omega, by omega, fun l4 r4 hl4 h40 h4m => ?_⟩
    refine ⟨r4, rfl, by omega, by omega, ?_⟩
    have hsz : (ys.take size).length = size := by
      rw [List.length_take]
      omega
    have hdl : (ys.drop size).length = widest + most - size := by rw [List.length_drop, hyl]
    refine for_range (lo := 0) (n := r4.toNat) (BtInv H ob s0 nm t fr o (n + (widest + most) + 3) size widest most (ys.take size) (ys.drop size) r3 r4.toNat) ?_ ?_ ?_
    · refine ⟨l4, [], [], 0, size, none, none, none, rfl, ch7.trans Ch.src, Nat.zero_le _, upd_same, hl4, by rw [upd_ne ts0]; exact t7, by rw [upd_ne frs]; exact f7, by rw [upd_ne ons]; exact o7, .nil, fun a ha => (by cases ha), Nat.le_refl _, Nat.le_refl _, rfl, rfl, fun j k hk => ?_⟩
      rw [List.take_nil] at hk
      obtain rfl := Option.some.inj hk
      omega
    · rintro i σ H' hi ⟨l', as, es, k, m, v9, v10, v11, rfl, ch, _, hs', hl', ht', hf', ho', hev, hfrA, hel, hki, har, hct, hcap⟩
      have hi' : i < r4.toNat := hi
      have hr4 : r4.toNat ≤ most := by omega
      -- way
      refine ⟨.ref s0, rfl, s0, l', n + (widest + most) + 3 + i, 4, rfl, hs', hl', by omega, by decide, by decide, fun l5 way hl5 _ _ => ?_⟩
      have hs1 : (upd H' s0 (.lst l5)) s0 = some (.lst l5) := upd_same
      have t1 : (upd H' s0 (.lst l5)) t = some (.frz ob (.tup ((ys.take size).map V.str))) := by rw [upd_ne ts0]; exact ht'
      have f1 : (upd H' s0 (.lst l5)) fr = some (.lst (((ys.drop size).drop k).map V.str)) := by rw [upd_ne frs]; exact hf'
      have o1 : (upd H' s0 (.lst l5)) o = some (.lst (as.map V.ref)) := by rw [upd_ne ons]; exact ho'
      have ev1 : EvT (upd H' s0 (.lst l5)) as es := hev.kt (KT.upd fun xs e => by rw [hs'] at e; cases e)
      have c1 : Ch s0 H (upd H' s0 (.lst l5)) := ch.trans Ch.src
      generalize upd H' s0 (.lst l5) = Ha at hs1 t1 f1 o1 ev1 c1 ⊢
      -- departs
      refine ⟨_, rfl, _, _, rfl, rfl, _, rfl, _, _, rfl, rfl, _, rfl, _, _, rfl, rfl, ⟨by decide, by decide⟩, _, _, rfl, rfl, (by show (0 : Int) < 2; decide), rfl, _, rfl, _, _, rfl, rfl, by show 4 ≤ sizeLine; decide, fun e4 he4 => ?_⟩
      have he40 : H e4 = none := c1.free hs ⟨_, hs1⟩ he4
      refine ⟨_, rfl, ?_⟩
      obtain ⟨b, hb⟩ := ix4 (decide (way < 1)) (decide (way < 3)) (decide (V.int ((0 + (i : Int)) / 4 % 2) = V.int 1)) (decide (way < 2)) h30 h3m
      refine ⟨e4, _, r3, .bl b, rfl, rfl, .inl (.inl upd_same), hb, ?_⟩
      have n4o : o ≠ e4 := ne_of_none o1 he4
      have n4f : fr ≠ e4 := ne_of_none f1 he4
      have n4s : s0 ≠ e4 := ne_of_none hs1 he4
      have n4t : t ≠ e4 := ne_of_none t1 he4
      have hs2' : (upd Ha e4 (.lst [V.bl (decide (way < 1)), .bl (decide (way < 3)), .bl (decide (V.int ((0 + (i : Int)) / 4 % 2) = V.int 1)), .bl (decide (way < 2))])) s0 = some (.lst l5) := by rw [upd_ne n4s]; exact hs1
      have t2 : (upd Ha e4 (.lst [V.bl (decide (way < 1)), .bl (decide (way < 3)), .bl (decide (V.int ((0 + (i : Int)) / 4 % 2) = V.int 1)), .bl (decide (way < 2))])) t = some (.frz ob (.tup ((ys.take size).map V.str))) := by rw [upd_ne n4t]; exact t1
      have f2 : (upd Ha e4 (.lst [V.bl (decide (way < 1)), .bl (decide (way < 3)), .bl (decide (V.int ((0 + (i : Int)) / 4 % 2) = V.int 1)), .bl (decide (way < 2))])) fr = some (.lst (((ys.drop size).drop k).map V.str)) := by rw [upd_ne n4f]; exact f1
      have o2 : (upd Ha e4 (.lst [V.bl (decide (way < 1)), .bl (decide (way < 3)), .bl (decide (V.int ((0 + (i : Int)) / 4 % 2) = V.int 1)), .bl (decide (way < 2))])) o = some (.lst (as.map V.ref)) := by rw [upd_ne n4o]; exact o1
      have ev2 : EvT (upd Ha e4 (.lst [V.bl (decide (way < 1)), .bl (decide (way < 3)), .bl (decide (V.int ((0 + (i : Int)) / 4 % 2) = V.int 1)), .bl (decide (way < 2))])) as es := ev1.kt (KT.upd fun xs e' => by rw [he4] at e'; cases e')
      have c2 := c1.new (o := .lst [V.bl (decide (way < 1)), .bl (decide (way < 3)), .bl (decide (V.int ((0 + (i : Int)) / 4 % 2) = V.int 1)), .bl (decide (way < 2))]) he40
      generalize upd Ha e4 (.lst [V.bl (decide (way < 1)), .bl (decide (way < 3)), .bl (decide (V.int ((0 + (i : Int)) / 4 % 2) = V.int 1)), .bl (decide (way < 2))]) = Hb at hs2' t2 f2 o2 ev2 c2 ⊢
      have lenA : (as.map V.ref).length < sizeLine := by
        rw [List.length_map, Paired.length hev]
        exact small1000 (by omega)
      have hk : k < (ys.drop size).length := by omega
      have hmc : m ≤ max 40 widest := hcap es.length m (by rw [List.take_length]; exact hct)
      obtain ⟨c, rest, hcr⟩ : ∃ c rest, (ys.drop size).drop k = c :: rest := ⟨_, _, List.drop_eq_getElem_cons hk⟩
      have hkc : (ys.drop size)[k]? = some c := by
        have : ((ys.drop size).drop k)[0]? = some c := by rw [hcr]; rfl
        rw [List.getElem?_drop] at this
        exact this
      have hrest : rest = (ys.drop size).drop (k + 1) := by
        have : ((ys.drop size).drop k).drop 1 = rest := by rw [hcr]; rfl
        rw [List.drop_drop] at this
        exact this.symm
      rw [hcr] at f2
      have dep : 0 < m → ∀ D : Ends, (∀ σ H', BtInv H ob s0 nm t fr o (n + (widest + most) + 3) size widest most (ys.take size) (ys.drop size) r3 r4.toNat (i + 1) σ H' → D.nx σ H') →
          (tSeq (tDrop (tBM K "list" rAppend (tVar 8) (tCons (tTup (tCons (tC (.str "out")) tNil)) tNil))) (tAsg (tOp (rI0 fun i j => .int (i - j)) (tVar 4) (tC (.int 1))) (gName 4)))
            D [some (.ref s0), some (.int (widest : Nat)), some (.int (most : Nat)), some (.ref nm), some (.int (m : Nat)), some (.ref t), some (.ref fr), some (.int r3), some (.ref o), some (.int (0 + (i : Int))), some (.int way), some (.bl b)] Hb := by
        intro hm D hD
        refine ⟨.ref o, rfl, .inl ⟨rfl, _, .inl (.inl o2)⟩, by show 1 ≤ sizeLine; decide, fun e he => ?_⟩
        have heo : o ≠ e := ne_of_none o2 he
        have hef : fr ≠ e := ne_of_none f2 he
        have hes : s0 ≠ e := ne_of_none hs2' he
        have het : t ≠ e := ne_of_none t2 he
        have he0 : H e = none := c2.free hs ⟨_, hs2'⟩ he
        refine ⟨o, _, _, rfl, rfl, by rw [upd_ne heo]; exact o2, lenA, ?_⟩
        refine ⟨_, rfl, _, _, rfl, rfl, hD _ _ ⟨l5, as ++ [e], es ++ [.out], k, m - 1, some (.int (0 + (i : Int))), some (.int way), some (.bl b), ?_, (c2.new he0).new ho0, hi, ?_, ?_, ?_, ?_, ?_, ?_, ?_, ?_, by omega, ?_, ?_, ?_⟩⟩
        · show [some (V.ref s0), some (V.int (widest : Nat)), some (V.int (most : Nat)), some (V.ref nm), some (V.int (((m : Nat) : Int) - 1)), some (V.ref t), some (V.ref fr), some (V.int r3), some (V.ref o), some (V.int (0 + (i : Int))), some (V.int way), some (V.bl b)] = _
          rw [show ((m : Nat) : Int) - 1 = ((m - 1 : Nat) : Int) by omega]
        · rw [upd_ne ons.symm, upd_ne hes]
          exact hs2'
        · rw [show n + (widest + most) + 3 + (i + 1) = n + (widest + most) + 3 + i + 1 by omega]
          exact hl5
        · rw [upd_ne ont.symm, upd_ne het]
          exact t2
        · rw [upd_ne onf.symm, upd_ne hef, hcr]
          exact f2
        · rw [upd_same, List.map_append]
          rfl
        · refine Paired.snoc ?_ ?_
          · exact (ev2.kt (KT.upd fun xs e' => by rw [he] at e'; cases e')).kt (KT.upd fun xs e' => by rw [upd_ne heo, o2] at e'; cases e')
          · show (upd _ _ _) e = _
            rw [upd_ne heo.symm, upd_same]
            rfl
        · intro b hb
          rcases List.mem_append.mp hb with hb | hb
          · exact hfrA b hb
          · rw [List.mem_singleton.mp hb]
            exact he0
        · rw [List.length_append]
          show es.length + 1 ≤ _
          omega
        · rw [arrs_app, har]
          show (ys.drop size).take k ++ [] = _
          rw [List.append_nil]
        · rw [cnt_snoc _ _ _ _ hct]
          show (if 0 < m then some (m - 1) else none) = _
          rw [if_pos hm]
        · refine capd_snoc hcap fun k hk => ?_
          rw [cnt_snoc _ _ _ _ hct] at hk
          have hk : (if 0 < m then some (m - 1) else none) = some k := hk
          rw [if_pos hm] at hk
          obtain rfl := Option.some.inj hk
          omega
      have arr : m < 40 → ∀ D : Ends, (∀ σ H', BtInv H ob s0 nm t fr o (n + (widest + most) + 3) size widest most (ys.take size) (ys.drop size) r3 r4.toNat (i + 1) σ H' → D.nx σ H') →
          (tSeq (tDrop (tBM K "list" rAppend (tVar 8) (tCons (tTup (tCons (tC (.str "in")) (tCons (tBM K "list" rPopAt (tVar 6) (tCons (tC (.int 0)) tNil)) tNil))) tNil))) (tAsg (tOp (rI0 fun i j => .int (i + j)) (tVar 4) (tC (.int 1))) (gName 4)))
            D [some (.ref s0), some (.int (widest : Nat)), some (.int (most : Nat)), some (.ref nm), some (.int (m : Nat)), some (.ref t), some (.ref fr), some (.int r3), some (.ref o), some (.int (0 + (i : Int))), some (.int way), some (.bl b)] Hb := by
        intro hm40 D hD
        refine ⟨.ref o, rfl, .inl ⟨rfl, _, .inl (.inl o2)⟩, .ref fr, rfl, .inl ⟨rfl, _, .inl (.inl f2)⟩, fr, _, 0, 0, V.str c, rfl, rfl, f2, by decide, by decide, ?_, rfl, by show 2 ≤ sizeLine; decide, fun e he => ?_⟩
        · exact (ixN_seq (i := 0) (j := 0) (by unfold ixN; rw [if_pos (by decide), if_pos (by rw [List.length_map, List.length_cons]; omega)]; rfl)).1
        have hef : e ≠ fr := fun z => by
          rw [z, upd_same] at he
          cases he
        rw [upd_ne hef] at he
        have heo : o ≠ e := ne_of_none o2 he
        have hes : s0 ≠ e := ne_of_none hs2' he
        have het : t ≠ e := ne_of_none t2 he
        have he0 : H e = none := c2.free hs ⟨_, hs2'⟩ he
        refine ⟨o, _, _, rfl, rfl, by rw [upd_ne heo, upd_ne onf]; exact o2, lenA, ?_⟩
        refine ⟨_, rfl, _, _, rfl, rfl, hD _ _ ⟨l5, as ++ [e], es ++ [.inn c], k + 1, m + 1, some (.int (0 + (i : Int))), some (.int way), some (.bl b), rfl, ((c2.new hfr0).new he0).new ho0, hi, ?_, ?_, ?_, ?_, ?_, ?_, ?_, ?_, by omega, ?_, ?_, ?_⟩⟩
        · rw [upd_ne ons.symm, upd_ne hes, upd_ne frs.symm]
          exact hs2'
        · rw [show n + (widest + most) + 3 + (i + 1) = n + (widest + most) + 3 + i + 1 by omega]
          exact hl5
        · rw [upd_ne ont.symm, upd_ne het, upd_ne frt.symm]
          exact t2
        · rw [upd_ne onf.symm, upd_ne hef.symm, upd_same, ← hrest]
          rfl
        · rw [upd_same, List.map_append]
          rfl
        · refine Paired.snoc ?_ ?_
          · exact ((ev2.kt (KT.upd fun xs e' => by rw [f2] at e'; cases e')).kt (KT.upd fun xs e' => by rw [upd_ne hef, he] at e'; cases e')).kt (KT.upd fun xs e' => by rw [upd_ne heo, upd_ne onf, o2] at e'; cases e')
          · show (upd _ _ _) e = _
            rw [upd_ne heo.symm, upd_same]
            rfl
        · intro b hb
          rcases List.mem_append.mp hb with hb | hb
          · exact hfrA b hb
          · rw [List.mem_singleton.mp hb]
            exact he0
        · rw [List.length_append]
          show es.length + 1 ≤ _
          omega
        · rw [arrs_app, har, List.take_add_one, hkc]
          rfl
        · rw [cnt_snoc _ _ _ _ hct]
          rfl
        · refine capd_snoc hcap fun k hk => ?_
          rw [cnt_snoc _ _ _ _ hct] at hk
          obtain rfl := Option.some.inj hk
          omega
      refine ⟨_, rfl, _, _, rfl, rfl, _, rfl, ite2 (fun h0 => ?_) (fun h0 => ?_)⟩
      · have h0 : (0 : Int) < (m : Nat) := of_decide_eq_true h0
        refine ⟨_, rfl, b, rfl, ?_⟩
        cases b with
        | true => exact iteT (iteT (dep (by omega) _ fun σ H' h => h))
        | false =>
          refine iteF ⟨_, rfl, _, _, rfl, rfl, _, rfl, ite2 (fun h39 => ?_) (fun h39 => ?_)⟩
          · exact dep (by omega) _ fun σ H' h => h
          · have h39 : ¬ (39 : Int) < (m : Nat) := fun z => h39 (decide_eq_true z)
            exact arr (by omega) _ fun σ H' h => h
      · have h0 : ¬ (0 : Int) < (m : Nat) := fun z => h0 (decide_eq_true z)
        exact iteF (arr (by omega) _ fun σ H' h => h)
    · rintro σ H' ⟨l', as, es, k, m, v9, v10, v11, rfl, ch, _, hs', hl', ht', hf', ho', hev, hfrA, hel, hki, har, hct, hcap⟩
      refine ⟨.ref t, rfl, .ref o, rfl, by show 2 ≤ sizeLine; decide, fun p hp => ?_⟩
      have hp0 : H p = none := ch.free hs ⟨_, hs'⟩ hp
      have npt : t ≠ p := ne_of_none ht' hp
      have npo : o ≠ p := ne_of_none ho' hp
      have nps : s0 ≠ p := ne_of_none hs' hp
      have hsub : ∀ x ∈ ys.take size ++ arrs es, x ∈ ys := fun x hx => by
        rcases List.mem_append.mp hx with e | e
        · exact List.mem_of_mem_take e
        · rw [har] at e
          exact List.mem_of_mem_drop (List.mem_of_mem_take e)
      refine q _ p t o (ys.take size) as es m l' ⟨ch.new hp0, ht0, ho0, ⟨ob, hob, by rw [upd_ne npt]; exact ht'⟩, by rw [upd_ne npo]; exact ho', hev.kt (KT.upd fun xs e => by rw [hp] at e; cases e), hfrA, by omega, by omega, ?_, fun x hx => pool_cars x (hyc x (hsub x hx)), by rw [hsz]; exact hct, by rw [hsz]; exact hcap, hl'.mono (by omega), by rw [upd_ne nps]; exact hs', fun x hx => hyc x (hsub x hx)⟩ hp0 upd_same
      rw [har]
      have : ((ys.take size) ++ (ys.drop size).take k).Sublist ys := by
        have h1 : ((ys.take size) ++ (ys.drop size).take k).Sublist (ys.take size ++ ys.drop size) := (List.Sublist.refl _).append (List.take_sublist _ _)
        rw [List.take_append_drop] at h1
        exact h1
      exact hynd.sublist this
end
end Ln

set_option Elab.async false
set_option linter.all false
set_option maxRecDepth 100000
set_option maxHeartbeats 4000000
namespace Ln
open PySem PySem.Spec PyProof.Rows L2
/-! ### set(xs), xs a list of whole numbers: a set that can be sorted -/
def UpI (w : World) (h : Heap) (a : Addr) (ns : List Int) (i : Nat) : Prop := ∃ m, SetR w h a (fun k => decide (k ∈ ns.take i)) m ∧ m ≤ i
theorem upI_step {w : World} {h' : Heap} {a : Addr} {ns : List Int} {i m : Nat} {k : Int} (hk : ns[i]? = some k) (hm : m ≤ i)
    (hs : SetR w h' a (fun j => decide (j ∈ ns.take i) || decide (j = k)) (if decide (k ∈ ns.take i) = true then m else m + 1)) : UpI w h' a ns (i + 1) := by
  refine ⟨_, hs.congr fun j => ?_, ?_⟩
  · rw [List.take_add_one, hk]
    show decide (j ∈ ns.take i ++ [k]) = _
    by_cases h1 : j ∈ ns.take i <;> by_cases h2 : j = k <;> simp [h1, h2]
  · split <;> omega
section
variable {P : Program} {w : World} {A : Around} {R : Result → Shared → Prop} {it : Addr} {fp wr : List Addr} {G : Array GenState → Array GenState → Prop} {n : Nat} {Pv : Nat → Value → Prop} {St : Nat → Shared → Prop}
theorem loop_ints (W : WalksS P w A.in1 it fp wr G n Pv St) (S : Addr) (hSf : S ∉ fp) (ns : List Int) (hval : ∀ (i : Nat) (v : Value), Pv i v → ∃ (k : Int) (tk : Tok), ns[i]? = some k ∧ v = .int k tk) (hb : n + 1 < scanBound) :
    ∀ (d i : Nat) (s : Shared), n - i = d → i ≤ n → St i s → UpI w s.heap S ns i →
      (∀ s', Moved (S :: wr) G s s' → UpI w s'.heap S ns n → R (.ok (.ret .none)) s') →
      codeAny (model P w) A (.builtin "set.update.loop" ⟨[.ref S, .ref it], []⟩) R s := by
  have nwr : S ∉ wr := fun z => hSf (W.sub _ z)
  have more : ∀ b ∈ wr, b ∈ S :: wr := fun b z => List.mem_cons_of_mem S z
  intro d
  induction d with
  | zero =>
    intro i s hd hi st ⟨m, hS, hm⟩ hR
    obtain rfl : i = n := by omega
    refine codeAny_builtin PyProof.Rows.F.entry_set_update_loop ?_
    rw [Around.under_plainId (PyProof.Rows.F.plain_set_update_loop) _]
    show wpAny (model P w) A.in1 (pyNext (.ref it) >>= _) _ _ s
    refine wpAny_bind (W.done s _ _ st fun s1 hmv => ?_)
    exact wpAny_pure (hR s1 (hmv.mono more) ⟨m, hS.at fun o e => hmv.heap S o nwr e, hm⟩)
  | succ d ih =>
    intro i s hd hi st ⟨m, hS, hm⟩ hR
    have hlt : i < n := by omega
    refine codeAny_builtin PyProof.Rows.F.entry_set_update_loop ?_
    rw [Around.under_plainId (PyProof.Rows.F.plain_set_update_loop) _]
    show wpAny (model P w) A.in1 (pyNext (.ref it) >>= _) _ _ s
    refine wpAny_bind (W.item i s _ _ hlt st fun v s1 hv st1 hmv => ?_)
    obtain ⟨k, tk, hk, rfl⟩ := hval i v hv
    have hS1 := hS.at fun o e => hmv.heap S o nwr e
    show wpAny (model P w) A.in1 (holding [.int k tk] (setAdd S (.int k tk)) >>= _) _ _ s1
    refine wpAny_bind (wpAny_holding ?_)
    unfold setAdd
    refine wpAny_holding (wpAny_bind ((intKind P w).pyHash (intKind_is P w k tk) ?_))
    refine setR_add_hashed (s := { s1 with toks := s1.toks + 1 }) hS1 (by omega) fun h2 sb hS2 => ?_
    refine wpAny_pure ⟨plainId_quiet (PyProof.Rows.F.plain_set_update_loop) _, ih (i + 1) _ (by omega) hlt (W.frame _ s1 _ _ st1 (Nat.le_succ _) fun b hbf o e => ?_) (upI_step hk hm hS2) fun s3 hm3 hS3 => ?_⟩
    · exact (sb.2 b fun z => hSf (z ▸ hbf)).trans e
    · refine hR s3 (Moved.trans W.gtrans ((hmv.mono more).then_heap (Nat.le_succ _) fun b o hbw e => ?_) hm3) hS3
      exact (sb.2 b fun z => hbw (by rw [z]; exact List.mem_cons_self)).trans e
end
abbrev sObjL (w : World) : Obj := { cls := .type "set", dict := none, data := .set #[] 0 (.fresh 0 0 (!w.params.followText "set-order")) }
section
variable {P : Program} {w : World} {A : Around} {E : Value → Shared → Prop} {s : Shared}
theorem call_set_ints {l : Addr} {items : Array Value} {ns : List Int} {Q : Value → Shared → Prop}
    (hh : A.handled = none) (hl : s.heap.IsList l items) (hi : ∀ (i : Nat) (v : Value), items[i]? = some v → ∃ (k : Int) (tk : Tok), ns[i]? = some k ∧ v = .int k tk) (hb : items.size + 1 < scanBound)
    (h : ∀ (h' : Heap) (tk : Nat), UpI w h' s.heap.objs.size ns items.size → (∀ b o, b < s.heap.objs.size → s.heap.get? b = some o → h'.get? b = some o) → Q (.ref s.heap.objs.size) { s with heap := h', toks := tk }) :
    wpAny (model P w) A (call (.type "set") [.ref l]) Q E s := by
  obtain ⟨mro1, mro2, hmro⟩ := PySem.F.called_set.mro
  have made := PySem.F.called_set.made
  have subs := PySem.F.called_set.sub
  refine wpAny_call (codeAny_of_tree ?_)
  show wpAny (model P w) _ (callAny (.type "set") _) _ _ _
  refine wpAny_pure ⟨Code.quiet_builtin _ (by decide +kernel), codeAny_builtin (PySem.F.entry_type_call) ?_⟩
  rw [Around.under_plain (weight_type_call_type "set" [Value.ref l] []) rfl]
  have notT := PySem.F.called_set.notType
  have canC := PySem.F.called_set.canCreate
  have chk := PySem.F.typeCall_set_1 (Value.ref l)
  repeat (any_goals (first | assumption | wp_step))
  refine codeAny_mono (code_set_led1 (.ref l) (E := E) (Q₁ := fun ob s1 => ob = .ref s.heap.objs.size ∧ s1 = { s with heap := s.heap.push (sObjL w) }) ⟨rfl, rfl⟩) fun r s1 hr => ?_
  match r, hr with
  | .error e, hr => exact hr
  | .ok .next, hr => exact hr.elim
  | .ok .brk, hr => exact hr.elim
  | .ok .cont, hr => exact hr.elim
  | .ok (.ret ob), hr =>
    obtain ⟨rfl, rfl⟩ := hr
    have hS : (s.heap.push (sObjL w)).get? s.heap.objs.size = some (sObjL w) := Heap.get?_push_size _ rfl
    have tyS : Shared.TypeIs { s with heap := s.heap.push (sObjL w) } (.ref s.heap.objs.size) "set" := ⟨_, hS, rfl⟩
    have lkI := PySem.F.called_set.init.lookup
    have bdI := PySem.F.called_set.init.bind (.ref s.heap.objs.size)
    repeat (any_goals (first | assumption | wp_step))
    refine codeAny_mono (codeAny_call_builtin (R := wants (fun r s2 => r = .none ∧ ∃ h' tk, s2 = { s with heap := h', toks := tk } ∧ UpI w h' s.heap.objs.size ns items.size ∧ (∀ b o, b < s.heap.objs.size → s.heap.get? b = some o → h'.get? b = some o)) E)
      (PySem.F.called_set.init.plain) (PySem.F.entry_set_init) (check_set_init_1 tyS ?_)) fun r2 s2 hr2 => ?_
    · obtain ⟨ob, hob, hcl, nl, hdl⟩ := hl
      obtain ⟨oc, od, oda, osl⟩ := ob
      simp only at hcl hdl
      subst hcl
      subst hdl
      have hob1 : (s.heap.push (sObjL w)).get? l = some { cls := .type "list", dict := od, data := .seq items nl, slots := osl } := Heap.get?_push_of_some _ hob
      have n1 := PySem.F.sub_list_set
      have n2 := PySem.F.sub_list_frozenset
      have n3 : (Value.type "list" == Value.type "dict") = false := by decide
      have tup1 : (s.heap.push (sObjL w)).IsList l items := ⟨_, hob1, rfl, nl, rfl⟩
      unfold Builtin.«set.__init__» noKeywords Builtin.Frozenset.updateFrom
      generalize hPI : pyIter = PI
      wp_walk
      subst hPI
      refine wpAny_pyIter_list tup1 (wpAny_bind (wpAny_runValue ?_))
      have lS : l < s.heap.objs.size := Heap.lt_size hob
      have hne : l ≠ (s.heap.push (sObjL w)).objs.size := by
        rw [Heap.size_push]
        exact Nat.ne_of_lt (Nat.lt_succ_of_lt lS)
      have nS : s.heap.objs.size ∉ [(s.heap.push (sObjL w)).objs.size, l] := by
        rw [Heap.size_push]
        intro z
        rcases List.mem_cons.mp z with z | z
        · exact absurd z (Nat.ne_of_lt (Nat.lt_succ_self _))
        · exact absurd (List.mem_singleton.mp z) (Nat.ne_of_gt lS)
      refine loop_ints ((Walks.list (show A.in1.in1.in1.handled = none by simp [hh]) _ l hne items).toS) s.heap.objs.size nS ns hi hb (items.size - 0) 0 _ (by omega) (Nat.zero_le _) ⟨⟨_, Heap.get?_push_size _ rfl, rfl, rfl⟩, tup1.push _⟩ ?hS0 ?hR
      case hS0 =>
        refine ⟨0, ?_, Nat.le_refl _⟩
        have e0 := (setR_fresh (h := s.heap) w).at (h' := (s.heap.push (sObjL w)).push { cls := .type "list_iterator", data := .fields #[.ref l, .int 0 0] }) fun o e => Heap.get?_push_of_some _ e
        exact e0.congr fun k => by simp
      case hR =>
        intro s3 hmv hS3
        obtain ⟨h3, g3, d3, t3, o3⟩ := s3
        have eg : g3 = s.gens := hmv.gens
        have ed : d3 = s.drawn := hmv.drawn
        have eo : o3 = s.os := hmv.os
        subst eg ed eo
        show wpAny (model P w) _ _ _ _ _
        refine wpAny_pure ?_
        show wpAny (model P w) _ (ret Value.none) _ _ _
        refine wpAny_pure ⟨rfl, h3, t3, rfl, hS3, fun b o hb2 e => ?_⟩
        refine hmv.heap b o (fun z => ?_) (Heap.get?_push_of_some _ (Heap.get?_push_of_some _ e))
        rcases List.mem_cons.mp z with z | z
        · exact Nat.ne_of_lt hb2 z
        · have z := List.mem_singleton.mp z
          rw [Heap.size_push] at z
          exact Nat.ne_of_lt (Nat.lt_succ_of_lt hb2) z
    · match r2, hr2 with
      | .error e, hr2 => exact hr2
      | .ok .next, hr2 => exact hr2.elim
      | .ok .brk, hr2 => exact hr2.elim
      | .ok .cont, hr2 => exact hr2.elim
      | .ok (.ret r), hr2 =>
        obtain ⟨rfl, h3, t3, rfl, hS3, hk3⟩ := hr2
        repeat (any_goals (first | assumption | wp_step))
        exact h _ _ hS3 hk3
end
/-- .. and sorted(set(xs)) -/
def rSetI (K : PySem.W.Frag) (w : World) : List V → Hp → VK → Prop := fun xs H Q => ∃ (l : Addr) (ns : List Int), xs = [V.ref l] ∧ SqL K H l (ns.map V.int) ∧ ns.length ≤ 1000 ∧
  ∀ (a : Addr) (L : List Int), H a = none → L.Nodup → (∀ k, k ∈ L ↔ k ∈ ns) → Q (.ref a) (upd H a (SetO w a (fun k => decide (k ∈ ns)) L.length))
section
variable {X : Cx}
theorem cr_setI (hc : X.calm = true) : CallR X (.type "set") (rSetI X.K X.w) := by
  intro pins s σ H xs us Q I r h
  obtain ⟨l, ns, rfl, hl, few, q⟩ := h
  rw [Vals.ref1 r]
  obtain ⟨its, rv, pl, hz⟩ := I.list hl
  have hn : H s.heap.objs.size = none := I.hok.fresh (Nat.le_refl _)
  have hsz : its.toArray.size = ns.length := by rw [List.size_toArray, ← rv.length, List.length_map]
  refine call_set_ints (P := X.prog) (w := X.w) (ns := ns) (I.ok.hd hc) pl.isList (fun i v hv => ?_) (by rw [hsz]; unfold scanBound; omega) fun h' tk R k => ?_
  · have hv : its[i]? = some v := by simpa using hv
    have hlt := (List.getElem?_eq_some_iff.mp hv).1
    have hlt2 : i < ns.length := by rw [← hsz]; simpa using hlt
    obtain ⟨u, hu, ru⟩ := rv.get (i := i) (x := .int ns[i]) (by rw [List.getElem?_map, List.getElem?_eq_getElem hlt2]; rfl)
    rw [hv] at hu
    cases hu
    obtain ⟨tk, rfl⟩ := ru
    exact ⟨ns[i], tk, List.getElem?_eq_getElem hlt2, rfl⟩
  · obtain ⟨m, R, _⟩ := R
    rw [hsz, List.take_length] at R
    obtain ⟨o, es, ep, t, r1, r2, r3, r4, nd, r6, r7, r8, hm, r10⟩ := R
    have R : SetR X.w h' s.heap.objs.size (fun k => decide (k ∈ ns)) (es.toList.map keyOf).length := by
      rw [List.length_map, Array.length_toList, hm]
      exact ⟨o, es, ep, t, r1, r2, r3, r4, nd, r6, r7, r8, hm, r10⟩
    exact ⟨.ref s.heap.objs.size, _, I.laid (t' := tk) (fun b o e => k b o (Heap.lt_size e) e) (Nat.le_refl _) (setO_new R), rfl, q _ _ hn nd fun k => by rw [← r6 k, decide_eq_true_iff]⟩
end
end Ln


set_option Elab.async false
set_option linter.all false
set_option maxRecDepth 100000
set_option maxHeartbeats 4000000
namespace Ln
open PySem
/-! ### what the conditions of a possible lane say, and that a replayed lane keeps them -/
/-- extra(t) from now on, x now -/
def extL (S : List Str) : Int → List Ev → List Int
  | x, [] => [x]
  | x, .inn c :: r => x :: extL S (if c ∈ S then x else x + 1) r
  | x, .out :: r => x :: extL S (x - 1) r
/-- departures until each moment, d now -/
def depL : Int → List Ev → List Int
  | d, [] => [d]
  | d, .inn _ :: r => d :: depL d r
  | d, .out :: r => d :: depL (d + 1) r
/-- how many are present at the end, n now -/
def endI : Int → List Ev → Int
  | n, [] => n
  | n, .inn _ :: r => endI (n + 1) r
  | n, .out :: r => endI (n - 1) r
def fneg (l : List Int) : Option Nat := l.findIdx? fun x => decide (x < 0)
def plcs (S : List Str) : Nat → List Str → List Nat
  | _, [] => []
  | i, c :: r => if c ∈ S then i :: plcs S (i + 1) r else plcs S (i + 1) r
def brgL : List Nat → Nat × Nat
  | [] => (0, 0)
  | a :: r => (a, (a :: r).getLast (List.cons_ne_nil a r) + 1)
abbrev brg (xs S : List Str) : Nat × Nat := brgL (plcs S 0 xs)
def cutN (xs : List Str) (p : Nat × Nat) : List Str := (xs.take p.2).drop p.1
def hasBlk (xs F : List Str) : Bool := decide (cutN xs (brg xs F) = cutN F (brg F xs))
def isPk (o : List Nat) (i : Nat) : Bool := decide (o.getD (i - 1) 0 < o.getD i 0) && decide (o.getD (i + 1) 0 < o.getD i 0)
def fpk (o : List Nat) : Option Nat := (List.range' 1 (o.length - 2)).find? (isPk o)
/-- the stayers that arrive: the car, the moment, left or right of the first ones -/
def arrSt (F : List Str) : Option Nat → Nat → List Ev → List (Str × Nat × Option Bool)
  | _, _, [] => []
  | lo, m, .out :: r => arrSt F lo (m + 1) r
  | lo, m, .inn c :: r => if c ∈ F then
      match lo with
      | none => (c, m, none) :: arrSt F (some (F.idxOf c)) (m + 1) r
      | some l => (c, m, some (decide (F.idxOf c < l))) :: arrSt F (some l) (m + 1) r
    else arrSt F lo (m + 1) r
def tooFew (nL nR g : Int) : Option Bool → Bool
  | none => false
  | some true => decide (g < nL)
  | some false => decide (g < nR)
def needL (x : Int) : Option Bool → Int
  | some false => x
  | _ => 0
def needR (x : Int) : Option Bool → Int
  | some true => x
  | _ => 0
def swF (dep ext : List Int) : Int → Int → Option Str → Nat → List (Str × Nat × Option Bool) → Option (Option Str × Str)
  | _, _, _, _, [] => none
  | nL, nR, b, s, (c, m, sd) :: r => if tooFew nL nR (dep.getD m 0 - dep.getD s 0) sd = true then some (b, c) else swF dep ext (needL (ext.getD m 0) sd) (needR (ext.getD m 0) sd) (some c) m r
inductive Why where
  | ok
  | cars
  | block
  | order (i : Nat)
  | moment (t : Nat)
  | switch (b : Option Str) (c : Str)
def stayN (xs S : List Str) : Nat := (xs.filter fun c => decide (c ∈ S)).length
abbrev ext0 (xs S : List Str) (es : List Ev) : List Int := extL S ((xs.length : Int) - stayN xs S) es
def lo0 (p : Nat × Nat) : Option Nat := if p.2 = 0 then none else some p.1
def carsOk (xs : List Str) (es : List Ev) (F : List Str) : Bool := decide ((F.length : Int) = endI xs.length es) && F.all fun c => decide (c ∈ xs ++ arrs es)
def swC (xs : List Str) (es : List Ev) (F : List Str) : Option (Option Str × Str) :=
  swF (depL 0 es) (ext0 xs F es) (brg xs F).1 ((xs.length : Int) - (brg xs F).2) none 0 (arrSt F (lo0 (brg F xs)) 1 es)
def why (xs : List Str) (es : List Ev) (F : List Str) : Why :=
  if carsOk xs es F = false then .cars else if hasBlk xs F = false then .block else
    match fpk (F.map fun c => (xs ++ arrs es).idxOf c) with
    | some i => .order i
    | none => match fneg (ext0 xs F es) with
      | some t => .moment t
      | none => match swC xs es F with
        | some (b, c) => .switch b c
        | none => .ok
/-! ### histories -/
inductive Mv : List Str → Ev → List Str → Prop
  | inL (c : Str) (L : List Str) : Mv L (.inn c) (c :: L)
  | inR (c : Str) (L : List Str) : Mv L (.inn c) (L ++ [c])
  | outL (x : Str) (L : List Str) : Mv (x :: L) .out L
  | outR (x : Str) (L : List Str) : Mv (L ++ [x]) .out L
inductive Run : List Str → List Ev → List Str → Prop
  | nil (L : List Str) : Run L [] L
  | cons {L L1 F : List Str} {e : Ev} {r : List Ev} : Mv L e L1 → Run L1 r F → Run L (e :: r) F
theorem Run.snoc {L F F' : List Str} {es : List Ev} {e : Ev} (h : Run L es F) (m : Mv F e F') : Run L (es ++ [e]) F' := by
  induction h with
  | nil L => exact .cons m (.nil _)
  | cons m1 _ ih => exact .cons m1 (ih m)
theorem Mv.rev {L L1 : List Str} {e : Ev} (m : Mv L e L1) : Mv L.reverse e L1.reverse := by
  cases m with
  | inL c L => rw [List.reverse_cons]; exact .inR c _
  | inR c L => rw [List.reverse_append]; exact .inL c _
  | outL x L => rw [List.reverse_cons]; exact .outR x _
  | outR x L => rw [List.reverse_append]; exact .outL x _
theorem Run.rev {L F : List Str} {es : List Ev} (h : Run L es F) : Run L.reverse es F.reverse := by
  induction h with
  | nil L => exact .nil _
  | cons m _ ih => exact .cons m.rev ih
theorem Mv.len {L L1 : List Str} {e : Ev} (m : Mv L e L1) : (L1.length : Int) = endI L.length [e] := by
  cases m with
  | inL c L => show ((L.length + 1 : Nat) : Int) = (L.length : Int) + 1; omega
  | inR c L => rw [List.length_append]; show ((L.length + 1 : Nat) : Int) = (L.length : Int) + 1; omega
  | outL x L => show (L1.length : Int) = ((L1.length + 1 : Nat) : Int) - 1; omega
  | outR x L => rw [List.length_append]; show (L1.length : Int) = ((L1.length + 1 : Nat) : Int) - 1; omega
theorem endI_cons (n : Int) (e : Ev) (r : List Ev) : endI n (e :: r) = endI (endI n [e]) r := by cases e <;> rfl
theorem endI_app : ∀ (n : Int) (a b : List Ev), endI n (a ++ b) = endI (endI n a) b
  | _, [], _ => rfl
  | n, e :: r, b => by
    rw [List.cons_append, endI_cons, endI_app, ← endI_cons]
theorem Run.len {L F : List Str} {es : List Ev} (h : Run L es F) : (F.length : Int) = endI L.length es := by
  induction h with
  | nil L => rfl
  | cons m _ ih => rw [ih, m.len, ← endI_cons]
theorem Mv.mem {L L1 : List Str} {e : Ev} (m : Mv L e L1) : ∀ x ∈ L1, x ∈ L ++ arrs [e] := by
  intro x hx
  cases m with
  | inL c L => exact List.mem_append.mpr ((List.mem_cons.mp hx).elim (fun e => .inr (by rw [e]; exact List.mem_cons_self)) .inl)
  | inR c L => exact hx
  | outL y L => exact List.mem_append_left _ (List.mem_cons_of_mem _ hx)
  | outR y L => exact List.mem_append_left _ (List.mem_append_left _ hx)
theorem arrs_cons (e : Ev) (r : List Ev) : arrs (e :: r) = arrs [e] ++ arrs r := by rw [← arrs_app]; rfl
theorem Run.mem {L F : List Str} {es : List Ev} (h : Run L es F) : ∀ x ∈ F, x ∈ L ++ arrs es := by
  induction h with
  | nil L => exact fun x hx => List.mem_append_left _ hx
  | cons m _ ih =>
    intro x hx
    rw [arrs_cons, ← List.append_assoc]
    rcases List.mem_append.mp (ih x hx) with h | h
    · exact List.mem_append_left _ (m.mem x h)
    · exact List.mem_append_right _ h
theorem Mv.nodup {L L1 : List Str} {e : Ev} {r : List Str} (m : Mv L e L1) (h : (L ++ (arrs [e] ++ r)).Nodup) : (L1 ++ r).Nodup := by
  cases m with
  | inL c L =>
    have : (L ++ ([c] ++ r)).Perm (c :: L ++ r) := by
      show (L ++ c :: r).Perm _
      exact List.perm_middle
    exact this.nodup_iff.mp h
  | inR c L => rw [List.append_assoc]; exact h
  | outL x L => exact (List.nodup_cons.mp h).2
  | outR x L =>
    refine h.sublist ?_
    rw [List.append_assoc]
    exact (List.Sublist.refl _).append (List.sublist_append_right _ _)
theorem Run.nodup {L F : List Str} {es : List Ev} (h : Run L es F) (hn : (L ++ arrs es).Nodup) : F.Nodup := by
  induction h with
  | nil L => exact (List.nodup_append.mp hn).1
  | cons m _ ih =>
    rw [arrs_cons] at hn
    exact ih (m.nodup hn)
/-- how a lane is made of leavers A, stayers B, leavers C; D and E are still to arrive on the left and the right -/
inductive Spl (F : List Str) : List Str → List Str → List Str → List Str → List Str → List Ev → Prop
  | nil : Spl F [] F [] [] [] []
  | mid {A C A' C' D E : List Str} {r : List Ev} : A' ++ C' = A ++ C → Spl F A [] C D E r → Spl F A' [] C' D E r
  | stL {B C D E : List Str} {r : List Ev} (c : Str) : Spl F [] (c :: B) C D E r → Spl F [] B C (D ++ [c]) E (.inn c :: r)
  | stR {A B D E : List Str} {r : List Ev} (c : Str) : Spl F A (B ++ [c]) [] D E r → Spl F A B [] D (c :: E) (.inn c :: r)
  | lvL {A B C D E : List Str} {r : List Ev} (c : Str) : c ∉ F → Spl F (c :: A) B C D E r → Spl F A B C D E (.inn c :: r)
  | lvR {A B C D E : List Str} {r : List Ev} (c : Str) : c ∉ F → Spl F A B (C ++ [c]) D E r → Spl F A B C D E (.inn c :: r)
  | outL {A B C D E : List Str} {r : List Ev} (x : Str) : Spl F A B C D E r → Spl F (x :: A) B C D E (.out :: r)
  | outR {A B C D E : List Str} {r : List Ev} (x : Str) : Spl F A B C D E r → Spl F A B (C ++ [x]) D E (.out :: r)
theorem Spl.eqF {F A B C D E : List Str} {r : List Ev} (h : Spl F A B C D E r) : F = D ++ B ++ E := by
  induction h with
  | nil => rw [List.append_nil]; rfl
  | mid _ _ ih => exact ih
  | stL c _ ih => rw [ih]; simp
  | stR c _ ih => rw [ih]; simp
  | lvL c _ _ ih => exact ih
  | lvR c _ _ ih => exact ih
  | outL x _ ih => exact ih
  | outR x _ ih => exact ih
theorem Spl.late {F A B C D E : List Str} {r : List Ev} (h : Spl F A B C D E r) : ∀ x ∈ D ++ E, x ∈ arrs r := by
  induction h with
  | nil => exact fun x hx => hx
  | mid _ _ ih => exact ih
  | stL c _ ih =>
    intro x hx
    rw [List.append_assoc] at hx
    rcases List.mem_append.mp hx with h | h
    · exact List.mem_cons_of_mem _ (ih x (List.mem_append_left _ h))
    · rcases List.mem_cons.mp h with e | h
      · rw [e]; exact List.mem_cons_self
      · exact List.mem_cons_of_mem _ (ih x (List.mem_append_right _ h))
  | stR c _ ih =>
    intro x hx
    rcases List.mem_append.mp hx with h | h
    · exact List.mem_cons_of_mem _ (ih x (List.mem_append_left _ h))
    · rcases List.mem_cons.mp h with e | h
      · rw [e]; exact List.mem_cons_self
      · exact List.mem_cons_of_mem _ (ih x (List.mem_append_right _ h))
  | lvL c _ _ ih => exact fun x hx => List.mem_cons_of_mem _ (ih x hx)
  | lvR c _ _ ih => exact fun x hx => List.mem_cons_of_mem _ (ih x hx)
  | outL x _ ih => exact ih
  | outR x _ ih => exact ih
theorem split {L F : List Str} {es : List Ev} (h : Run L es F) : (L ++ arrs es).Nodup → ∃ A B C D E, L = A ++ B ++ C ∧ Spl F A B C D E es ∧ ∀ x ∈ A ++ C, x ∉ F := by
  induction h with
  | nil L => exact fun _ => ⟨[], L, [], [], [], by simp, .nil, fun x hx => by cases hx⟩
  | @cons L L1 F e r m hr ih =>
    intro hn
    have hn0 := hn
    rw [arrs_cons] at hn
    obtain ⟨A, B, C, D, E, hL, hS, hA⟩ := ih (m.nodup hn)
    cases m with
    | inL c L =>
      match A, B, hL, hS, hA with
      | a :: A, B, hL, hS, hA =>
        have hL : c :: L = a :: (A ++ B ++ C) := hL
        obtain ⟨rfl, rfl⟩ := List.cons.inj hL
        exact ⟨A, B, C, D, E, rfl, .lvL c (hA c List.mem_cons_self) hS, fun x hx => hA x (List.mem_cons_of_mem _ hx)⟩
      | [], b :: B, hL, hS, hA =>
        have hL : c :: L = b :: (B ++ C) := hL
        obtain ⟨rfl, rfl⟩ := List.cons.inj hL
        exact ⟨[], B, C, D ++ [c], E, rfl, .stL c hS, hA⟩
      | [], [], hL, hS, hA =>
        have hL : c :: L = C := hL
        subst hL
        exact ⟨L, [], [], D, E, by simp, .lvL c (hA c List.mem_cons_self) (.mid (by simp) hS), fun x hx => hA x (List.mem_cons_of_mem _ (by simpa using hx))⟩
    | inR c L =>
      rcases List.eq_nil_or_concat C with rfl | ⟨C, a, rfl⟩
      · rcases List.eq_nil_or_concat B with rfl | ⟨B, b, rfl⟩
        · have hL : L ++ [c] = A := by simpa using hL
          subst hL
          exact ⟨[], [], L, D, E, by simp, .lvR c (hA c (by simp)) (.mid (by simp) hS), fun x hx => hA x (by simp at hx; simp [hx])⟩
        · have hL : L ++ [c] = (A ++ B) ++ [b] := by simpa [List.append_assoc] using hL
          obtain ⟨rfl, e⟩ := List.append_inj' hL rfl
          obtain rfl : c = b := by simpa using e
          refine ⟨A, B, [], D, c :: E, by simp, .stR c (by simpa using hS), hA⟩
      · have hL : L ++ [c] = (A ++ B ++ C) ++ [a] := by simpa [List.append_assoc] using hL
        obtain ⟨rfl, e⟩ := List.append_inj' hL rfl
        obtain rfl : c = a := by simpa using e
        exact ⟨A, B, C, D, E, rfl, .lvR c (hA c (by simp)) (by simpa using hS), fun x hx => hA x (by simp at hx ⊢; exact hx.elim .inl fun h => .inr (.inl h))⟩
    | outL x L =>
      have hx : x ∉ F := fun hx => by
        rcases List.mem_append.mp (hr.mem x hx) with h | h
        · have := (List.nodup_cons.mp hn).1
          exact this (List.mem_append_left _ h)
        · have := (List.nodup_cons.mp hn).1
          exact this (List.mem_append_right _ h)
      subst hL
      refine ⟨x :: A, B, C, D, E, rfl, .outL x hS, fun y hy => ?_⟩
      rcases List.mem_cons.mp hy with e | h
      · rw [e]; exact hx
      · exact hA y h
    | outR x L =>
      have hx : x ∉ F := fun hx => by
        have hd := (List.nodup_append.mp hn).2.2
        have h1 := (List.nodup_append.mp (List.nodup_append.mp hn).1).2.2
        rcases List.mem_append.mp (hr.mem x hx) with h | h
        · exact h1 x h x List.mem_cons_self rfl
        · exact hd x (List.mem_append_right _ List.mem_cons_self) x h rfl
      subst hL
      refine ⟨A, B, C ++ [x], D, E, by simp, .outR x hS, fun y hy => ?_⟩
      rw [← List.append_assoc] at hy
      rcases List.mem_append.mp hy with h | h
      · exact hA y h
      · rw [List.mem_singleton.mp h]; exact hx
end Ln


set_option Elab.async false
set_option linter.all false
set_option maxRecDepth 100000
set_option maxHeartbeats 4000000
namespace Ln
open PySem
theorem idx_mid {P S : List Str} {c : Str} (h : (P ++ c :: S).Nodup) : (P ++ c :: S).idxOf c = P.length := by
  have hc : c ∉ P := fun z => (List.nodup_append.mp h).2.2 c z c List.mem_cons_self rfl
  rw [List.idxOf_append, if_neg hc, List.idxOf_cons_self]
  omega
/-- who arrives later has the greater number -/
theorem Spl.asc {F A B C D E : List Str} {r : List Ev} (h : Spl F A B C D E r) : ∀ (P : List Str) (kn : List Str), kn = P ++ arrs r → kn.Nodup →
    D.Pairwise (fun a b => kn.idxOf b < kn.idxOf a) ∧ E.Pairwise (fun a b => kn.idxOf a < kn.idxOf b) ∧ ∀ d ∈ D ++ E, P.length ≤ kn.idxOf d := by
  induction h with
  | nil => exact fun _ _ _ _ => ⟨.nil, .nil, fun d hd => by cases hd⟩
  | mid _ _ ih => exact ih
  | @stL B C D E r c _ ih =>
    intro P kn hk hn
    have hk2 : kn = (P ++ [c]) ++ arrs r := by rw [hk]; simp [arrs]
    obtain ⟨h1, h2, h3⟩ := ih (P ++ [c]) kn hk2 hn
    have hc : kn.idxOf c = P.length := by
      have hk' : kn = P ++ c :: arrs r := hk
      rw [hk'] at hn ⊢
      exact idx_mid hn
    rw [List.length_append] at h3
    refine ⟨?_, h2, fun d hd => ?_⟩
    · refine List.pairwise_append.mpr ⟨h1, List.pairwise_singleton _ _, fun a ha b hb => ?_⟩
      rw [List.mem_singleton.mp hb, hc]
      exact h3 a (List.mem_append_left _ ha)
    · have : d = c ∨ d ∈ D ++ E := by simp at hd ⊢; rcases hd with h | h | h <;> simp [h]
      rcases this with e | h
      · rw [e, hc]; exact Nat.le_refl _
      · exact Nat.le_of_succ_le (h3 d h)
  | @stR A B D E r c _ ih =>
    intro P kn hk hn
    have hk2 : kn = (P ++ [c]) ++ arrs r := by rw [hk]; simp [arrs]
    obtain ⟨h1, h2, h3⟩ := ih (P ++ [c]) kn hk2 hn
    have hc : kn.idxOf c = P.length := by
      have hk' : kn = P ++ c :: arrs r := hk
      rw [hk'] at hn ⊢
      exact idx_mid hn
    rw [List.length_append] at h3
    refine ⟨h1, ?_, fun d hd => ?_⟩
    · refine List.pairwise_cons.mpr ⟨fun a ha => ?_, h2⟩
      rw [hc]
      exact h3 a (List.mem_append_right _ ha)
    · have : d = c ∨ d ∈ D ++ E := by simp at hd ⊢; rcases hd with h | h | h <;> simp [h]
      rcases this with e | h
      · rw [e, hc]; exact Nat.le_refl _
      · exact Nat.le_of_succ_le (h3 d h)
  | lvL c _ _ ih =>
    intro P kn hk hn
    obtain ⟨h1, h2, h3⟩ := ih (P ++ [c]) kn (by rw [hk]; simp [arrs]) hn
    rw [List.length_append] at h3
    exact ⟨h1, h2, fun d hd => Nat.le_of_succ_le (h3 d hd)⟩
  | lvR c _ _ ih =>
    intro P kn hk hn
    obtain ⟨h1, h2, h3⟩ := ih (P ++ [c]) kn (by rw [hk]; simp [arrs]) hn
    rw [List.length_append] at h3
    exact ⟨h1, h2, fun d hd => Nat.le_of_succ_le (h3 d hd)⟩
  | outL x _ ih => exact ih
  | outR x _ ih => exact ih
theorem fpk_valley {d u : List Nat} (hd : d.Pairwise (fun a b => b < a)) (hu : u.Pairwise (fun a b => a < b)) : fpk (d ++ u) = none := by
  unfold fpk
  rw [List.find?_eq_none]
  intro i hi
  rw [List.mem_range'_1] at hi
  obtain ⟨h1, h2⟩ := hi
  unfold isPk
  intro z
  rw [Bool.and_eq_true] at z
  have z1 := of_decide_eq_true z.1
  have z2 := of_decide_eq_true z.2
  have hl : i + 1 < (d ++ u).length := by omega
  rw [List.getD_eq_getElem?_getD, List.getD_eq_getElem?_getD, List.getElem?_eq_getElem (show i - 1 < (d ++ u).length by omega), List.getElem?_eq_getElem (show i < (d ++ u).length by omega)] at z1
  rw [List.getD_eq_getElem?_getD, List.getD_eq_getElem?_getD, List.getElem?_eq_getElem hl, List.getElem?_eq_getElem (show i < (d ++ u).length by omega)] at z2
  simp only [Option.getD_some] at z1 z2
  rw [List.length_append] at hl
  by_cases q : i < d.length
  · rw [List.getElem_append_left (show i - 1 < d.length by omega), List.getElem_append_left q] at z1
    have := List.pairwise_iff_getElem.mp hd (i - 1) i (by omega) q (by omega)
    omega
  · rw [List.getElem_append_right (show d.length ≤ i by omega), List.getElem_append_right (show d.length ≤ i + 1 by omega)] at z2
    have := List.pairwise_iff_getElem.mp hu (i - d.length) (i + 1 - d.length) (by omega) (by omega) (by omega)
    omega
theorem pw_map {α : Type} {R : α → α → Prop} {S : Nat → Nat → Prop} {f : α → Nat} {l : List α} (h : l.Pairwise R) (g : ∀ a b, R a b → S (f a) (f b)) : (l.map f).Pairwise S := List.pairwise_map.mpr (h.imp fun {a b} q => g a b q)
/-- the slices of the first lane ascend -/
theorem mid_asc {A B C R : List Str} (hn : (A ++ B ++ C ++ R).Nodup) : B.Pairwise (fun a b => (A ++ B ++ C ++ R).idxOf a < (A ++ B ++ C ++ R).idxOf b) ∧ ∀ b ∈ B, (A ++ B ++ C ++ R).idxOf b < (A ++ B ++ C).length := by
  have key : ∀ (i : Nat) (h : i < B.length), (A ++ B ++ C ++ R).idxOf B[i] = A.length + i := fun i h => by
    have h2 : A.length + i < (A ++ B ++ C ++ R).length := by simp; omega
    have e : (A ++ B ++ C ++ R)[A.length + i]'h2 = B[i] := by
      simp [List.getElem_append, h]
    rw [← e]
    exact hn.idxOf_getElem _ h2
  refine ⟨List.pairwise_iff_getElem.mpr fun i j hi hj hij => ?_, fun b hb => ?_⟩
  · rw [key i hi, key j hj]
    omega
  · obtain ⟨i, hi, rfl⟩ := List.mem_iff_getElem.mp hb
    rw [key i hi]
    simp
    omega
theorem Spl.fpk {F A B C D E : List Str} {es : List Ev} (h : Spl F A B C D E es) (hn : (A ++ B ++ C ++ arrs es).Nodup) : Ln.fpk (F.map fun c => (A ++ B ++ C ++ arrs es).idxOf c) = none := by
  obtain ⟨h1, h2, h3⟩ := h.asc (A ++ B ++ C) _ rfl hn
  obtain ⟨h4, h5⟩ := mid_asc hn
  generalize hkn : A ++ B ++ C ++ arrs es = kn at *
  rw [h.eqF, List.append_assoc, List.map_append]
  refine fpk_valley (pw_map h1 fun _ _ q => q) (pw_map (R := fun a b => kn.idxOf a < kn.idxOf b) ?_ fun _ _ q => q)
  exact List.pairwise_append.mpr ⟨h4, h2, fun a ha b hb => Nat.lt_of_lt_of_le (h5 a ha) (h3 b (List.mem_append_right _ hb))⟩
/-! ### moments -/
theorem Spl.ext {F A B C D E : List Str} {r : List Ev} (h : Spl F A B C D E r) : ∀ y ∈ extL F ((A.length + C.length : Nat) : Int) r, 0 ≤ y := by
  induction h with
  | nil => intro y hy; rw [List.mem_singleton.mp hy]; omega
  | @mid A C A' C' D E r e _ ih =>
    have : A'.length + C'.length = A.length + C.length := by rw [← List.length_append, e, List.length_append]
    rw [this]
    exact ih
  | @stL B C D E r c hS ih =>
    have hc : c ∈ F := by rw [hS.eqF]; simp
    intro y hy
    have hy : y ∈ ((([] : List Str).length + C.length : Nat) : Int) :: extL F (if c ∈ F then ((([] : List Str).length + C.length : Nat) : Int) else _) r := hy
    rw [if_pos hc] at hy
    rcases List.mem_cons.mp hy with e | e
    · rw [e]; omega
    · exact ih y e
  | @stR A B D E r c hS ih =>
    have hc : c ∈ F := by rw [hS.eqF]; simp
    intro y hy
    have hy : y ∈ ((A.length + ([] : List Str).length : Nat) : Int) :: extL F (if c ∈ F then ((A.length + ([] : List Str).length : Nat) : Int) else _) r := hy
    rw [if_pos hc] at hy
    rcases List.mem_cons.mp hy with e | e
    · rw [e]; omega
    · exact ih y e
  | @lvL A B C D E r c hc _ ih =>
    intro y hy
    have hy : y ∈ ((A.length + C.length : Nat) : Int) :: extL F (if c ∈ F then _ else ((A.length + C.length : Nat) : Int) + 1) r := hy
    rw [if_neg hc] at hy
    rcases List.mem_cons.mp hy with e | e
    · rw [e]; omega
    · refine ih y ?_
      rw [List.length_cons, show ((A.length + 1 + C.length : Nat) : Int) = ((A.length + C.length : Nat) : Int) + 1 by omega]
      exact e
  | @lvR A B C D E r c hc _ ih =>
    intro y hy
    have hy : y ∈ ((A.length + C.length : Nat) : Int) :: extL F (if c ∈ F then _ else ((A.length + C.length : Nat) : Int) + 1) r := hy
    rw [if_neg hc] at hy
    rcases List.mem_cons.mp hy with e | e
    · rw [e]; omega
    · refine ih y ?_
      rw [List.length_append, List.length_singleton, show ((A.length + (C.length + 1) : Nat) : Int) = ((A.length + C.length : Nat) : Int) + 1 by omega]
      exact e
  | @outL A B C D E r x _ ih =>
    intro y hy
    rcases List.mem_cons.mp hy with e | e
    · rw [e]; omega
    · refine ih y ?_
      rw [List.length_cons, show (((A.length + 1 + C.length : Nat) : Int) - 1) = ((A.length + C.length : Nat) : Int) by omega] at e
      exact e
  | @outR A B C D E r x _ ih =>
    intro y hy
    rcases List.mem_cons.mp hy with e | e
    · rw [e]; omega
    · refine ih y ?_
      rw [List.length_append, List.length_singleton, show (((A.length + (C.length + 1) : Nat) : Int) - 1) = ((A.length + C.length : Nat) : Int) by omega] at e
      exact e
/-! ### blocks -/
theorem plcs_none {S : List Str} : ∀ {xs : List Str} {i : Nat}, (∀ x ∈ xs, x ∉ S) → plcs S i xs = []
  | [], _, _ => rfl
  | c :: r, i, h => by
    show (if c ∈ S then _ else plcs S (i + 1) r) = []
    rw [if_neg (h c List.mem_cons_self)]
    exact plcs_none fun x hx => h x (List.mem_cons_of_mem _ hx)
theorem plcs_app {S : List Str} : ∀ (xs ys : List Str) (i : Nat), plcs S i (xs ++ ys) = plcs S i xs ++ plcs S (i + xs.length) ys
  | [], _, _ => rfl
  | c :: r, ys, i => by
    show (if c ∈ S then i :: plcs S (i + 1) (r ++ ys) else plcs S (i + 1) (r ++ ys)) = (if c ∈ S then i :: plcs S (i + 1) r else plcs S (i + 1) r) ++ _
    rw [plcs_app r ys (i + 1), List.length_cons, show i + (r.length + 1) = i + 1 + r.length by omega]
    split <;> rfl
theorem plcs_all {S : List Str} : ∀ {xs : List Str} {i : Nat}, (∀ x ∈ xs, x ∈ S) → plcs S i xs = List.range' i xs.length
  | [], _, _ => rfl
  | c :: r, i, h => by
    show (if c ∈ S then i :: plcs S (i + 1) r else _) = _
    rw [if_pos (h c List.mem_cons_self), plcs_all fun x hx => h x (List.mem_cons_of_mem _ hx)]
    rfl
theorem brg_mid {A B C S : List Str} (hA : ∀ x ∈ A, x ∉ S) (hB : ∀ x ∈ B, x ∈ S) (hC : ∀ x ∈ C, x ∉ S) : brg (A ++ B ++ C) S = if B = [] then (0, 0) else (A.length, A.length + B.length) := by
  unfold brg
  rw [plcs_app, plcs_app, plcs_none hA, plcs_none hC, plcs_all hB, List.append_nil, List.nil_append, Nat.zero_add]
  cases B with
  | nil => rfl
  | cons b r =>
    rw [if_neg (List.cons_ne_nil b r)]
    have e : ∀ (k n : Nat) (h : k :: List.range' (k + 1) n ≠ []), (k :: List.range' (k + 1) n).getLast h + 1 = k + (n + 1) := fun k n h => by
      have : (k :: List.range' (k + 1) n).getLast? = some (k + n) := by
        show (List.range' k (n + 1)).getLast? = _
        rw [List.range'_1_concat, List.getLast?_concat]
      rw [List.getLast?_eq_some_getLast h] at this
      rw [Option.some.inj this]
      omega
    exact Prod.ext rfl (e A.length r.length _)
theorem cut_mid (A B C : List Str) : cutN (A ++ B ++ C) (A.length, A.length + B.length) = B := by
  unfold cutN
  show ((A ++ B ++ C).take (A.length + B.length)).drop A.length = B
  rw [show A.length + B.length = (A ++ B).length by simp, List.take_left, List.drop_left]
theorem cut_zero (L : List Str) : cutN L (0, 0) = [] := rfl
theorem Spl.blk {F A B C D E : List Str} {es : List Ev} (h : Spl F A B C D E es) (hn : (A ++ B ++ C ++ arrs es).Nodup) (hA : ∀ x ∈ A ++ C, x ∉ F) :
    brg (A ++ B ++ C) F = (if B = [] then (0, 0) else (A.length, A.length + B.length)) ∧ brg F (A ++ B ++ C) = (if B = [] then (0, 0) else (D.length, D.length + B.length)) := by
  have hl : ∀ x ∈ D ++ E, x ∉ A ++ B ++ C := fun x hx z => (List.nodup_append.mp hn).2.2 x z x (h.late x hx) rfl
  constructor
  · refine brg_mid (fun x hx => hA x (List.mem_append_left _ hx)) (fun x hx => ?_) fun x hx => hA x (List.mem_append_right _ hx)
    rw [h.eqF]
    simp [hx]
  · have := brg_mid (A := D) (B := B) (C := E) (S := A ++ B ++ C) (fun x hx => hl x (List.mem_append_left _ hx)) (fun x hx => by simp [hx]) (fun x hx => hl x (List.mem_append_right _ hx))
    rw [← h.eqF] at this
    exact this
/-! ### switches -/
def swG (F : List Str) : Option Nat → Int → Int → Int → Option Str → List Ev → Option (Option Str × Str)
  | _, _, _, _, _, [] => none
  | lo, nL, nR, x, b, .out :: r => swG F lo (nL - 1) (nR - 1) (x - 1) b r
  | lo, nL, nR, x, b, .inn c :: r => if c ∈ F then
      match lo with
      | none => swG F (some (F.idxOf c)) 0 0 x (some c) r
      | some l => if F.idxOf c < l then (if 0 < nL then some (b, c) else swG F (some l) 0 x x (some c) r) else (if 0 < nR then some (b, c) else swG F (some l) x 0 x (some c) r)
    else swG F lo nL nR (x + 1) b r
theorem swF_G {F : List Str} {dep ext : List Int} : ∀ (r : List Ev) (lo : Option Nat) (nL nR : Int) (b : Option Str) (s k : Nat) (d x : Int), dep.drop k = depL d r → ext.drop k = extL F x r →
    swF dep ext nL nR b s (arrSt F lo (k + 1) r) = swG F lo (nL - (d - dep.getD s 0)) (nR - (d - dep.getD s 0)) x b r
  | [], _, _, _, _, _, _, _, _, _, _ => rfl
  | .out :: r, lo, nL, nR, b, s, k, d, x, h1, h2 => by
    have h1' : dep.drop (k + 1) = depL (d + 1) r := by rw [← List.drop_drop, h1]; rfl
    have h2' : ext.drop (k + 1) = extL F (x - 1) r := by rw [← List.drop_drop, h2]; rfl
    show swF dep ext nL nR b s (arrSt F lo (k + 1 + 1) r) = swG F lo _ _ (x - 1) b r
    rw [swF_G r lo nL nR b s (k + 1) (d + 1) (x - 1) h1' h2']
    congr 1 <;> omega
  | .inn c :: r, lo, nL, nR, b, s, k, d, x, h1, h2 => by
    have h1' : dep.drop (k + 1) = depL d r := by rw [← List.drop_drop, h1]; rfl
    have hd : dep.getD (k + 1) 0 = d := by
      have : (dep.drop (k + 1))[0]? = some d := by rw [h1']; cases r with | nil => rfl | cons e r => cases e <;> rfl
      rw [List.getElem?_drop] at this
      rw [List.getD_eq_getElem?_getD, show k + 1 = k + 1 + 0 from rfl, this]
      rfl
    by_cases hc : c ∈ F
    · have h2' : ext.drop (k + 1) = extL F x r := by
        rw [← List.drop_drop, h2]
        show extL F (if c ∈ F then x else x + 1) r = _
        rw [if_pos hc]
      have hx : ext.getD (k + 1) 0 = x := by
        have : (ext.drop (k + 1))[0]? = some x := by rw [h2']; cases r with | nil => rfl | cons e r => cases e <;> rfl
        rw [List.getElem?_drop] at this
        rw [List.getD_eq_getElem?_getD, show k + 1 = k + 1 + 0 from rfl, this]
        rfl
      cases lo with
      | none =>
        show swF dep ext nL nR b s (if c ∈ F then (c, k + 1, none) :: arrSt F (some (F.idxOf c)) (k + 1 + 1) r else _) = (if c ∈ F then swG F (some (F.idxOf c)) 0 0 x (some c) r else _)
        rw [if_pos hc, if_pos hc]
        show (if false = true then _ else swF dep ext 0 0 (some c) (k + 1) (arrSt F (some (F.idxOf c)) (k + 1 + 1) r)) = _
        rw [if_neg Bool.false_ne_true, swF_G r _ 0 0 (some c) (k + 1) (k + 1) d x h1' h2', hd]
        congr 1 <;> omega
      | some l =>
        show swF dep ext nL nR b s (if c ∈ F then (c, k + 1, some (decide (F.idxOf c < l))) :: arrSt F (some l) (k + 1 + 1) r else _) = (if c ∈ F then (if F.idxOf c < l then (if 0 < nL - (d - dep.getD s 0) then some (b, c) else swG F (some l) 0 x x (some c) r) else (if 0 < nR - (d - dep.getD s 0) then some (b, c) else swG F (some l) x 0 x (some c) r)) else _)
        rw [if_pos hc, if_pos hc]
        by_cases hl : F.idxOf c < l
        · rw [decide_eq_true hl, if_pos hl]
          show (if decide (dep.getD (k + 1) 0 - dep.getD s 0 < nL) = true then some (b, c) else swF dep ext 0 (ext.getD (k + 1) 0) (some c) (k + 1) (arrSt F (some l) (k + 1 + 1) r)) = _
          rw [hd, hx]
          by_cases q : d - dep.getD s 0 < nL
          · rw [if_pos (decide_eq_true q), if_pos (by omega)]
          · rw [if_neg (by simpa using q), if_neg (by omega), swF_G r _ 0 x (some c) (k + 1) (k + 1) d x h1' h2', hd]
            congr 1 <;> omega
        · rw [decide_eq_false hl, if_neg hl]
          show (if decide (dep.getD (k + 1) 0 - dep.getD s 0 < nR) = true then some (b, c) else swF dep ext (ext.getD (k + 1) 0) 0 (some c) (k + 1) (arrSt F (some l) (k + 1 + 1) r)) = _
          rw [hd, hx]
          by_cases q : d - dep.getD s 0 < nR
          · rw [if_pos (decide_eq_true q), if_pos (by omega)]
          · rw [if_neg (by simpa using q), if_neg (by omega), swF_G r _ x 0 (some c) (k + 1) (k + 1) d x h1' h2', hd]
            congr 1 <;> omega
    · have h2' : ext.drop (k + 1) = extL F (x + 1) r := by
        rw [← List.drop_drop, h2]
        show extL F (if c ∈ F then x else x + 1) r = _
        rw [if_neg hc]
      have e1 : arrSt F lo (k + 1) (.inn c :: r) = arrSt F lo (k + 1 + 1) r := by
        show (if c ∈ F then _ else _) = _
        rw [if_neg hc]
      have e2 : ∀ n1 n2, swG F lo n1 n2 x b (.inn c :: r) = swG F lo n1 n2 (x + 1) b r := fun n1 n2 => by
        show (if c ∈ F then _ else _) = _
        rw [if_neg hc]
      rw [e1, e2]
      exact swF_G r lo nL nR b s (k + 1) d (x + 1) h1' h2'
/-- what is needed at each end is there -/
def Rdy (A B C D : List Str) (nL nR : Int) : Option Nat → Prop
  | none => B = []
  | some l => B ≠ [] ∧ D.length ≤ l ∧ l ≤ D.length + B.length ∧ nL ≤ A.length ∧ nR ≤ C.length
theorem Spl.sw {F A B C D E : List Str} {r : List Ev} (h : Spl F A B C D E r) (hn : F.Nodup) : ∀ (lo : Option Nat) (nL nR : Int) (b : Option Str), Rdy A B C D nL nR lo → swG F lo nL nR ((A.length + C.length : Nat) : Int) b r = none := by
  induction h with
  | nil => exact fun _ _ _ _ _ => rfl
  | @mid A C A' C' D E r e _ ih =>
    intro lo nL nR b hr
    have : A'.length + C'.length = A.length + C.length := by rw [← List.length_append, e, List.length_append]
    rw [this]
    cases lo with
    | none => exact ih none nL nR b rfl
    | some l => exact absurd rfl hr.1
  | @stL B C D E r c hS ih =>
    intro lo nL nR b hr
    have e : F = D ++ c :: (B ++ E) := by rw [hS.eqF]; simp
    have hc : c ∈ F := by rw [e]; simp
    have hi : F.idxOf c = D.length := by rw [e] at hn ⊢; exact idx_mid hn
    cases lo with
    | none =>
      show (if c ∈ F then swG F (some (F.idxOf c)) 0 0 _ (some c) r else _) = none
      rw [if_pos hc, hi]
      refine ih _ 0 0 (some c) ⟨List.cons_ne_nil _ _, Nat.le_refl _, Nat.le_add_right _ _, by simp, by omega⟩
    | some l =>
      obtain ⟨hB, h1, h2, h3, h4⟩ := hr
      rw [List.length_append, List.length_singleton] at h1 h2
      show (if c ∈ F then (if F.idxOf c < l then (if 0 < nL then some (b, c) else swG F (some l) 0 _ _ (some c) r) else _) else _) = none
      rw [if_pos hc, hi, if_pos (by omega), if_neg (by rw [List.length_nil] at h3; omega)]
      refine ih _ 0 _ (some c) ⟨List.cons_ne_nil _ _, by omega, by rw [List.length_cons]; omega, by simp, by rw [List.length_nil]; omega⟩
  | @stR A B D E r c hS ih =>
    intro lo nL nR b hr
    have e : F = (D ++ B) ++ c :: E := by rw [hS.eqF]; simp
    have hc : c ∈ F := by rw [e]; simp
    have hi : F.idxOf c = D.length + B.length := by
      rw [e] at hn ⊢
      rw [idx_mid hn, List.length_append]
    have hl : (B ++ [c]).length = B.length + 1 := by rw [List.length_append]; rfl
    cases lo with
    | none =>
      show (if c ∈ F then swG F (some (F.idxOf c)) 0 0 _ (some c) r else _) = none
      rw [if_pos hc, hi]
      refine ih _ 0 0 (some c) ⟨by simp, by omega, by omega, by omega, by simp⟩
    | some l =>
      obtain ⟨hB, h1, h2, h3, h4⟩ := hr
      show (if c ∈ F then (if F.idxOf c < l then _ else (if 0 < nR then some (b, c) else swG F (some l) _ 0 _ (some c) r)) else _) = none
      rw [if_pos hc, hi, if_neg (by omega), if_neg (by rw [List.length_nil] at h4; omega)]
      refine ih _ _ 0 (some c) ⟨by simp, by omega, by omega, by rw [List.length_nil]; omega, by simp⟩
  | @lvL A B C D E r c hc _ ih =>
    intro lo nL nR b hr
    show (if c ∈ F then _ else swG F lo nL nR (((A.length + C.length : Nat) : Int) + 1) b r) = none
    rw [if_neg hc, show ((A.length + C.length : Nat) : Int) + 1 = (((c :: A).length + C.length : Nat) : Int) by rw [List.length_cons]; omega]
    refine ih lo nL nR b ?_
    cases lo with
    | none => exact hr
    | some l => exact ⟨hr.1, hr.2.1, hr.2.2.1, by rw [List.length_cons]; have := hr.2.2.2.1; omega, hr.2.2.2.2⟩
  | @lvR A B C D E r c hc _ ih =>
    intro lo nL nR b hr
    show (if c ∈ F then _ else swG F lo nL nR (((A.length + C.length : Nat) : Int) + 1) b r) = none
    rw [if_neg hc, show ((A.length + C.length : Nat) : Int) + 1 = ((A.length + (C ++ [c]).length : Nat) : Int) by rw [List.length_append, List.length_singleton]; omega]
    refine ih lo nL nR b ?_
    cases lo with
    | none => exact hr
    | some l => exact ⟨hr.1, hr.2.1, hr.2.2.1, hr.2.2.2.1, by rw [List.length_append, List.length_singleton]; have := hr.2.2.2.2; omega⟩
  | @outL A B C D E r x _ ih =>
    intro lo nL nR b hr
    show swG F lo (nL - 1) (nR - 1) ((((x :: A).length + C.length : Nat) : Int) - 1) b r = none
    rw [show (((x :: A).length + C.length : Nat) : Int) - 1 = ((A.length + C.length : Nat) : Int) by rw [List.length_cons]; omega]
    refine ih lo _ _ b ?_
    cases lo with
    | none => exact hr
    | some l =>
      obtain ⟨h0, h1, h2, h3, h4⟩ := hr
      rw [List.length_cons] at h3
      exact ⟨h0, h1, h2, by omega, by omega⟩
  | @outR A B C D E r x _ ih =>
    intro lo nL nR b hr
    show swG F lo (nL - 1) (nR - 1) (((A.length + (C ++ [x]).length : Nat) : Int) - 1) b r = none
    rw [show ((A.length + (C ++ [x]).length : Nat) : Int) - 1 = ((A.length + C.length : Nat) : Int) by rw [List.length_append, List.length_singleton]; omega]
    refine ih lo _ _ b ?_
    cases lo with
    | none => exact hr
    | some l =>
      obtain ⟨h0, h1, h2, h3, h4⟩ := hr
      rw [List.length_append, List.length_singleton] at h4
      exact ⟨h0, h1, h2, by omega, by omega⟩
/-! ### a replayed lane -/
theorem filt_mid {A B C S : List Str} (hA : ∀ x ∈ A, x ∉ S) (hB : ∀ x ∈ B, x ∈ S) (hC : ∀ x ∈ C, x ∉ S) : stayN (A ++ B ++ C) S = B.length := by
  unfold stayN
  have e1 : A.filter (fun c => decide (c ∈ S)) = [] := List.filter_eq_nil_iff.mpr fun x hx => by simpa using hA x hx
  have e2 : C.filter (fun c => decide (c ∈ S)) = [] := List.filter_eq_nil_iff.mpr fun x hx => by simpa using hC x hx
  have e3 : B.filter (fun c => decide (c ∈ S)) = B := List.filter_eq_self.mpr fun x hx => by simpa using hB x hx
  rw [List.filter_append, List.filter_append, e1, e2, e3]
  simp
theorem why_run {xs F : List Str} {es : List Ev} (h : Run xs es F) (hn : (xs ++ arrs es).Nodup) : why xs es F = .ok := by
  have hF := h.nodup hn
  have hmem := h.mem
  have hlen := h.len
  obtain ⟨A, B, C, D, E, rfl, hS, hA⟩ := split h hn
  obtain ⟨b1, b2⟩ := hS.blk hn hA
  have hB : ∀ x ∈ B, x ∈ F := fun x hx => by rw [hS.eqF]; simp [hx]
  have hst : stayN (A ++ B ++ C) F = B.length := filt_mid (fun x hx => hA x (List.mem_append_left _ hx)) hB fun x hx => hA x (List.mem_append_right _ hx)
  have hx0 : (((A ++ B ++ C).length : Nat) : Int) - stayN (A ++ B ++ C) F = ((A.length + C.length : Nat) : Int) := by
    rw [hst, List.length_append, List.length_append]
    omega
  unfold why
  rw [if_neg (by
    have : carsOk (A ++ B ++ C) es F = true := by
      unfold carsOk
      rw [Bool.and_eq_true]
      exact ⟨decide_eq_true hlen, List.all_eq_true.mpr fun x hx => decide_eq_true (hmem x hx)⟩
    rw [this]
    decide)]
  rw [if_neg (by
    have : hasBlk (A ++ B ++ C) F = true := by
      unfold hasBlk
      refine decide_eq_true ?_
      rw [b1, b2]
      by_cases q : B = []
      · rw [if_pos q, if_pos q]
        rfl
      · rw [if_neg q, if_neg q, cut_mid]
        have := cut_mid D B E
        rw [← hS.eqF] at this
        exact this.symm
    rw [this]
    decide)]
  rw [hS.fpk hn]
  have hneg : fneg (ext0 (A ++ B ++ C) F es) = none := by
    unfold fneg ext0
    rw [hx0, List.findIdx?_eq_none_iff]
    intro y hy
    have := hS.ext y hy
    exact decide_eq_false (by omega)
  have hsw : swC (A ++ B ++ C) es F = none := by
    unfold swC ext0
    rw [hx0]
    have := swF_G (F := F) (dep := depL 0 es) (ext := extL F ((A.length + C.length : Nat) : Int) es) es (lo0 (brg F (A ++ B ++ C))) (brg (A ++ B ++ C) F).1 ((((A ++ B ++ C).length : Nat) : Int) - (brg (A ++ B ++ C) F).2) none 0 0 0 ((A.length + C.length : Nat) : Int) rfl rfl
    rw [Nat.zero_add] at this
    rw [this]
    have hd0 : (depL 0 es).getD 0 0 = 0 := by cases es with | nil => rfl | cons e r => cases e <;> rfl
    rw [hd0]
    refine hS.sw hF _ _ _ _ ?_
    rw [b1, b2]
    by_cases q : B = []
    · rw [if_pos q, if_pos q]
      exact q
    · rw [if_neg q, if_neg q]
      have hp : 0 < B.length := List.length_pos_iff.mpr q
      unfold lo0
      rw [if_neg (show ¬ D.length + B.length = 0 by omega)]
      refine ⟨q, Nat.le_refl _, Nat.le_add_right _ _, by simp, ?_⟩
      rw [List.length_append, List.length_append]
      show (((A.length + B.length + C.length : Nat) : Int) - ((A.length + B.length : Nat) : Int)) - (0 - 0) ≤ _
      omega
  show (match fneg (ext0 (A ++ B ++ C) F es) with | some t => Why.moment t | none => match swC (A ++ B ++ C) es F with | some (b, c) => .switch b c | none => .ok) = .ok
  rw [hneg, hsw]
theorem why_size {xs F : List Str} {es : List Ev} (h : (F.length : Int) ≠ endI xs.length es) : why xs es F = .cars := by
  unfold why
  rw [if_pos]
  unfold carsOk
  rw [decide_eq_false h]
  rfl
end Ln


set_option Elab.async false
set_option linter.all false
set_option maxRecDepth 100000
set_option maxHeartbeats 4000000
namespace Ln
open PySem PySem.Spec PyProof.Rows L2
/-! ### enumerate of a list or a tuple, from any count -/
/-- a list (true) or a tuple (false) -/
def SqA (K : PySem.W.Frag) (b : Bool) (H : Hp) (a : Addr) (xs : List V) : Prop := match b with
  | true => SqL K H a xs
  | false => SqT K H a xs
def seqA (b : Bool) (h : Heap) (a : Addr) (its : Array Value) : Prop := match b with
  | true => h.IsList a its
  | false => h.IsTuple a its
def itA (b : Bool) (h : Heap) (it a : Addr) (i : Nat) : Prop := match b with
  | true => h.IsListIter it a i
  | false => h.IsTupleIter it a i
theorem draws_A {prog : Program} {w : World} {A : Around} {b : Bool} (hh : A.handled = none) (it a : Addr) (hne : a ≠ it) (items : Array Value) :
    Draws prog w A it [it, a] items.size (fun i v => items[i]? = some v) (fun i h => itA b h it a i ∧ seqA b h a items) := by
  cases b with
  | true => exact Draws.list hh it a hne items
  | false => exact Draws.tuple hh it a hne items
theorem itA_at {b : Bool} {h h' : Heap} {it a : Addr} {i : Nat} (q : itA b h it a i) (k : ∀ o, h.get? it = some o → h'.get? it = some o) : itA b h' it a i := by
  cases b with
  | true => exact Heap.IsListIter.at q k
  | false => exact Heap.IsTupleIter.at q k
theorem itA_obj {b : Bool} {h : Heap} {it a : Addr} {i : Nat} (q : itA b h it a i) : ∃ o, h.get? it = some o ∧ (∀ v, o.data ≠ .cell v) ∧ ∀ ys n, o.data ≠ .seq ys n := by
  cases b with
  | true =>
    obtain ⟨o, ho, hc, hd⟩ := q
    exact ⟨o, ho, fun v z => (by rw [hd] at z; cases z), fun ys n z => (by rw [hd] at z; cases z)⟩
  | false =>
    obtain ⟨o, ho, hc, hd⟩ := q
    exact ⟨o, ho, fun v z => (by rw [hd] at z; cases z), fun ys n z => (by rw [hd] at z; cases z)⟩
theorem seqA_obj {b : Bool} {h : Heap} {a : Addr} {its : Array Value} (q : seqA b h a its) : ∃ o n, h.get? a = some o ∧ o.data = .seq its n := by
  cases b with
  | true =>
    obtain ⟨o, ho, hc, n, hd⟩ := q
    exact ⟨o, n, ho, hd⟩
  | false =>
    obtain ⟨o, ho, hc, n, hd⟩ := q
    exact ⟨o, n, ho, hd⟩
section
variable {X : Cx} {pins : List (Addr × Obj)} {σ : L2.St} {H : Hp} {s : Shared} {a : Addr} {xs ys : List V}
theorem inv_seqA {b : Bool} (I : Inv X pins σ H s) (h : SqA X.K b H a xs) : ∃ its : List Value, Vals xs its ∧ seqA b s.heap a its.toArray := by
  cases b with
  | true =>
    obtain ⟨its, rv, p, _⟩ := I.list h
    exact ⟨its, rv, p.isList⟩
  | false =>
    obtain ⟨its, rv, p, _⟩ := I.tuple h
    exact ⟨its, rv, p⟩
theorem inv_injA {b : Bool} (I : Inv X pins σ H s) (h : SqA X.K b H a xs) (h' : SqA X.K b H a ys) : xs = ys := by
  cases b with
  | true => exact I.list_inj h h'
  | false => exact I.tuple_inj h h'
end
def IteA (K : PySem.W.Frag) (b : Bool) (k0 : Int) (a : Addr) : It :=
  ⟨fun i H => ∃ (xs : List V) (x : V), SqA K b H a xs ∧ xs[i]? = some x, fun i H v H' => ∃ T x, v = .ref T ∧ H T = none ∧ H' = upd H T (.tup [.int (k0 + (i : Nat)), x]) ∧ ∀ xs, SqA K b H a xs → xs[i]? = some x, fun i H => ∃ xs : List V, SqA K b H a xs ∧ xs.length = i⟩
theorem turn_enumA {P : Program} {w : World} {K : PySem.W.Frag} {elts : List Expr} {kk : Nat} {tpos : Pos} {b : Bool} {k0 : Int} (a e it : Addr) :
    Turn P w K (.Tuple elts kk tpos) (IteA K b k0 a) [e, it] e (fun i h => (∃ old, IsEnum h e it (k0 + (i : Nat)) old) ∧ itA b h it a i ∧ e ≠ it) where
  mem := by simp
  obj := fun i h st b hb => by
    obtain ⟨⟨old, he⟩, hi, _⟩ := st
    have e' : b = e ∨ b = it := by simpa using hb
    rcases e' with z | z
    · rw [z]; exact ⟨_, he, fun v q => nomatch q⟩
    · rw [z]
      obtain ⟨o, ho, hd, _⟩ := itA_obj hi
      exact ⟨o, ho, hd⟩
  keep := fun i h h' st k => let ⟨⟨old, he⟩, hi, hne⟩ := st; ⟨⟨old, k e (by simp) _ he⟩, itA_at hi fun o q => k it (by simp) o q, hne⟩
  item := by
    intro X hP hw hK hc i pins s σ H E I hf st hg
    subst hP hw hK
    obtain ⟨⟨old, he⟩, hit, hne⟩ := st
    obtain ⟨xs, x, hq, hx⟩ := hg
    obtain ⟨its, rv, p⟩ := inv_seqA I hq
    obtain ⟨u, hu, ru⟩ := rv.get hx
    obtain ⟨oa, na, ha, hda⟩ := seqA_obj p
    have hea : e ≠ a := fun z => by
      rw [← z, he] at ha
      cases ha
      cases hda
    have hia : it ≠ a := fun z => by
      obtain ⟨o, ho, _, hd⟩ := itA_obj hit
      rw [z, ha] at ho
      cases ho
      exact hd _ _ hda
    have hel : e < s.heap.objs.size := Heap.lt_size he
    have hil : it < s.heap.objs.size := by obtain ⟨_, q, _⟩ := itA_obj hit; exact Heap.lt_size q
    have hlt : i < its.toArray.size := by
      have := (List.getElem?_eq_some_iff.mp hu).1
      simpa using this
    refine wpAny_pyNext_enum_itemC (draws_A (b := b) (show X.A.in1.handled = none from I.ok.hd hc) it a (Ne.symm hia) its.toArray) he ⟨hit, p⟩ hlt hne (by simp [hne, hea]) fun x' h' tk hPx ho hs' hT hsz hk => ?_
    have hx' : x' = u := by
      have : its[i]? = some x' := by simpa using hPx
      rw [hu] at this
      exact (Option.some.inj this).symm
    subst hx'
    refine ⟨_, rfl, wpAny_letOwnedTupleGo_enum (s := { s with heap := h', toks := tk + 1 }) ho fun h'' he' sb => ?_⟩
    have hT2 : h''.get? s.heap.objs.size = some { cls := .type "tuple", data := .seq #[.int (k0 + (i : Nat)) tk, x'] } := (sb.2 _ (Nat.ne_of_gt hel)).trans hT
    have new : ObjOk X.prog X.w (upd H s.heap.objs.size (.tup [.int (k0 + (i : Nat)), x])) h'' s.heap.objs.size (.tup [.int (k0 + (i : Nat)), x]) :=
      ⟨by show 2 ≤ sizeLine; decide, [.int (k0 + (i : Nat)) tk, x'], .cons ⟨_, rfl⟩ (.cons ru .nil), ⟨_, hT2, rfl, _, rfl⟩⟩
    have I1 : Inv X pins σ (upd H s.heap.objs.size (.tup [.int (k0 + (i : Nat)), x])) { s with heap := h'', toks := tk + 1 } :=
      I.turnedNew (ch := [e, it]) (fun b o hb q => (sb.2 b (fun z => hb (by simp [z]))).trans (hk b o (fun z => hb (by simp [z])) (fun z => hb (by simp [z])) q)) hf (Nat.le_refl _) new
    refine ⟨.ref s.heap.objs.size, _, I1, rfl, ⟨_, x, rfl, I.hok.fresh (Nat.le_refl _), rfl, fun ys hy => by rw [inv_injA I hy hq]; exact hx⟩, ⟨⟨x', ?_⟩, itA_at hs'.1 fun o q => (sb.2 it (Ne.symm hne)).trans q, hne⟩, fun b hb => ?_⟩
    · have e1 : k0 + ((i + 1 : Nat) : Int) = k0 + (i : Nat) + 1 := by omega
      rw [e1]; exact he'
    · have hb' : b < s.heap.objs.size := by
        have e' : b = e ∨ b = it := by simpa using hb
        rcases e' with z | z
        · rw [z]; exact hel
        · rw [z]; exact hil
      rw [upd_ne (Nat.ne_of_lt hb')]
      exact (hf b hb).1
  done := by
    intro X hP hw hK hc i pins s σ H E I hf st hg
    subst hP hw hK
    obtain ⟨⟨old, he⟩, hit, hne⟩ := st
    obtain ⟨xs, hq, hx⟩ := hg
    obtain ⟨its, rv, p⟩ := inv_seqA I hq
    obtain ⟨f0, f1, f2, f3, f4, f5⟩ := hf it (by simp)
    have hl := rv.length
    have hia : it ≠ a := fun z => by
      obtain ⟨oa, na, ha, hda⟩ := seqA_obj p
      obtain ⟨o, ho, _, hd⟩ := itA_obj hit
      rw [z, ha] at ho
      cases ho
      exact hd _ _ hda
    have hn : its.toArray.size = i := by simp; omega
    exact wpAny_pyNext_enum_endD (draws_A (b := b) (show X.A.in1.handled = none from I.ok.hd hc) it a (Ne.symm hia) its.toArray) he (by rw [hn]; exact ⟨hit, p⟩) fun h' eb => ⟨rfl, I.turned (t' := s.toks) (fun b o hb q => eb b o hb q) f0 f1 f3 f4 f5⟩
  self := fun A i s Q E st h => let ⟨⟨_, he⟩, _⟩ := st; wpAny_pyIter_enum he h
def beginO (b : Bool) (a : Addr) : Obj := match b with
  | true => { cls := .type "list_iterator", data := .fields #[.ref a, .int 0 0] }
  | false => { cls := .type "tuple_iterator", data := .fields #[.ref a, .int 0 0] }
theorem begins_A (b : Bool) (a : Addr) (its : Array Value) : Begins (.ref a) (beginO b a) fun h => seqA b h a its := by
  cases b with
  | true => exact begins_list a its
  | false => exact begins_tuple a its
theorem itA_begin {b : Bool} {h : Heap} {it a : Addr} (q : h.get? it = some (beginO b a)) : itA b h it a 0 := by
  cases b with
  | true => exact ⟨_, q, rfl, rfl⟩
  | false => exact ⟨_, q, rfl, rfl⟩
set_option maxHeartbeats 8000000 in
theorem meets_enumerate_newB1 {v : Value} {o : Obj} {H : Heap → Prop} (B : Begins v o H) :
    Meets (Builtin.«enumerate.__new__» ⟨[.type "enumerate", v], []⟩) (fun _ R s => H s.heap ∧
      R (.ok (.ret (.ref (s.heap.push o).objs.size))) { s with heap := (s.heap.push o).push { cls := .type "enumerate", data := .fields #[.none, .bool false, .ref s.heap.objs.size, rawInt 0, .none, .none] } }) :=
  .of_wp fun prog w A R s h => by
    obtain ⟨hp, g, d, tk, os⟩ := s; obtain ⟨h1, h⟩ := h
    have hsub := sub_enumerate
    have q1 : ∀ {A' : Around} {E : Value → Shared → Prop} {Q : Value → Shared → Prop}, Q (.ref hp.objs.size) ⟨hp.push o, g, d, tk, os⟩ → wpAny (model prog w) A' (pyIter v) Q E ⟨hp, g, d, tk, os⟩ :=
      fun q => B.iter prog w _ _ ⟨hp, g, d, tk, os⟩ _ h1 q
    wp_walk using q1
    refine wpAny_stack_any fun st => wpAny_pure ?_
    split
    · rename_i c _ _ _ _ _
      cases (c == Value.type "enumerate")
      · wp_walk using q1
        exact ⟨_, rfl, h⟩
      · wp_walk using q1
        exact ⟨_, rfl, h⟩
    · wp_walk using q1
      exact ⟨_, rfl, h⟩
section
variable {prog : Program} {w : World} {A : Around} {E : Value → Shared → Prop} {s : Shared}
theorem enum_begins1 {v : Value} {o : Obj} {H : Heap → Prop} {Q : Value → Shared → Prop} (B : Begins v o H) (h1 : H s.heap)
    (h : ∀ h', IsEnum h' (s.heap.objs.size + 1) s.heap.objs.size 0 .none → h'.get? s.heap.objs.size = some o → h'.objs.size = s.heap.objs.size + 2 →
      (∀ b o, s.heap.get? b = some o → h'.get? b = some o) → Q (.ref (s.heap.objs.size + 1)) { s with heap := h' }) :
    wpAny (model prog w) A (call (.type "enumerate") [v]) Q E s := by
  refine callType_new F.called_enumerate (by decide) (F.typeCall_enumerate_1 _) (F.newCall_enumerate_1 _) (fun obj => F.args_object_init_2 obj _) F.entry_enumerate_new
    (meets_enumerate_newB1 B) ⟨h1, ?_⟩
  have hz : (s.heap.push o).objs.size = s.heap.objs.size + 1 := Heap.size_push ..
  show _ ∧ _
  rw [hz]
  have he : IsEnum ((s.heap.push o).push { cls := .type "enumerate", data := .fields #[.none, .bool false, .ref s.heap.objs.size, rawInt 0, .none, .none] }) (s.heap.objs.size + 1) s.heap.objs.size 0 .none := by
    have := Heap.get?_push_size (s.heap.push o) (o := { cls := .type "enumerate", data := .fields #[.none, .bool false, .ref s.heap.objs.size, rawInt 0, .none, .none] }) rfl
    rw [hz] at this; exact this
  refine ⟨⟨_, he, rfl⟩, h _ he (Heap.get?_push_of_some _ (Heap.get?_push_size _ B.free)) (by rw [Heap.size_push, hz]) fun b o x => Heap.get?_push_of_some _ (Heap.get?_push_of_some _ x)⟩
end
section
variable {X : Cx}
def iEnumA (K : PySem.W.Frag) (b : Bool) (k0 : Int) (q : List V → Addr → Prop) (ta : TA) : TI := fun σ H R => ta σ H fun vs H1 => ∃ a xs, q vs a ∧ SqA K b H1 a xs ∧ R (IteA K b k0 a) H1
/-- enumerate(a) -/
theorem pi_enumA (b : Bool) {e : Expr} {ta : TA} {p pos tpos : Pos} {elts : List Expr} {kk : Nat} (hg : Gl X "enumerate") (hm : X.mg "enumerate" = none) (ha : PA X [e] ta) (hs : starEach [e] X.env = [(false, eval e X.env)] := by rfl) :
    PI X (.Tuple elts kk tpos) (.Call (.Name "enumerate" p) [e] [] pos) (iEnumA X.K b 0 (fun vs a => vs = [.ref a]) ta) := by
  refine ⟨fun pins s σ H R I h => ?_⟩
  refine Call_ (ld_blt I hg hm boot_enumerate (PyProof.Rows.callWith_type1 (thn (ha.run pos pins s σ H _ I h) fun us s1 ⟨vs, H1, I1, r1, q1⟩ => ?_) hs rfl))
  obtain ⟨a, xs, ex, hq, q⟩ := q1
  subst ex
  cases r1 with
  | cons r rr =>
    cases rr
    cases r
    obtain ⟨its, rv, p'⟩ := inv_seqA I1 hq
    refine enum_begins1 (begins_A b a its.toArray) p' fun h' he hit hsz hk => wpAny_pyIter_enum he ?_
    have I2 : Inv X pins σ H1 { s1 with heap := h' } := I1.kept (t' := s1.toks) hk
    refine ⟨s1.heap.objs.size + 1, [s1.heap.objs.size + 1, s1.heap.objs.size], _, _, H1, rfl, I2, turn_enumA (b := b) (k0 := 0) a (s1.heap.objs.size + 1) s1.heap.objs.size, ⟨⟨.none, he⟩, itA_begin hit, Nat.succ_ne_self _⟩, fun b hb => ?_, q⟩
    have e' : b = s1.heap.objs.size + 1 ∨ b = s1.heap.objs.size := by simpa using hb
    have hle : s1.heap.objs.size ≤ b := by
      rcases e' with z | z
      · rw [z]; exact Nat.le_add_right _ _
      · rw [z]; exact Nat.le_refl _
    exact I1.fpOk hle (I1.hok.fresh hle)
/-- enumerate(a, k) -/
theorem pi_enumF (b : Bool) (k0 : Int) (hk0 : -(2 ^ 63) ≤ k0) (hk1 : k0 < 2 ^ 63) {e e2 : Expr} {ta : TA} {p pos tpos : Pos} {elts : List Expr} {kk : Nat} (hg : Gl X "enumerate") (hm : X.mg "enumerate" = none) (ha : PA X [e, e2] ta)
    (hs : starEach [e, e2] X.env = (false, eval e X.env) :: starEach [e2] X.env := by rfl) (hpl : (backTo pos (starEach [e2] X.env)).any (·.1) = false := by rfl) :
    PI X (.Tuple elts kk tpos) (.Call (.Name "enumerate" p) [e, e2] [] pos) (iEnumA X.K b k0 (fun vs a => vs = [.ref a, .int k0]) ta) := by
  refine ⟨fun pins s σ H R I h => ?_⟩
  refine Call_ (ld_blt I hg hm boot_enumerate (PyProof.Rows.callWith_type1 (thn (ha.run pos pins s σ H _ I h) fun us s1 ⟨vs, H1, I1, r1, q1⟩ => ?_) hs hpl))
  obtain ⟨a, xs, ex, hq, q⟩ := q1
  subst ex
  cases r1 with
  | cons r rr =>
    cases r
    cases rr with
    | cons r rr =>
      cases rr
      obtain ⟨t, rfl⟩ := r
      obtain ⟨its, rv, p'⟩ := inv_seqA I1 hq
      refine enum_begins (begins_A b a its.toArray) p' hk0 hk1 fun h' he hit hsz hk => wpAny_pyIter_enum he ?_
      have I2 : Inv X pins σ H1 { s1 with heap := h' } := I1.kept (t' := s1.toks) hk
      refine ⟨s1.heap.objs.size + 1, [s1.heap.objs.size + 1, s1.heap.objs.size], _, _, H1, rfl, I2, turn_enumA (b := b) (k0 := k0) a (s1.heap.objs.size + 1) s1.heap.objs.size, ⟨⟨.none, by rw [show k0 + ((0 : Nat) : Int) = k0 by omega]; exact he⟩, itA_begin hit, Nat.succ_ne_self _⟩, fun b hb => ?_, q⟩
      have e' : b = s1.heap.objs.size + 1 ∨ b = s1.heap.objs.size := by simpa using hb
      have hle : s1.heap.objs.size ≤ b := by
        rcases e' with z | z
        · rw [z]; exact Nat.le_add_right _ _
        · rw [z]; exact Nat.le_refl _
      exact I1.fpOk hle (I1.hok.fresh hle)
end
theorem walk_enumA {K : PySem.W.Frag} {b : Bool} {k0 : Int} {a : Addr} {xs : List V} : Walk (IteA K b k0 a) xs.length (fun H => SqA K b H a xs) (YPair (fun i => some (.int (k0 + (i : Nat)))) (fun i => xs[i]?)) := by
  refine ⟨fun i _ hi q => ⟨xs, xs[i], q, by simp [hi]⟩, fun _ q => ⟨xs, q, rfl⟩, fun i H v H' _ q y => ?_⟩
  obtain ⟨T, x, h1, h2, h3, h4⟩ := y
  exact ⟨T, .int (k0 + (i : Nat)), x, h1, h2, h3, rfl, h4 xs q⟩
end Ln


set_option Elab.async false
set_option linter.all false
set_option maxRecDepth 100000
set_option maxHeartbeats 4000000
namespace Ln
open PySem PySem.Spec PyProof.Rows L2 GxR
theorem scExtras : FnScope ["start", "log", "cars", "stay", "present", "found", "event", "count", "car"] ["start", "log", "cars"] (defScope sExtras) := ⟨rfl, rfl, rfl, by decide +kernel, rfl, by decide +kernel, by decide +kernel⟩
theorem scFirstNeg : FnScope ["counts", "index", "count"] ["counts"] (defScope sFirstNeg) := ⟨rfl, rfl, rfl, by decide +kernel, rfl, by decide +kernel, by decide +kernel⟩
theorem scBlockR : FnScope ["start", "cars", "places", "place", "car"] ["start", "cars"] (defScope sBlockR) := ⟨rfl, rfl, rfl, by decide +kernel, rfl, by decide +kernel, by decide +kernel⟩
structure Bn (mg : Str → Option Value) : Prop where
  enm : mg "enumerate" = none
  rng : mg "range" = none
theorem inV_strs (x : Str) (F : List Str) : inV (.str x) (F.map V.str) = decide (x ∈ F) := by
  unfold inV
  rw [List.any_map]
  induction F with
  | nil => rfl
  | cons y r ih =>
    rw [List.any_cons, ih]
    show ((y == x) || decide (x ∈ r)) = decide (x ∈ y :: r)
    by_cases h : x = y
    · subst h
      rw [beq_self_eq_true, Bool.true_or, decide_eq_true List.mem_cons_self]
    · rw [beq_eq_false_iff_ne.mpr (fun e => h e.symm), Bool.false_or]
      refine decide_eq_decide.mpr ⟨fun q => List.mem_cons_of_mem _ q, fun q => ?_⟩
      rcases List.mem_cons.mp q with e | q
      · exact absurd e h
      · exact q
def Ev.dd : Ev → Int
  | .inn _ => 0
  | .out => 1
theorem depL_head (d : Int) (es : List Ev) : (depL d es)[0]? = some d := by
  cases es with
  | nil => rfl
  | cons e r => cases e <;> rfl
theorem depL_len : ∀ (d : Int) (es : List Ev), (depL d es).length = es.length + 1
  | _, [] => rfl
  | d, .inn _ :: r => by show (depL d r).length + 1 = _; rw [depL_len]; rfl
  | d, .out :: r => by show (depL (d + 1) r).length + 1 = _; rw [depL_len]; rfl
theorem depL_step : ∀ (d : Int) (es : List Ev) (i : Nat) (e : Ev) (k : Int), es[i]? = some e → (depL d es)[i]? = some k → (depL d es)[i + 1]? = some (k + e.dd)
  | d, [], i, e, k, h, _ => by simp at h
  | d, .inn c :: r, 0, e, k, h, h2 => by
    have e1 := Option.some.inj h
    have e2 := Option.some.inj h2
    subst e1 e2
    show (depL d r)[0]? = _
    rw [depL_head]
    show some d = some (d + 0)
    rw [Int.add_zero]
  | d, .out :: r, 0, e, k, h, h2 => by
    have e1 := Option.some.inj h
    have e2 := Option.some.inj h2
    subst e1 e2
    show (depL (d + 1) r)[0]? = _
    rw [depL_head]
    rfl
  | d, .inn c :: r, i + 1, e, k, h, h2 => depL_step d r i e k (by simpa using h) h2
  | d, .out :: r, i + 1, e, k, h, h2 => depL_step (d + 1) r i e k (by simpa using h) h2
def Ev.de (S : List Str) : Ev → Int
  | .inn c => if c ∈ S then 0 else 1
  | .out => -1
theorem extL_head (S : List Str) (x : Int) (es : List Ev) : (extL S x es)[0]? = some x := by
  cases es with
  | nil => rfl
  | cons e r => cases e <;> rfl
theorem extL_len (S : List Str) : ∀ (x : Int) (es : List Ev), (extL S x es).length = es.length + 1
  | _, [] => rfl
  | x, .inn c :: r => by show (extL S (if c ∈ S then x else x + 1) r).length + 1 = _; rw [extL_len]; rfl
  | x, .out :: r => by show (extL S (x - 1) r).length + 1 = _; rw [extL_len]; rfl
theorem extL_step (S : List Str) : ∀ (x : Int) (es : List Ev) (i : Nat) (e : Ev) (k : Int), es[i]? = some e → (extL S x es)[i]? = some k → (extL S x es)[i + 1]? = some (k + e.de S)
  | x, [], i, e, k, h, _ => by simp at h
  | x, .inn c :: r, 0, e, k, h, h2 => by
    have e1 := Option.some.inj h
    have e2 := Option.some.inj h2
    subst e1 e2
    show (extL S (if c ∈ S then x else x + 1) r)[0]? = some (x + if c ∈ S then 0 else 1)
    rw [extL_head]
    split
    · rw [Int.add_zero]
    · rfl
  | x, .out :: r, 0, e, k, h, h2 => by
    have e1 := Option.some.inj h
    have e2 := Option.some.inj h2
    subst e1 e2
    show (extL S (x - 1) r)[0]? = _
    rw [extL_head]
    rfl
  | x, .inn c :: r, i + 1, e, k, h, h2 => extL_step S _ r i e k (by simpa using h) h2
  | x, .out :: r, i + 1, e, k, h, h2 => extL_step S (x - 1) r i e k (by simpa using h) h2
theorem cut_one {xs : List V} (h : 0 < xs.length) : cutV xs (some 1) none = xs.drop 1 := by
  unfold cutV
  rw [HT.sIx_none, show ((1 : Int)) = ((1 : Nat) : Int) from rfl, HT.sIx_nat, Nat.min_eq_left h, List.take_of_length_le (by rw [List.length_drop]; exact Nat.le_refl _)]
section
variable {P : Program} {w : World} {K : PySem.W.Frag} {mg : Str → Option Value} {base : Heap} {Ps : List Addr}
def spOpp : Sp := fun vs H Q _ => ∃ x : Str, vs = [.str x] ∧ Q (.str (if x = "L" then "R" else "L")) H
def spDepC (K : PySem.W.Frag) (Ps : List Addr) : Sp := fun vs H Q _ => ∃ (l : Addr) (as : List Addr) (es : List Ev), vs = [.ref l] ∧ LogAt K H l as es ∧ Tabs Ps H ∧
  ∀ H' p, Kp Ps H H' → H p = none → H' p = some (.lst ((depL 0 es).map V.int)) → Q (.ref p) H'
def spFirstNeg (K : PySem.W.Frag) (Ps : List Addr) : Sp := fun vs H Q _ => ∃ (l : Addr) (xs : List Int), vs = [.ref l] ∧ SqL K H l (xs.map V.int) ∧ Tabs Ps H ∧
  ∀ H', Kp Ps H H' → Q (match fneg xs with | none => .non | some i => .int (i : Nat)) H'
theorem ok_firstNeg {f : Addr} {fd : FuncData} (F : Fun K "first_negative" "first_negative" sFirstNeg f fd) (B3 : Bn mg) : FnOk P w K mg base CX0 1 f fd ["counts"] (spFirstNeg K Ps) := by
  refine F.ok scFirstNeg (fun vs H Q E h => ?_) (fun cdv A outer s H vs Q E hr h => ?_)
  · obtain ⟨l, xs, rfl, _⟩ := h
    rfl
  · obtain ⟨l, xs, rfl, hS, hT, q⟩ := h
    refine ⟨_, pss_cons (ps_for PassesOwn.never rfl (pi_enumA true (by rfl) B3.enm (pa_cons (pv 0) pa_nil)) (pg_tup rfl (pgs_cons (pg_name (i := 1) scFirstNeg.nd rfl (.inl rfl)) (pgs_cons (pg_name (i := 2) scFirstNeg.nd rfl (.inl rfl)) pgs_nil)))
        (pss_one (ps_if (pt_cmpR op_lt (pv 2) pe_int (nomark _)) (pss_one (ps_ret (pv 1))) pss_nil)))
      (pss_one (ps_ret pe_non)), ?_⟩
    refine ⟨.ref l, rfl, l, xs.map V.int, rfl, hS, for_it (walk_enumA (K := K) (b := true) (k0 := 0) (a := l) (xs := xs.map V.int)) (fun i σ H' => ∃ v1 v2 : Option V, σ = [some (.ref l), v1, v2] ∧ Kp Ps H H' ∧ ∀ j, j < i → ∀ y, xs[j]? = some y → ¬ y < 0) ?_ ?_ ?_ ?_⟩
    · exact ⟨none, none, rfl, Kp.refl hT, fun j hj => absurd hj (Nat.not_lt_zero j)⟩
    · rintro i σ H' _ ⟨_, _, _, kp, _⟩
      exact kp.seqL hT hS
    · rintro i x σ H1 H2 hi ⟨v1, v2, rfl, kp, hno⟩ ⟨T, y1, y2, rfl, hTn, rfl, e1, e2⟩
      obtain rfl := Option.some.inj e1
      have hlt : i < xs.length := by
        rw [List.length_map] at hi
        exact hi
      have hk : xs[i]? = some xs[i] := List.getElem?_eq_getElem hlt
      have e2 : (xs.map V.int)[i]? = some y2 := e2
      rw [List.getElem?_map, hk] at e2
      obtain rfl := Option.some.inj e2
      have hT0 : H T = none := kp.free hT hTn
      have kp1 : Kp Ps H (L2.upd H1 T (.tup [.int (0 + (i : Nat)), .int xs[i]])) := kp.upd hT hT0
      refine ⟨T, _, rfl, .inl (.inl upd_same), rfl, _, _, rfl, _, _, rfl, rfl, ?_⟩
      refine ⟨_, rfl, _, _, rfl, rfl, _, rfl, ite2 (fun h => ?_) (fun h => ?_)⟩
      · have h : xs[i] < 0 := of_decide_eq_true h
        have hf : fneg xs = some i := by
          unfold fneg
          rw [List.findIdx?_eq_some_iff_getElem]
          refine ⟨hlt, decide_eq_true h, fun j hj => ?_⟩
          have := hno j hj _ (List.getElem?_eq_getElem (by omega))
          simpa using this
        have := q _ kp1
        rw [hf, Int.zero_add] at this
        refine ⟨_, rfl, ?_⟩
        show Q (.int (0 + (i : Nat))) _
        rw [Int.zero_add]
        exact this
      · have h : ¬ xs[i] < 0 := fun z => h (decide_eq_true z)
        refine ⟨_, _, rfl, kp1, fun j hj y hy => ?_⟩
        by_cases e : j = i
        · rw [e, hk] at hy
          obtain rfl := Option.some.inj hy
          exact h
        · exact hno j (by omega) y hy
    · rintro σ H' ⟨v1, v2, rfl, kp, hno⟩
      have hf : fneg xs = none := by
        unfold fneg
        rw [List.findIdx?_eq_none_iff]
        intro y hy
        obtain ⟨j, hj, rfl⟩ := List.mem_iff_getElem.mp hy
        have := hno j (by rw [List.length_map]; exact hj) _ (List.getElem?_eq_getElem hj)
        simpa using this
      have := q H' kp
      rw [hf] at this
      exact this
end
end Ln


set_option Elab.async false
set_option linter.all false
set_option maxRecDepth 100000
set_option maxHeartbeats 4000000
namespace Ln
open PySem PySem.Spec PyProof.Rows L2 GxR
theorem filt_take (xs S : List Str) (i : Nat) (c : Str) (h : xs[i]? = some c) : (xs.take (i + 1)).filter (fun c => decide (c ∈ S)) = (xs.take i).filter (fun c => decide (c ∈ S)) ++ if c ∈ S then [c] else [] := by
  rw [List.take_add_one, h, List.filter_append]
  congr 1
  show List.filter _ [c] = _
  by_cases q : c ∈ S
  · rw [if_pos q, List.filter_cons_of_pos (by simpa using q)]
    rfl
  · rw [if_neg q, List.filter_cons_of_neg (by simpa using q)]
    rfl
section
variable {P : Program} {w : World} {K : PySem.W.Frag} {mg : Str → Option Value} {base : Heap} {Ps : List Addr}
def spExtras (K : PySem.W.Frag) (Ps : List Addr) : Sp := fun vs H Q _ => ∃ (a l f : Addr) (xs : List Str) (as : List Addr) (es : List Ev) (S : List Str), vs = [.ref a, .ref l, .ref f] ∧ LaneAt K H a xs ∧ laneB xs = true ∧ LogAt K H l as es ∧ logB xs xs.length es = true ∧ SqT K H f (S.map V.str) ∧ Tabs Ps H ∧
  ∀ H' p, Kp Ps H H' → H p = none → H' p = some (.lst ((ext0 xs S es).map V.int)) → Q (.ref p) H'
theorem ok_extras {f fZ : Addr} {fd fdZ : FuncData} (F : Fun K "extras" "extras" sExtras f fd) (B : Bi mg)
    (GZ : FnOk P w K mg base CX0 8 fZ fdZ ["start", "log"] (spSizes K Ps)) (mgZ : mg "sizes" = some (.ref fZ)) (kZ : PySem.W.keepIn K (.ref fZ) = true) (bZ : Binds K fdZ ["start", "log"] []) : FnOk P w K mg base CX0 9 f fd ["start", "log", "cars"] (spExtras K Ps) := by
  refine F.ok scExtras (fun vs H Q E h => ?_) (fun cdv A outer s H vs Q E hr h => ?_)
  · obtain ⟨a, l, f, xs, as, es, S, rfl, _⟩ := h
    rfl
  · obtain ⟨a, l, f, xs, as, es, S, rfl, hL, hB, hE, hB2, hF, hT, q⟩ := h
    refine ⟨_, pss_cons (ps_set (i := 3) scExtras.nd rfl (.inl rfl) (pe_callB call_len_seq (by rfl) B.len PySem.boot_len (pa_cons
          (pe_lc (own := [("car", 8)]) (g := gName 8) (by rfl) scExtras.nd (pi_tup (pv 0)) (blkOk_by (own := [("car", 8)]) (N := ["start", "log", "cars", "stay", "present", "found", "event", "count", "car"]) (sc := defScope sExtras) (by decide +kernel))
            (fun _ _ _ _ _ => pg_name (i := 8) scExtras.nd rfl (Or.inl rfl)) (fun _ _ _ _ _ => pts_one (pt_cmpR (r := rIn K false) op_in_seq (pv 8) (pv 2) (by rfl))) (fun _ _ _ _ _ => pv 8)) pa_nil)))
      (pss_cons (ps_set (i := 4) scExtras.nd rfl (.inl rfl) (pe_call GZ hr (by rfl) mgZ kZ bZ .nil pass0 (pa_cons (pv 0) (pa_cons (pv 1) pa_nil))))
      (pss_cons (ps_set (i := 5) scExtras.nd rfl (.inl rfl) (pe_lst (pa_cons (pe_op op_sub (pe_ix ix_list (pv 4) pe_int (fun _ _ => rfl)) (pv 3)) pa_nil)))
      (pss_cons (ps_for PassesOwn.never rfl (pi_zip (by rfl) B.zip (pa_cons (pv 1) (pa_cons (pe_slice sl_list (pv 4) (po_some pe_int) po_none) pa_nil)))
          (pg_tup rfl (pgs_cons (pg_name (i := 6) scExtras.nd rfl (.inl rfl)) (pgs_cons (pg_name (i := 7) scExtras.nd rfl (.inl rfl)) pgs_nil)))
        (pss_cons (ps_if (PW.pt (pw_and (pt_cmpR op_eq (pe_ix ix_tup (pv 6) pe_int (fun _ _ => rfl)) pe_str (nomark _)) (pw_and1 (pt_cmpR op_in_seq (pe_ix ix_tup (pv 6) pe_int (fun _ _ => rfl)) (pv 2) (by rfl)))))
            (pss_one (ps_aug (i := 3) scExtras.nd rfl (.inl rfl) pe_int ip_add)) pss_nil)
        (pss_one (ps_expr (pe_bm PySem.F.plainAttrs_list PySem.F.slot_list_append PySem.F.type_list_append mt_append (pv 5) (pa_cons (pe_op op_sub (pv 7) (pv 3)) pa_nil))))))
      (pss_one (ps_ret (pv 5)))))), ?_⟩
    have few1 := hL.few
    have few2 := hE.few
    have hlen := Paired.length hE.evs
    -- stay
    refine ⟨.ref a, rfl, a, rfl, ⟨_, hL.at_⟩, fun D hD => ?_⟩
    refine lc_tup (K := K) (a := a) (xs := xs.map V.str) (fun i H' => Kp Ps H H' ∧ H' D = some (.lst (((xs.take i).filter fun c => decide (c ∈ S)).map V.str))) ?_ ?_ ?_ ?_
    · exact ⟨Kp.new hT hD, upd_same⟩
    · rintro i H' _ ⟨kp, _⟩
      exact (hL.kp kp hT).at_
    · rintro i y H' hi ⟨kp, hD'⟩
      have hlt : i < xs.length := by
        have h1 := (List.getElem?_eq_some_iff.mp hi).1
        rw [List.length_map] at h1
        omega
      have hc : xs[i]? = some xs[i] := List.getElem?_eq_getElem hlt
      rw [List.getElem?_map, hc] at hi
      obtain rfl := Option.some.inj hi
      have hft := filt_take xs S i _ hc
      refine ⟨rfl, _, rfl, .ref f, rfl, f, _, rfl, .inr (kp.seqT hT hF), rfl, flat_strs S, _, rfl, ?_⟩
      show if inV (.str xs[i]) (S.map V.str) = true then _ else _
      rw [inV_strs]
      by_cases hin : xs[i] ∈ S
      · rw [decide_eq_true hin]
        rw [if_pos hin] at hft
        refine iteT ⟨_, rfl, _, hD', ?_, kp.upd hT hD, ?_⟩
        · rw [List.length_map]
          have := List.length_filter_le (fun c => decide (c ∈ S)) (xs.take i)
          rw [List.length_take] at this
          exact small1000 (by omega)
        · rw [upd_same, hft, List.map_append]
          rfl
      · rw [decide_eq_false hin]
        rw [if_neg hin, List.append_nil] at hft
        refine iteF ⟨kp, ?_⟩
        rw [hft]
        exact hD'
    rintro H1 ⟨k1, hD1⟩
    rw [List.length_map, List.take_length] at hD1
    refine ⟨D, _, rfl, .inl (.inl (.inl hD1)), ?_⟩
    have hst : ((((xs.filter fun c => decide (c ∈ S)).map V.str).length : Nat) : Int) = stayN xs S := by rw [List.length_map]; rfl
    rw [hst]
    -- present
    refine ⟨.ref a, rfl, .ref l, rfl, a, l, xs, as, es, rfl, hL.kp k1 hT, hB, hE.kp k1 hT, hB2, k1.tab, fun H2 u k2' hu1 hu2 => ?_⟩
    have k2 := k1.trans k2'
    have hu0 : H u = none := k1.free hT hu1
    have hU : SqL K H2 u ((szs xs.length es).map V.int) := SqL.of hu2
    have hz0 : atI ((szs xs.length es).map V.int) 0 = some (V.int xs.length) := atI_nat (j := 0) (by rw [List.getElem?_map, szs_head]; rfl)
    refine ⟨.ref u, rfl, u, _, 0, _, rfl, rfl, hU, hz0, _, rfl, _, _, rfl, rfl, by show 1 ≤ sizeLine; decide, fun o ho => ?_⟩
    have ho0 : H o = none := k2.free hT ho
    have nou : u ≠ o := ne_of_none hu2 ho
    have k3 : Kp Ps H (L2.upd H2 o (.lst [V.int ((xs.length : Int) - stayN xs S)])) := k2.upd hT ho0
    have hu3 : (L2.upd H2 o (.lst [V.int ((xs.length : Int) - stayN xs S)])) u = some (.lst ((szs xs.length es).map V.int)) := by rw [upd_ne nou]; exact hu2
    refine ⟨.ref l, rfl, .ref u, rfl, 1, rfl, u, _, rfl, SqL.of hu3, fun c hc => ?_⟩
    have hc0 : H c = none := k3.free hT hc
    have nuc : u ≠ c := ne_of_none hu3 hc
    have noc : o ≠ c := fun z => by
      rw [← z, upd_same] at hc
      cases hc
    have k4 := k3.upd (o := .lst (cutV ((szs xs.length es).map V.int) (some 1) none)) hT hc0
    have hcut : cutV ((szs xs.length es).map V.int) (some 1) none = ((szs xs.length es).drop 1).map V.int := by
      rw [cut_one (by rw [List.length_map, szs_len]; omega), List.map_drop]
    rw [hcut] at k4 ⊢
    refine ⟨l, c, as.map V.ref, ((szs xs.length es).drop 1).map V.int, rfl, (hE.kp k4 hT).at_, SqL.of upd_same, RZ.for_zipL (K := K) (a := l) (b := c) (xs := as.map V.ref) (ys := ((szs xs.length es).drop 1).map V.int) (by rw [List.length_map, List.length_map, List.length_drop, szs_len]; omega)
      (fun i σ H' => ∃ (v6 v7 : Option V) (st : Int), σ = [some (.ref a), some (.ref l), some (.ref f), some (.int st), some (.ref u), some (.ref o), v6, v7, none] ∧ Kp Ps H H' ∧ i ≤ es.length ∧ H' c = some (.lst (((szs xs.length es).drop 1).map V.int)) ∧
        H' o = some (.lst (((ext0 xs S es).take (i + 1)).map V.int)) ∧ ∃ k, (szs xs.length es)[i]? = some k ∧ (ext0 xs S es)[i]? = some (k - st)) ?_ ?_ ?_ ?_⟩
    · refine ⟨none, none, _, rfl, k4, Nat.zero_le _, upd_same, ?_, xs.length, szs_head _ _, extL_head _ _ _⟩
      rw [upd_ne noc, upd_same, List.take_add_one, extL_head]
      rfl
    · rintro i σ H' ⟨_, _, _, _, kp, _, hc', _⟩
      exact ⟨(hE.kp kp hT).at_, SqL.of hc'⟩
    · rintro i y z T σ H' hi hsi ⟨v6, v7, st, rfl, kp, hie, hc', ho', k, hk, hx⟩ hTn
      have hlt : i < es.length := by
        have h1 := (List.getElem?_eq_some_iff.mp hi).1
        rw [List.length_map] at h1
        omega
      have hev : es[i]? = some es[i] := List.getElem?_eq_getElem hlt
      have hT0 : H T = none := kp.free hT hTn
      have kp1 : Kp Ps H (L2.upd H' T (.tup [y, z])) := kp.upd hT hT0
      have nTo : o ≠ T := ne_of_none ho' hTn
      have nTc : c ≠ T := ne_of_none hc' hTn
      obtain ⟨b, hb, hbt⟩ := pair_at (hE.kp kp1 hT).evs i _ hev
      have hy : y = .ref b := by
        rw [List.getElem?_map, hb] at hi
        exact (Option.some.inj hi).symm
      subst hy
      have hstep := szs_step _ es i _ _ hev hk
      have hz : z = .int (k + (es[i]).dn) := by
        rw [List.getElem?_map, List.getElem?_drop, show 1 + i = i + 1 by omega, hstep] at hsi
        exact (Option.some.inj hsi).symm
      subst hz
      have hxstep := extL_step S _ es i _ _ hev hx
      have ho1 : (L2.upd H' T (.tup [.ref b, .int (k + (es[i]).dn)])) o = some (.lst (((ext0 xs S es).take (i + 1)).map V.int)) := by rw [upd_ne nTo]; exact ho'
      have hc1 : (L2.upd H' T (.tup [.ref b, .int (k + (es[i]).dn)])) c = some (.lst (((szs xs.length es).drop 1).map V.int)) := by rw [upd_ne nTc]; exact hc'
      have room : (((ext0 xs S es).take (i + 1)).map V.int).length < sizeLine := by
        rw [List.length_map, List.length_take]
        exact Nat.lt_of_le_of_lt (Nat.min_le_left _ _) (small1000 (by omega))
      have fin : ∀ (st' : Int) (v6 v7 : Option V), (k + (es[i]).dn) - st' = (k - st) + (es[i]).de S →
          ∃ (v6' v7' : Option V) (st2 : Int), [some (V.ref a), some (.ref l), some (.ref f), some (.int st'), some (.ref u), some (.ref o), v6, v7, none] = [some (.ref a), some (.ref l), some (.ref f), some (.int st2), some (.ref u), some (.ref o), v6', v7', none] ∧
            Kp Ps H (L2.upd (L2.upd H' T (.tup [.ref b, .int (k + (es[i]).dn)])) o (.lst (((ext0 xs S es).take (i + 1)).map V.int ++ [V.int ((k + (es[i]).dn) - st')]))) ∧ i + 1 ≤ es.length ∧
            (L2.upd (L2.upd H' T (.tup [.ref b, .int (k + (es[i]).dn)])) o (.lst (((ext0 xs S es).take (i + 1)).map V.int ++ [V.int ((k + (es[i]).dn) - st')]))) c = some (.lst (((szs xs.length es).drop 1).map V.int)) ∧
            (L2.upd (L2.upd H' T (.tup [.ref b, .int (k + (es[i]).dn)])) o (.lst (((ext0 xs S es).take (i + 1)).map V.int ++ [V.int ((k + (es[i]).dn) - st')]))) o = some (.lst (((ext0 xs S es).take (i + 1 + 1)).map V.int)) ∧ ∃ k', (szs xs.length es)[i + 1]? = some k' ∧ (ext0 xs S es)[i + 1]? = some (k' - st2) := fun st' v6 v7 e => by
        refine ⟨v6, v7, st', rfl, kp1.upd hT ho0, hlt, ?_, ?_, _, hstep, ?_⟩
        · rw [upd_ne noc.symm]
          exact hc1
        · rw [upd_same, List.take_add_one (i := i + 1), hxstep, List.map_append, e]
          rfl
        · rw [hxstep, e]
      refine ⟨T, _, rfl, .inl (.inl upd_same), rfl, _, _, rfl, _, _, rfl, rfl, ?_⟩
      cases hE2 : es[i] with
      | inn d =>
        rw [hE2] at hbt fin kp1 ho1
        have hd1 : (Ev.inn d).dn = 1 := rfl
        refine ⟨.ref b, rfl, b, _, 0, .str "in", rfl, rfl, hbt, atI_nat (j := 0) rfl, rfl, _, rfl, ?_⟩
        rw [decide_eq_true (rfl : V.str "in" = V.str "in")]
        refine iteT ⟨.ref b, rfl, b, _, 1, .str d, rfl, rfl, hbt, atI_nat (j := 1) rfl, .ref f, rfl, f, _, rfl, .inr (kp1.seqT hT hF), rfl, flat_strs S, _, rfl, ?_⟩
        show if inV (.str d) (S.map V.str) = true then _ else _
        rw [inV_strs]
        by_cases hin : d ∈ S
        · rw [decide_eq_true hin]
          refine iteT ⟨_, rfl, _, _, rfl, rfl, ?_⟩
          refine ⟨.ref o, rfl, .inl ⟨rfl, _, .inl (.inl ho1)⟩, _, rfl, _, rfl, _, _, rfl, rfl, o, _, _, rfl, rfl, ho1, room, ?_⟩
          refine fin (st + 1) _ _ ?_
          show k + 1 - (st + 1) = (k - st) + if d ∈ S then 0 else 1
          rw [if_pos hin]
          omega
        · rw [decide_eq_false hin]
          refine iteF ?_
          refine ⟨.ref o, rfl, .inl ⟨rfl, _, .inl (.inl ho1)⟩, _, rfl, _, rfl, _, _, rfl, rfl, o, _, _, rfl, rfl, ho1, room, ?_⟩
          refine fin st _ _ ?_
          show k + 1 - st = (k - st) + if d ∈ S then 0 else 1
          rw [if_neg hin]
          omega
      | out =>
        rw [hE2] at hbt fin kp1 ho1
        refine ⟨.ref b, rfl, b, _, 0, .str "out", rfl, rfl, hbt, atI_nat (j := 0) rfl, rfl, _, rfl, ?_⟩
        rw [decide_eq_false (fun z => ne_oi (V.str.inj z))]
        refine iteF (iteF ?_)
        refine ⟨.ref o, rfl, .inl ⟨rfl, _, .inl (.inl ho1)⟩, _, rfl, _, rfl, _, _, rfl, rfl, o, _, _, rfl, rfl, ho1, room, ?_⟩
        refine fin st _ _ ?_
        show k + -1 - st = (k - st) + -1
        omega
    · rintro σ H' ⟨v6, v7, st, rfl, kp, hie, hc', ho', _⟩
      refine ⟨.ref o, rfl, q H' o kp ho0 ?_⟩
      rw [ho', List.length_map, hlen, List.take_of_length_le (by rw [extL_len]; exact Nat.le_refl _)]
end
end Ln


set_option Elab.async false
set_option linter.all false
set_option maxRecDepth 100000
set_option maxHeartbeats 2000000
namespace Ln.GC
open PySem PySem.Spec PyProof.Rows L2 GxR
theorem isCell_kept {h h' : Heap} {c : Addr} {v : Option Value} (z : h.IsCell c v) (k : ∀ b o, h.get? b = some o → h'.get? b = some o) : h'.IsCell c v := by
  obtain ⟨o, ho, hd⟩ := z
  exact ⟨o, k c o ho, hd⟩
/-- the context of a generator expression's own frame -/
def genCx (X : Cx) (cenv : Env) (A' : Around) (N : List Str) (fp : List Addr) (s4 : Shared) (H4 : Hp) (pn : List (Addr × Obj)) : Cx where
  prog := X.prog
  w := X.w
  K := X.K
  mg := X.mg
  base := X.base
  A := A'
  N := N
  s_0 := s4
  H_0 := H4
  env := cenv
  outer := X.stack
  stack := cenv :: X.stack
  ex := fp
  fn := fun _ => false
  calm := true
  pn := pn
  xe := fun _ _ => False

structure GSc (scope sc : Scope) (x : Str) (ys : List Str) : Prop where
  kind : scope.kind = .function
  co : scope.isCoroutine = false
  cell : ∀ y ∈ scope.names, y.2 ≠ .cell
  free : ∀ y ∈ scope.names, y.2 = .free → sc.names.lookup y.1 = some .cell ∨ sc.names.lookup y.1 = some .free
  cap : ∀ y ∈ ys, scope.names.lookup y = some .free
  nd : (x :: ys).Nodup
  dot : scope.names.lookup (".0" : Str) = some NameKind.local
  loc : scope.names.lookup x = some .local

def YA (Y : Cx) (τ : L2.St) (Q : VK) : Protocol := fun _ _ v s kap =>
  ∃ (b : Bool) (H : Hp), v = .bool b ∧ Inv Y [] (none :: τ) H s ∧ if b = true then ∀ s', s'.heap = s.heap → s'.os = s.os → AllBare s'.gens → kap (.send .none) s' else Q (.bl false) H
def RA (Y : Cx) (τ : L2.St) (Q : VK) : Nat → Shared → Shared → Prop := fun _ _ s => ∃ H, Inv Y [] (none :: τ) H s ∧ Q (.bl true) H
def RestA (Y : Cx) (τ : L2.St) (fp : List Addr) (tn : Nat → Heap → Prop) (W : Nat → Nat → Hp → Prop) (n i : Nat) (s : Shared) : Prop :=
  ∃ m H, m < n ∧ Inv Y [] (none :: τ) H s ∧ tn i s.heap ∧ (∀ b ∈ fp, H b = none) ∧ W i m H
/-- what is asked of each turn -/
def TurnA (J : It) (te : TE) (τ : L2.St) (W : Nat → Nat → Hp → Prop) (Q : VK) : Prop := ∀ i m H, W i m H →
  (J.stop i H ∧ Q (.bl true) H) ∨ (J.go i H ∧ ∀ v H', J.yld i H v H' → te (some v :: τ) H' fun y H3 => ∃ b, y = .bl b ∧ if b = true then ∃ m', m' < m ∧ W (i + 1) m' H3 else Q (.bl false) H3)
theorem inv_none {Y : Cx} {τ : L2.St} {v : Option V} {pins : List (Addr × Obj)} {H : Hp} {s : Shared} (I : Inv Y pins (v :: τ) H s) : Inv Y pins (none :: τ) H s :=
  I.weak rfl fun i u e => by
    match i, e with
    | 0, e => cases e
    | i + 1, e => exact e
section
variable {X : Cx} {elt iter : Expr} {x : Str} {px pos : Pos} {scope : Scope} {it : Addr} {fp : List Addr} {tn : Nat → Heap → Prop} {J : It} {te : TE} {W : Nat → Nat → Hp → Prop} {Q : VK} {cenv : Env} {s4 : Shared} {H4 : Hp} {pn : List (Addr × Obj)} {A2 : Around} {ys : List Str} {sc : Scope} {τ : L2.St}
theorem seg_all (hsc : GSc scope sc x ys) (hcs : cenv.scope = scope)
    (hE : PE (genCx X cenv (A2.deeper cenv) (x :: ys) fp s4 H4 pn) elt te) (T : Turn X.prog X.w X.K (.Name x px) J fp it tn)
    (hst : ∀ H : Hp, (∀ b ∈ fp, H b = none) → ∀ b ∈ fp, FpOk (genCx X cenv (A2.deeper cenv) (x :: ys) fp s4 H4 pn) [] H b) (turn : TurnA J te τ W Q) :
    ∀ (n i : Nat) (s₀ s : Shared), RestA (genCx X cenv (A2.deeper cenv) (x :: ys) fp s4 H4 pn) τ fp tn W n i s →
      Seg (model X.prog X.w) A2 (fun n s₀ r s₁ => r = .ok .next ∧ RA (genCx X cenv (A2.deeper cenv) (x :: ys) fp s4 H4 pn) τ Q n s₀ s₁) (YA (genCx X cenv (A2.deeper cenv) (x :: ys) fp s4 H4 pn) τ Q) n s₀
        (.compLoop (.GeneratorExp elt [⟨.Name x px, iter, [], 0⟩] scope pos) 0 (.ref it) .none cenv)
        ((model X.prog X.w).den (.compLoop (.GeneratorExp elt [⟨.Name x px, iter, [], 0⟩] scope pos) 0 (.ref it) .none cenv)) [] s := by
  intro n
  induction n with
  | zero =>
    intro i s₀ s ⟨m, _, hm, _⟩
    exact absurd hm (Nat.not_lt_zero m)
  | succ n ih =>
    intro i s₀ s ⟨m, H, hm, I, st, fr, w⟩
    have ov : A2.over (.compLoop (.GeneratorExp elt [⟨.Name x px, iter, [], 0⟩] scope pos) 0 (.ref it) .none cenv) [] = A2.deeper cenv := over_comp
    show Seg _ A2 _ _ _ s₀ _ ((compTurn (.GeneratorExp elt [⟨.Name x px, iter, [], 0⟩] scope pos) 0 (.ref it) .none cenv).onRaise (leaving cenv)) [] s
    rw [compTurn_gen, Sem.onRaise_eq_wrap]
    refine seg_bind_wrap (wpAny_standAt (seg_bind_wrap ?_))
    rw [ov]
    rcases turn i m H w with ⟨stop, q⟩ | ⟨go, step⟩
    · refine thn (T.done (genCx X cenv (A2.deeper cenv) (x :: ys) fp s4 H4 pn) rfl rfl rfl rfl i [] s (none :: τ) H _ I (hst H fr) st stop) fun r s1 h1 => ?_
      obtain ⟨rfl, I1⟩ := h1
      exact seg_end (.ok .next) ⟨rfl, H, I1, q⟩
    · refine thn (T.item (genCx X cenv (A2.deeper cenv) (x :: ys) fp s4 H4 pn) rfl rfl rfl rfl i [] s (none :: τ) H _ I (hst H fr) st go) fun r s1 h1 => ?_
      obtain ⟨u, rfl, h1⟩ := h1
      refine seg_bind_wrap ?_
      rw [ov]
      refine thn h1 fun _ s2 h2 => ?_
      obtain ⟨v, H2, I2, r2, y2, st2, fr2⟩ := h2
      have I2' := I2.pinned (hst H2 fr2) (T.obj _ _ st2)
      refine seg_bind_wrap ?_
      rw [ov]
      have hpg : PG (genCx X cenv (A2.deeper cenv) (x :: ys) fp s4 H4 pn) (.Name x px) (gName 0) := pg_name (X := genCx X cenv (A2.deeper cenv) (x :: ys) fp s4 H4 pn) hsc.nd rfl (.inl (by show cenv.scope.names.lookup x = _; rw [hcs]; exact hsc.loc)) (.inr (by show cenv.scope.names.lookup x = _; rw [hcs]; exact hsc.loc))
      refine wpAny_mono (hpg.run _ s2 (none :: τ) H2 v u (fun σ' H' => σ' = (some v :: τ) ∧ H' = H2) I2' r2 ⟨rfl, rfl⟩) (fun _ s3 h3 => ?_) fun _ _ z => False.elim z
      obtain ⟨σ3, H3, I3, e3, e4⟩ := h3
      subst e3
      have e4 := e4.symm
      subst e4
      refine seg_bind_wrap ?_
      refine wpAny_of_eq (a := true) (by simp only [List.forIn_nil]) ?_
      simp only [if_true]
      have hy : ∀ v, yieldOut cenv v = yieldValue v := fun v => by simp only [yieldOut, hcs, hsc.co, Bool.false_eq_true, if_false]
      simp only [hy]
      rw [Sem.bind_eq_wrap', Sem.bind_eq_wrap', Sem.wrap_wrap, Sem.wrap_wrap]
      refine seg_wrap ?_
      rw [ov]
      refine wpAny_mono (hE.run _ s3 (some v :: τ) H2 _ I3 (step v H2 y2)) (fun y s5 h5 => ?_) fun _ _ z => False.elim z
      obtain ⟨v5, H5, I5, r5, b, rfl, hb⟩ := h5
      obtain rfl : y = Value.bool b := r5
      have I6 := inv_none I5
      have fr5 : ∀ b ∈ fp, H5 b = none := fun c hc => by
        obtain ⟨o, e, d⟩ := T.obj _ _ st2 c hc
        exact (I5.pin (c, o) (List.mem_append_right _ (List.mem_append_right _ (mem_pinsAt hc e)))).2.1
      have st5 : tn (i + 1) s5.heap := T.keep _ _ _ st2 fun c hc o e => (I5.pin (c, o) (List.mem_append_right _ (List.mem_append_right _ (mem_pinsAt hc e)))).1
      refine seg_at (seg_yield rfl rfl rfl ⟨b, H5, rfl, I6.unpinned, ?_⟩)
      cases b with
      | false => exact hb
      | true =>
        obtain ⟨m', hm', w'⟩ := hb
        intro s6 hh ho hbare
        refine seg_again rfl (ih (i + 1) s6 s6 ⟨m', H5, by omega, inv_same I6.unpinned hh ho hbare, by rw [hh]; exact st5, fr5, w'⟩)
end

section
variable {X : Cx} {elt iter : Expr} {x : Str} {px pos : Pos} {scope : Scope} {it : Addr} {fp : List Addr} {tn : Nat → Heap → Prop} {J : It} {te : TE} {W : Nat → Nat → Hp → Prop} {Q : VK} {cenv : Env} {s4 : Shared} {H4 : Hp} {pn : List (Addr × Obj)} {A2 : Around} {ys : List Str} {sc : Scope} {τ : L2.St}
theorem seg_all0 (hsc : GSc scope sc x ys) (hcs : cenv.scope = scope)
    (hE : PE (genCx X cenv (A2.deeper cenv) (x :: ys) fp s4 H4 pn) elt te) (T : Turn X.prog X.w X.K (.Name x px) J fp it tn)
    (hst : ∀ H : Hp, (∀ b ∈ fp, H b = none) → ∀ b ∈ fp, FpOk (genCx X cenv (A2.deeper cenv) (x :: ys) fp s4 H4 pn) [] H b) (turn : TurnA J te τ W Q)
    (n : Nat) (s₀ s : Shared) (h : RestA (genCx X cenv (A2.deeper cenv) (x :: ys) fp s4 H4 pn) τ fp tn W n 0 s) :
      Seg (model X.prog X.w) A2 (fun n s₀ r s₁ => r = .ok .next ∧ RA (genCx X cenv (A2.deeper cenv) (x :: ys) fp s4 H4 pn) τ Q n s₀ s₁) (YA (genCx X cenv (A2.deeper cenv) (x :: ys) fp s4 H4 pn) τ Q) n s₀
        (.compStart (.GeneratorExp elt [⟨.Name x px, iter, [], 0⟩] scope pos) 0 (.ref it) .none cenv)
        ((model X.prog X.w).den (.compStart (.GeneratorExp elt [⟨.Name x px, iter, [], 0⟩] scope pos) 0 (.ref it) .none cenv)) [] s := by
  have hl := seg_all (iter := iter) (pos := pos) hsc hcs hE T hst turn n 0 s₀ s h
  obtain ⟨m, H, _, I, st, _⟩ := h
  show Seg _ A2 _ _ _ s₀ _ ((compStart (.GeneratorExp elt [⟨.Name x px, iter, [], 0⟩] scope pos) 0 (.ref it) .none cenv).onRaise (leaving cenv)) [] s
  unfold compStart
  rw [Sem.onRaise_eq_wrap]
  show Seg _ A2 _ _ _ s₀ _ (Sem.wrap _ _ _ _ (ask >>= _)) [] s
  refine seg_bind_wrap (wpAny_askSetting ?_)
  split
  · exact seg_again rfl hl
  · first
      | exact seg_bind_wrap (wpAny_rule (seg_bind_wrap (wpAny_standAt (seg_bind_wrap (T.self _ 0 s _ _ st (seg_again rfl hl))))))
      | (refine seg_bind_wrap (wpAny_rule ?_)
         show Seg _ A2 _ _ _ s₀ _ (Sem.wrap _ _ _ _ (standAt iter.pos >>= _)) [] s
         exact seg_bind_wrap (wpAny_standAt (seg_bind_wrap (T.self _ 0 s _ _ st (seg_again rfl hl)))))

theorem loop_all {Y : Cx} {τ : L2.St} {ag : Addr} {go : Obj} {g : Nat} {A : Around} {R : Result → Shared → Prop} (hpn : (ag, go) ∈ Y.pn) (hgo : ∀ h : Heap, h.get? ag = some go → h.IsGen ag g) (hh : A.handled = none) (hd : A.depth < recursionLimit)
    (hR : ∀ (b : Bool) (H : Hp) (s : Shared), Inv Y [] (none :: τ) H s → Q (.bl b) H → R (.ok (.ret (.bool b))) s) :
    ∀ (n : Nat) (s : Shared), s.heap.IsGen ag g → s.heap.NoLimit →
      (∃ gs, s.gens[g]? = some gs ∧ gs.Goes (model Y.prog Y.w) A.in1.in1 (fun n s₀ r s₁ => r = .ok .next ∧ RA Y τ Q n s₀ s₁) (YA Y τ Q) n (.send .none) (s.setGen g .running)) →
      codeAny (model Y.prog Y.w) A (.builtin "all.loop" ⟨[.ref ag], []⟩) R s := by
  have ends : ∀ (n : Nat) (s s₁ : Shared), RA Y τ Q n (s.setGen g .running) s₁ → ∀ h', (∀ b o, s₁.heap.get? b = some o → h'.get? b = some o) → R (.ok (.ret (.bool true))) { s₁.setGen g .finished with heap := h' } := by
    intro n s s₁ ⟨H, I, q⟩ h' hk
    refine hR true H _ ?_ q
    exact I.call' (ch := []) rfl (Un.kept hk) (I.hok.kept hk) (bare_set I.bare rfl) fun b z => by simp at z
  intro n
  induction n with
  | zero =>
    intro s hg hl ⟨gs, hgs, hgo'⟩
    refine codeAny_builtin F.entry_all_loop ?_
    rw [Around.under_plainId F.plain_all_loop _]
    show wpAny _ A.in1 (pyNext (.ref ag) >>= fun r => _) _ _ s
    refine wpAny_bind (wpAny_pyNext_genexpQ (A := A.in1) (P := RA Y τ Q) hh hl hd hg hgs hgo' (fun v s₁ gs' hbare hv => ?_) fun s₁ hp h' hk => ?_)
    · obtain ⟨b, H, rfl, I, hb⟩ := hv
      refine wpAny_bind (wpAny_holding (wpAny_truthy_bool ?_))
      refine wpAny_bind (wpAny_letGo ?_)
      cases b with
      | true => exact False.elim (hb s₁ rfl rfl I.bare)
      | false =>
        simp only [Bool.false_eq_true, if_false]
        exact wpAny_bind (wpAny_rule (wpAny_pure (hR false H _ (inv_same I rfl rfl (bare_set I.bare hbare)) hb)))
    · exact wpAny_bind (wpAny_rule (wpAny_pure (ends _ _ _ hp h' hk)))
  | succ n ih =>
    intro s hg hl ⟨gs, hgs, hgo'⟩
    have hgl : g < s.gens.size := (Array.getElem?_eq_some_iff.mp hgs).1
    refine codeAny_builtin F.entry_all_loop ?_
    rw [Around.under_plainId F.plain_all_loop _]
    show wpAny _ A.in1 (pyNext (.ref ag) >>= fun r => _) _ _ s
    refine wpAny_bind (GenW.wpAny_gsz (n := g + 1) hgl (wpAny_pyNext_genexpQ (A := A.in1) (P := RA Y τ Q) hh hl hd hg hgs hgo' (fun v s₁ gs' hbare hv => ?_) fun s₁ hp h' hk => ?_))
    · intro hsz
      obtain ⟨b, H, rfl, I, hb⟩ := hv
      refine wpAny_bind (wpAny_holding (wpAny_truthy_bool ?_))
      refine wpAny_bind (wpAny_letGo ?_)
      have sz : (s₁.setGen g gs').gens.size = s₁.gens.size := by simp [Shared.setGen]
      have hsz1 : g < s₁.gens.size := by
        have : g + 1 ≤ (s₁.setGen g gs').gens.size := hsz
        omega
      cases b with
      | true =>
        simp only [if_true]
        refine wpAny_pure ⟨plainId_quiet F.plain_all_loop _, ih _ (hgo _ ?_) I.nolimit ⟨gs', ?_, ?_⟩⟩
        · exact (I.pin (ag, go) (List.mem_append_left _ hpn)).1
        · show (s₁.gens.setIfInBounds g gs')[g]? = some gs'
          simp [hsz1]
        · exact hb _ rfl rfl (bare_set (s := s₁.setGen g gs') (bare_set I.bare hbare) rfl)
      | false =>
        simp only [Bool.false_eq_true, if_false]
        exact wpAny_bind (wpAny_rule (wpAny_pure (hR false H _ (inv_same I rfl rfl (bare_set I.bare hbare)) hb)))
    · intro _
      exact wpAny_bind (wpAny_rule (wpAny_pure (ends _ _ _ hp h' hk)))
end

def capt (σ : L2.St) (is : List Nat) : L2.St := is.map fun i => (σ[i]?).join
def tAllG (P : Addr) (wi : TI) (te : TE) (is : List Nat) : TE := fun σ H Q => wi σ H fun J H1 => TabG H1 P ∧ ∃ W : Nat → Nat → Hp → Prop, (∀ H2, Tabbed P H1 H2 → ∃ m, W 0 m H2) ∧ TurnA J te (capt σ is) W Q
section
variable {X : Cx}
/-- all(elt for x in iter): elt anything that raises nothing -/
theorem pe_allG {c P : Addr} {elt iter : Expr} {x : Str} {px p pos gpos : Pos} {scope : Scope} {wi : TI} {te : TE} {k : Nat} {ys : List Str} (is : List Nat)
    (hr : Room (k + 1) X.A) (hc : X.calm = true) (hg : Gl X "all") (hm : X.mg "all" = none) (TB : TabB X.base X.mg c P) (hcode : X.env.code = .ref c) (S : GSc scope X.env.scope x ys) (hix : ∀ (j : Nat) (y : Str) (i : Nat), ys[j]? = some y → is[j]? = some i → X.N[i]? = some y) (hil : is.length = ys.length) (hi : PI X (.Name x px) iter wi)
    (hE : ∀ (C : Addr) (code : Value) (bi : Addr) (A' : Around) (fp : List Addr) (s4 : Shared) (H4 : Hp) (pn : List (Addr × Obj)), Room k A' → PE (genCx X (genEnv scope (cloFrom X.env.cells scope.names []) C code bi X.env) A' (x :: ys) fp s4 H4 pn) elt te)
    (hs : ∀ v, genFold iter X.env v = pure v := by intro _; rfl)
    (he : starEach [.GeneratorExp elt [⟨.Name x px, iter, [], 0⟩] scope gpos] X.env = (false, eval (.GeneratorExp elt [⟨.Name x px, iter, [], 0⟩] scope gpos) X.env) :: starEach [] X.env := by rfl) :
    PE X (.Call (.Name "all" p) [.GeneratorExp elt [⟨.Name x px, iter, [], 0⟩] scope gpos] [] pos) (tAllG P wi te is) := by
  refine ⟨fun pins s σ H Q I h => ?_⟩
  refine wpAny_Call_Name_kw (ld_blt I hg hm boot_all ?_)
  refine PyProof.Rows.callWith_builtin1 ?_ he (by rfl)
  rw [he]
  show wpAny (model X.prog X.w) X.A (spliced ((false, eval (.GeneratorExp elt [⟨.Name x px, iter, [], 0⟩] scope gpos) X.env) :: backTo pos (starEach [] X.env))) _ _ s
  have hfree : ∀ y ∈ scope.names, y.2 = .free → ∃ c, X.env.cells.lookup y.1 = some c := fun y hy e => by
    rcases S.free y hy e with k | k
    · exact I.ok.has _ (.inl k)
    · exact I.ok.has _ (.inr k)
  have hclo : closureFor scope X.env = pure (cloFrom X.env.cells scope.names []) := closure_ok hfree
  generalize hcl : cloFrom X.env.cells scope.names [] = clo at *
  have cm : ∀ {y c}, clo.lookup y = some c → X.env.cells.lookup y = some c := fun {y c} e => by
    have hm := PySem.mem_of_lookup e
    rw [← hcl] at hm
    rcases cloFrom_mem hm with hm | ⟨h1, rfl⟩
    · cases hm
    · obtain ⟨c, hc⟩ := hfree _ h1 rfl
      rw [hc]
      rfl
  have look : ∀ {y}, (y, NameKind.free) ∈ scope.names → ∃ c, clo.lookup y = some c ∧ X.env.cells.lookup y = some c := fun {y} hy => by
    obtain ⟨c', e'⟩ := mem_lookup (cloFrom_has (cells := X.env.cells) (acc := []) hy)
    rw [hcl] at e'
    exact ⟨c', e', cm e'⟩
  refine Calls.spliced_cons (wpAny_GeneratorExp_make S.co hclo S.cell S.dot S.kind hr.depth ?_ hs)
  refine thn (hi.run pins s σ H _ I h) fun xv s1 h1 => thn h1 fun itv s2 h2 => ?_
  obtain ⟨it, fp, tn, J, H2, rfl, I2, T, st2, f2, ⟨ps, hP, htr⟩, W, hW, turn⟩ := h2
  refine ⟨I2.nolimit, ?_⟩
  have hPs : s2.heap.get? P = some { cls := .none, data := .fields ps } := I2.hok P _ hP
  have cd : PySem.W.CodeHd s2.heap c P := TB.code.keeps I2.bk
  have fpP : ∀ b ∈ fp, b ≠ P := fun b hb e => by
    have := (f2 b hb).1
    rw [e, hP] at this
    cases this
  have cont : ∀ (code : Value) (h3 : Heap) (tk : Nat) (H3 : Hp), Inv X pins σ H3 { s2 with heap := h3, toks := tk } → Tabbed P H2 H3 → tn 0 h3 →
      wpAny (model X.prog X.w) X.A (builtinsFor X.env.globals X.env.builtins) (fun bi s4 =>
        ∀ h', h'.Ns s4.heap.objs.size (fun y => if y = ".0" then some (.ref it) else none) → Heap.SameBut s4.heap.objs.size (s4.heap.push { cls := .type "frame", data := .dict #[] }) h' →
          wpAny (model X.prog X.w) X.A (call (.builtin "all") [.ref h'.objs.size]) (EP X pins σ Q) X.xe { s4 with
            gens := s4.gens.push (.fresh (.compStart (.GeneratorExp elt [⟨.Name x px, iter, [], 0⟩] scope gpos) 0 (.ref it) .none (genEnv scope clo s4.heap.objs.size code bi X.env))),
            toks := s4.toks + 1 + 1 + 1,
            heap := h'.push { cls := .type "generator", data := .fields #[.int s4.gens.size 0, .str "<genexpr>" (s4.toks + 1), .str (X.env.qual ++ "<genexpr>") (s4.toks + 1 + 1)] } }) X.xe { s2 with heap := h3, toks := tk } := by
    intro code h3 tk H3 I3 hT st3
    have fr3 : ∀ b ∈ fp, H3 b = none := fun b hb => (hT.2 b (fpP b hb)).trans (f2 b hb).1
    obtain ⟨bm, ob, e1, e2, e3, e4, e5, e6, e7, e8⟩ := TB.bm
    refine wpAny_builtinsFor (m := X.mg) (by rw [I3.ok.glob]; exact I3.mod.glob.keeps I3.bk) e1 e2 (I3.bk _ _ e5) e6 e7 e8 ?_
    intro h' hn' hs'
    generalize hs3 : ({ s2 with heap := h3, toks := tk } : Shared) = s3 at *
    generalize hgo : ({ cls := .type "generator", data := .fields #[.int s3.gens.size 0, .str "<genexpr>" (s3.toks + 1), .str (X.env.qual ++ "<genexpr>") (s3.toks + 1 + 1)] } : Obj) = go
    have hgd : ∀ h : Heap, ∀ a, h.get? a = some go → h.IsGen a s3.gens.size := fun h a e => ⟨go, _, _, e, by rw [← hgo], by rw [← hgo], by rw [← hgo]⟩
    have hgp : ∀ h : Heap, (h.push go).get? h.objs.size = some go := fun h => Heap.get?_push_size _ (by rw [← hgo]; rfl)
    have hgc : ∀ v, go.data ≠ .cell v := fun v e => by rw [← hgo] at e; cases e
    have hsz : h'.objs.size = s3.heap.objs.size + 1 := by rw [hs'.1, Heap.size_push]
    have keep' : ∀ b o, s3.heap.get? b = some o → h'.get? b = some o := fun b o e => hs'.extBut b o (Nat.ne_of_lt (Heap.lt_size e)) (Heap.get?_push_of_some _ e)
    have keepG : ∀ b o, s3.heap.get? b = some o → (h'.push go).get? b = some o := fun b o e => Heap.get?_push_of_some _ (keep' b o e)
    have st3' : tn 0 s3.heap := by rw [← hs3]; exact st3
    have nstk : ∀ b, s3.heap.objs.size ≤ b → b ∉ frs X.stack := fun b hb z => by
      rcases List.mem_cons.mp (I3.stkSub b z) with e | e
      · have := I3.lt
        rw [e] at hb
        exact Nat.lt_irrefl _ (Nat.lt_of_lt_of_le this hb)
      · exact I3.nofs hb e
    have fpl : ∀ b ∈ fp, b < s3.heap.objs.size := fun b hb => by
      obtain ⟨o, e, _⟩ := T.obj _ _ st3' b hb
      exact Heap.lt_size e
    have fpS : ∀ b ∈ fp, b ∉ frs X.stack := fun b hb z => by
      obtain ⟨_, g1, g2, _⟩ := f2 b hb
      rcases List.mem_cons.mp (I3.stkSub b z) with e | e
      · exact g1 e
      · exact g2 e
    have hH3 : ∀ b, s3.heap.objs.size ≤ b → H3 b = none := fun b hb => I3.hok.fresh hb
    refine call_function_tree F.kind_all F.plain_all F.entry_all (F.args_all1 _) ?_
    unfold Builtin.«all»
    refine wpAny_bind (m := oneArg "all" _) (wpAny_pure ?_)
    refine wpAny_bind (wpAny_pyIter_gen (g := s3.gens.size) (hgd _ _ (hgp h')) ?_)
    refine wpAny_pure ⟨plainId_quiet F.plain_all_loop _, ?_⟩
    have hroomk : Room k (X.A.in1.in1.deeper (genEnv scope clo s3.heap.objs.size code builtinsNs X.env)) :=
      ⟨hr.hd, by have := hr.dp; show X.A.depth + 1 + 3 * k + 5 < _; omega, by have := hr.un; show X.A.units + 1 + 1 + 3 + 16 * k + 200 < _; omega⟩
    have kin : ∀ {y : Str}, (scope.names.lookup y = some .cell ∨ scope.names.lookup y = some .free) → ∃ c, clo.lookup y = some c := fun {y} e => by
      rcases e with e | e
      · exact absurd rfl (S.cell _ (PySem.mem_of_lookup e))
      · obtain ⟨c, h1, _⟩ := look (PySem.mem_of_lookup e)
        exact ⟨c, h1⟩
    have IY : Inv (genCx X (genEnv scope clo s3.heap.objs.size code builtinsNs X.env) (X.A.in1.in1.deeper (genEnv scope clo s3.heap.objs.size code builtinsNs X.env)) (x :: ys) fp s3 H3 [(h'.objs.size, go)]) [] (none :: capt σ is) H3
        { s3 with gens := (s3.gens.push (.fresh (.compStart (.GeneratorExp elt [⟨.Name x px, iter, [], 0⟩] scope gpos) 0 (.ref it) .none (genEnv scope clo s3.heap.objs.size code builtinsNs X.env)))), toks := s3.toks + 1 + 1 + 1, heap := h'.push go } := by
      refine ⟨⟨I3.ok.mod, S.kind, I3.ok.glob, rfl, Nat.le_refl _, fun y z c' e e' => I3.ok.inj y z c' (cm e) (cm e'), fun y e => kin e, fun y c' e _ => (nomatch e), fun _ => hr.hd, Around.frames_deeper I3.ok.frames, .inr ⟨rfl, rfl⟩,
        fun b hb => ⟨Nat.ne_of_lt (fpl b hb), fun y c' e => (f2 b hb).2.2.2.2.1 y c' (cm e)⟩, I3.bs, Nat.le_trans I3.ok.bsz I3.sz, fun b o e hb => ?_, fpS, I3.stack, I3.stkFree⟩,
        rfl, I3.bare.push rfl, Un.kept keepG, ⟨_, hn'.keeps fun b o e => Heap.get?_push_of_some _ e, fun i y v e1 e2 _ => ?_⟩, fun y c' e => (I3.cell y c' (cm e)).elim fun v z => ⟨v, isCell_kept z keepG⟩, hH3 _ (Nat.le_refl _), fun y c' e => I3.freeC y c' (cm e), fun p hp => ?_, I3.hok.kept keepG, by show (capt σ is).length + 1 = ys.length + 1; rw [capt, List.length_map, hil]⟩
      · obtain ⟨_, _, _, g3, _⟩ := f2 b hb
        rcases g3 with g3 | g3
        · exact I2.ok.noex b o e g3
        · have h1 := Heap.lt_size e
          have h2 := I2.ok.bsz
          exact Nat.lt_irrefl _ (Nat.lt_of_lt_of_le h1 (Nat.le_trans h2 g3))
      · match i, e2 with
        | 0, e2 => cases e2
        | i + 1, e2 =>
          have e1 : ys[i]? = some y := e1
          have e2 : (capt σ is)[i]? = some (some v) := e2
          unfold capt at e2
          rw [List.getElem?_map] at e2
          cases hk : is[i]? with
          | none => rw [hk] at e2; cases e2
          | some k =>
            rw [hk] at e2
            have e2 : (σ[k]?).join = some v := Option.some.inj e2
            have e3 : σ[k]? = some (some v) := by
              cases hσ : σ[k]? with
              | none => rw [hσ] at e2; cases e2
              | some o => rw [hσ] at e2; exact congrArg some e2
            have hfr := PySem.mem_of_lookup (S.cap y (List.mem_of_getElem? e1))
            have hX := S.free _ hfr rfl
            obtain ⟨m, _, hl⟩ := I3.loc
            obtain ⟨u, ru, lk⟩ := hl k y v (hix i y k e1 hk) e3 (.inr hX)
            refine ⟨u, ru, ?_⟩
            obtain ⟨c, hc1, hc2⟩ := look hfr
            rcases lk with ⟨l1, _⟩ | ⟨_, c', hc', z⟩
            · have l1 : X.env.scope.names.lookup y = some .local := l1
              rcases hX with hX | hX
              · rw [hX] at l1; cases l1
              · rw [hX] at l1; cases l1
            · rw [hc2] at hc'
              cases hc'
              exact .inr ⟨.inr (S.cap y (List.mem_of_getElem? e1)), c, hc1, isCell_kept z keepG⟩
      · have hp2 : p ∈ ([(h'.objs.size, go)] ++ [] : List (Addr × Obj)) := hp
        have hp' : p = (h'.objs.size, go) := by simpa using hp2
        subst hp'
        exact ⟨hgp h', hH3 _ (by rw [hsz]; exact Nat.le_succ _), by show h'.objs.size ≠ s3.heap.objs.size; rw [hsz]; exact Nat.succ_ne_self _, nstk _ (by rw [hsz]; exact Nat.le_succ _), hgc⟩
    have hst : ∀ H' : Hp, (∀ b ∈ fp, H' b = none) → ∀ b ∈ fp, FpOk (genCx X (genEnv scope clo s3.heap.objs.size code builtinsNs X.env) (X.A.in1.in1.deeper (genEnv scope clo s3.heap.objs.size code builtinsNs X.env)) (x :: ys) fp s3 H3 [(h'.objs.size, go)]) [] H' b :=
      fun H' hf b hb => ⟨hf b hb, Nat.ne_of_lt (fpl b hb), fpS b hb, .inl hb, fun y c' e => (f2 b hb).2.2.2.2.1 y c' (cm e), fun p hp => by
        have hp2 : p ∈ ([(h'.objs.size, go)] ++ [] : List (Addr × Obj)) := hp
        have hp' : p = (h'.objs.size, go) := by simpa using hp2
        subst hp'
        show h'.objs.size ≠ b
        rw [hsz]
        exact Nat.ne_of_gt (Nat.lt_succ_of_lt (fpl b hb))⟩
    obtain ⟨m, w0⟩ := hW H3 hT
    refine loop_all (τ := capt σ is) (Q := Q) (go := go) (g := s3.gens.size) (A := X.A) (Y := genCx X (genEnv scope clo s3.heap.objs.size code builtinsNs X.env) (X.A.in1.in1.deeper (genEnv scope clo s3.heap.objs.size code builtinsNs X.env)) (x :: ys) fp s3 H3 [(h'.objs.size, go)])
      (by exact List.mem_singleton.mpr rfl) (fun h e => hgd h _ e) hr.hd hr.depth (fun b H' s' I' q' => ?_) (m + 1) _ (hgd _ _ (hgp h')) IY.nolimit ⟨_, Array.getElem?_push_size .., rfl, ?_⟩
    · refine ⟨.bl b, H', ?_, rfl, q'⟩
      refine I3.call' (ch := fp) I'.os I'.base I'.hok I'.bare fun b hb => ?_
      obtain ⟨_, g1, _, g3, g4, g5⟩ := f2 b hb
      exact ⟨g3, g1, g4, g5⟩
    · exact seg_all0 S rfl (hE _ _ _ _ _ _ _ _ hroomk) T hst turn (m + 1) _ _ ⟨m, H3, Nat.lt_succ_self m, inv_same IY rfl rfl (bare_set IY.bare rfl), T.keep _ _ _ st3' fun b _ o e => keepG b o e, fr3, w0⟩
  cases hf : codeAmong gpos ps.toList with
  | none =>
    refine wpAny_genexprCodeX hcode (cd.code hPs htr) (cd.tab hPs) hf fun c' h' tk hx hge hlt hco' _ htab' _ => ?_
    obtain ⟨o1, vs, f1, tf, fl, tg, inF, tx, tt, op, _, _, _, _, _, _, _, _, _, htr', _⟩ := hco'
    have J3 := inv_tab (h' := h') (g' := s2.gens) (d' := s2.drawn) (t' := tk) I2 hP (fun b u hb e => hx b u hb e) htab'.2 I2.bare
    exact thn (cont _ h' tk _ J3 ⟨⟨_, upd_same, htr'⟩, fun b hb => upd_ne hb⟩ (T.keep _ _ _ st2 fun b hb o e => hx b o (fpP b hb) e)) fun bi s4 h4 h'' a1 a2 => Calls.spliced_nil (h4 h'' a1 a2)
  | some cv =>
    refine wpAny_genexprCode_hit hcode (cd.code hPs htr) hf ?_
    exact thn (cont cv s2.heap s2.toks H2 I2 ⟨⟨ps, hP, htr⟩, fun _ _ => rfl⟩ st2) fun bi s4 h4 h'' a1 a2 => Calls.spliced_nil (h4 h'' a1 a2)
end
end Ln.GC


set_option Elab.async false
set_option linter.all false
set_option maxRecDepth 100000
set_option maxHeartbeats 4000000
namespace Ln
open PySem PySem.Spec PyProof.Rows L2 GxR
/-! ### cars, lanes and logs that are right -/
theorem logB_cars : ∀ (es : List Ev) (us : List Str) (n : Nat), logB us n es = true → ∀ c ∈ arrs es, carB c = true
  | .inn c :: r, us, n, h, d, hd => by
    have h : (if carB c = true ∧ ¬ c ∈ us then logB (c :: us) (n + 1) r else false) = true := h
    by_cases q : carB c = true ∧ ¬ c ∈ us
    · rw [if_pos q] at h
      rcases List.mem_cons.mp (show d ∈ c :: arrs r from hd) with e | e
      · rw [e]
        exact q.1
      · exact logB_cars r _ _ h d e
    · rw [if_neg q] at h
      cases h
  | .out :: r, us, n, h, d, hd => by
    have h : (if 0 < n then logB us (n - 1) r else false) = true := h
    by_cases q : 0 < n
    · rw [if_pos q] at h
      exact logB_cars r _ _ h d hd
    · rw [if_neg q] at h
      cases h
theorem mem_arrs {c : Str} : ∀ {es : List Ev}, Ev.inn c ∈ es → c ∈ arrs es
  | .inn d :: r, h => by
    rcases List.mem_cons.mp h with e | e
    · injection e with e
      rw [e]
      exact List.mem_cons_self
    · exact List.mem_cons_of_mem _ (mem_arrs e)
  | .out :: r, h => by
    rcases List.mem_cons.mp h with e | e
    · cases e
    · exact mem_arrs (es := r) e
theorem carLen {x : Str} (h : carB x = true) : x.length ≤ 4 := by
  unfold carB at h
  rw [Bool.and_eq_true, Bool.and_eq_true] at h
  exact of_decide_eq_true h.1.2
theorem car_sz {x : Str} (h : carB x = true) : x.length ≤ sizeLine := Nat.le_trans (carLen h) (by decide)
theorem carsOf {xs : List Str} (h : laneB xs = true) : ∀ x ∈ xs, carB x = true := fun x hx => by
  unfold Ln.laneB at h
  rw [Bool.and_eq_true] at h
  exact List.all_eq_true.mp h.1 x hx
theorem shapedT (xs : List Str) (h : ∀ x ∈ xs, carB x = true) : SeqAt.shaped (.tuple (xs.map PyData.str)) = true := by
  unfold SeqAt.shaped
  rw [Bool.and_eq_true]
  refine ⟨by rw [PyData.canLay0]; exact lay_strs xs fun x hx => car_ok (h x hx), decide_eq_true ?_⟩
  have := dep_strs xs
  simp only [PyData.depth]
  omega
theorem logB_sub : ∀ (es : List Ev) (us vs : List Str) (n : Nat), (∀ u ∈ vs, u ∈ us) → logB us n es = true → logB vs n es = true
  | [], _, _, _, _, _ => rfl
  | .inn c :: r, us, vs, n, hs, h => by
    have h : (if carB c = true ∧ ¬ c ∈ us then logB (c :: us) (n + 1) r else false) = true := h
    show (if carB c = true ∧ ¬ c ∈ vs then logB (c :: vs) (n + 1) r else false) = true
    by_cases q : carB c = true ∧ ¬ c ∈ us
    · rw [if_pos q] at h
      rw [if_pos ⟨q.1, fun z => q.2 (hs c z)⟩]
      refine logB_sub r (c :: us) (c :: vs) (n + 1) (fun u hu => ?_) h
      rcases List.mem_cons.mp hu with e | e
      · rw [e]
        exact List.mem_cons_self
      · exact List.mem_cons_of_mem _ (hs u e)
    · rw [if_neg q] at h
      cases h
  | .out :: r, us, vs, n, hs, h => by
    have h : (if 0 < n then logB us (n - 1) r else false) = true := h
    show (if 0 < n then logB vs (n - 1) r else false) = true
    by_cases q : 0 < n
    · rw [if_pos q] at h ⊢
      exact logB_sub r us vs (n - 1) hs h
    · rw [if_neg q] at h
      cases h
/-- no car arrives twice -/
theorem logB_nodup : ∀ (es : List Ev) (us : List Str) (n : Nat), logB us n es = true → us.Nodup → (us ++ arrs es).Nodup
  | [], us, n, _, hu => by
    show (us ++ []).Nodup
    rw [List.append_nil]
    exact hu
  | .inn c :: r, us, n, h, hu => by
    have h : (if carB c = true ∧ ¬ c ∈ us then logB (c :: us) (n + 1) r else false) = true := h
    by_cases q : carB c = true ∧ ¬ c ∈ us
    · rw [if_pos q] at h
      have ih := logB_nodup r (c :: us) (n + 1) h (List.nodup_cons.mpr ⟨q.2, hu⟩)
      exact (List.perm_middle (a := c) (l₁ := us) (l₂ := arrs r)).symm.nodup_iff.mp ih
    · rw [if_neg q] at h
      cases h
  | .out :: r, us, n, h, hu => by
    have h : (if 0 < n then logB us (n - 1) r else false) = true := h
    by_cases q : 0 < n
    · rw [if_pos q] at h
      exact logB_nodup r us (n - 1) h hu
    · rw [if_neg q] at h
      cases h
theorem laneB_nodup {xs : List Str} (h : laneB xs = true) : xs.Nodup := by
  unfold laneB at h
  rw [Bool.and_eq_true] at h
  exact of_decide_eq_true h.2
theorem laneB_rev {xs : List Str} (h : laneB xs = true) : laneB xs.reverse = true := by
  unfold laneB
  rw [Bool.and_eq_true]
  exact ⟨List.all_eq_true.mpr fun x hx => carsOf h x (List.mem_reverse.mp hx), decide_eq_true ((List.reverse_perm xs).nodup_iff.mpr (laneB_nodup h))⟩
end Ln


set_option Elab.async false
set_option linter.all false
set_option maxRecDepth 100000
set_option maxHeartbeats 4000000
namespace Ln
open PySem PySem.Spec PyProof.Rows L2 GxR
theorem plcs_take (xs S : List Str) (i : Nat) (c : Str) (h : xs[i]? = some c) : plcs S 0 (xs.take (i + 1)) = plcs S 0 (xs.take i) ++ if c ∈ S then [i] else [] := by
  rw [List.take_add_one, h, plcs_app]
  have hi := (List.getElem?_eq_some_iff.mp h).1
  rw [Nat.zero_add, List.length_take, Nat.min_eq_left (Nat.le_of_lt hi)]
  rfl
theorem plcs_len (S : List Str) : ∀ (xs : List Str) (i : Nat), (plcs S i xs).length ≤ xs.length
  | [], _ => Nat.le_refl _
  | c :: r, i => by
    have := plcs_len S r (i + 1)
    show (if c ∈ S then i :: plcs S (i + 1) r else plcs S (i + 1) r).length ≤ r.length + 1
    split
    · exact Nat.succ_le_succ this
    · exact Nat.le_succ_of_le this
theorem plcs_lt (S : List Str) : ∀ (xs : List Str) (i : Nat), ∀ p ∈ plcs S i xs, p < i + xs.length
  | [], _, p, h => by cases h
  | c :: r, i, p, h => by
    have ih := plcs_lt S r (i + 1)
    rw [List.length_cons]
    have h : p ∈ (if c ∈ S then i :: plcs S (i + 1) r else plcs S (i + 1) r) := h
    split at h
    · rcases List.mem_cons.mp h with e | h
      · omega
      · have := ih p h
        omega
    · have := ih p h
      omega
theorem brg_le (xs S : List Str) : (brg xs S).1 ≤ xs.length ∧ (brg xs S).2 ≤ xs.length := by
  have h := plcs_lt S xs 0
  unfold brg
  cases hp : plcs S 0 xs with
  | nil => exact ⟨Nat.zero_le _, Nat.zero_le _⟩
  | cons a r =>
    rw [hp] at h
    have h1 := h a List.mem_cons_self
    have h2 := h _ (List.getLast_mem (List.cons_ne_nil a r))
    exact ⟨by show a ≤ _; omega, by show (a :: r).getLast _ + 1 ≤ _; omega⟩
theorem eqv_strs : ∀ xs ys : List Str, PyData.eqv (.tuple (xs.map PyData.str)) (.tuple (ys.map PyData.str)) = decide (xs = ys) := by
  have key : ∀ xs ys : List Str, PyData.eqvAll (xs.map PyData.str) (ys.map PyData.str) = decide (xs = ys) := by
    intro xs
    induction xs with
    | nil =>
      intro ys
      cases ys with
      | nil => rfl
      | cons y r => rfl
    | cons x r ih =>
      intro ys
      cases ys with
      | nil => rfl
      | cons y q =>
        show ((x == y) && PyData.eqvAll (r.map PyData.str) (q.map PyData.str)) = _
        rw [ih q]
        by_cases h : x = y
        · subst h
          rw [beq_self_eq_true, Bool.true_and]
          exact decide_eq_decide.mpr ⟨fun e => by rw [e], fun e => (List.cons.inj e).2⟩
        · rw [beq_eq_false_iff_ne.mpr h, Bool.false_and]
          exact (decide_eq_false fun e => h (List.cons.inj e).1).symm
  exact key
theorem dp_str {K : PySem.W.Frag} {H : Hp} : ∀ xs : List Str, DpAll K H (xs.map V.str) (xs.map PyData.str)
  | [] => .nil
  | x :: r => .cons (.str x) (dp_str r)
theorem cutV_nat {xs : List V} {lo hi : Nat} (h1 : lo ≤ xs.length) (h2 : hi ≤ xs.length) : cutV xs (some ((lo : Nat) : Int)) (some ((hi : Nat) : Int)) = (xs.take hi).drop lo := by
  unfold cutV
  rw [HT.sIx_nat, HT.sIx_nat, Nat.min_eq_left h1, Nat.min_eq_left h2, List.drop_take]
section
variable {P : Program} {w : World} {K : PySem.W.Frag} {mg : Str → Option Value} {base : Heap} {Ps : List Addr}
def spBlockR (K : PySem.W.Frag) (Ps : List Addr) : Sp := fun vs H Q _ => ∃ (a f : Addr) (xs S : List Str), vs = [.ref a, .ref f] ∧ SqT K H a (xs.map V.str) ∧ SqT K H f (S.map V.str) ∧ xs.length ≤ 400 ∧ Tabs Ps H ∧
  ∀ H' p, Kp Ps H H' → H p = none → H' p = some (.tup [.int (brg xs S).1, .int (brg xs S).2]) → Q (.ref p) H'
theorem ok_blockR {f : Addr} {fd : FuncData} (F : Fun K "block_range" "block_range" sBlockR f fd) (B3 : Bn mg) : FnOk P w K mg base CX0 1 f fd ["start", "cars"] (spBlockR K Ps) := by
  refine F.ok scBlockR (fun vs H Q E h => ?_) (fun cdv A outer s H vs Q E hr h => ?_)
  · obtain ⟨a, f, xs, S, rfl, _⟩ := h
    rfl
  · obtain ⟨a, f, xs, S, rfl, hA, hF, few, hT, q⟩ := h
    refine ⟨_, pss_cons (ps_setLc (i := 2) (own := [("place", 3), ("car", 4)]) (g := gTup K 2 (gCons (gName 3) (gCons (gName 4) gNil))) (by rfl) scBlockR.nd rfl rfl (sw_true rfl rfl rfl (by decide +kernel)) (pi_enumA false (by rfl) B3.enm (pa_cons (pv 0) pa_nil))
          (blkOk_by (own := [("place", 3), ("car", 4)]) (N := ["start", "cars", "places", "place", "car"]) (sc := defScope sBlockR) (by decide +kernel))
          (fun _ _ _ _ _ => pg_tup rfl (pgs_cons (pg_name (i := 3) scBlockR.nd rfl (Or.inl rfl)) (pgs_cons (pg_name (i := 4) scBlockR.nd rfl (Or.inl rfl)) pgs_nil)))
          (fun _ _ _ _ _ => pts_one (pt_cmpR (r := rIn K false) op_in_seq (pv 4) (pv 1) (by rfl))) (fun _ _ _ _ _ => pv 3))
      (pss_one (ps_ret (pe_ifExp (pt_truth (pv 2) (by intro _; rfl)) (pe_tup (pa_cons (pe_ix ix_list (pv 2) pe_int (fun _ _ => rfl)) (pa_cons (pe_op op_add (pe_ix ix_list (pv 2) (pe_un un_neg pe_int) (fun _ _ => rfl)) pe_int) pa_nil)))
        (pe_tup (pa_cons pe_int (pa_cons pe_int pa_nil)))))), ?_⟩
    refine ⟨.ref a, rfl, a, xs.map V.str, rfl, hA, fun D hD => ?_⟩
    refine lc_it (walk_enumA (K := K) (b := false) (k0 := 0) (a := a) (xs := xs.map V.str)) (fun i H' => Kp Ps H H' ∧ H' D = some (.lst ((plcs S 0 (xs.take i)).map fun n => V.int (n : Nat)))) ?_ ?_ ?_ ?_
    · exact ⟨Kp.new hT hD, upd_same⟩
    · rintro i H' _ ⟨kp, _⟩
      exact kp.seqT hT hA
    · rintro i x H1 H2 hi ⟨kp, hD'⟩ ⟨T, y1, y2, rfl, hTn, rfl, e1, e2⟩
      obtain rfl := Option.some.inj e1
      have hlt : i < xs.length := by
        rw [List.length_map] at hi
        exact hi
      have hc : xs[i]? = some xs[i] := List.getElem?_eq_getElem hlt
      have e2 : (xs.map V.str)[i]? = some y2 := e2
      rw [List.getElem?_map, hc] at e2
      obtain rfl := Option.some.inj e2
      have hT0 : H T = none := kp.free hT hTn
      have kp1 : Kp Ps H (L2.upd H1 T (.tup [.int (0 + (i : Nat)), .str xs[i]])) := kp.upd hT hT0
      have nDT : D ≠ T := ne_of_none hD' hTn
      have hD1 : (L2.upd H1 T (.tup [.int (0 + (i : Nat)), .str xs[i]])) D = some (.lst ((plcs S 0 (xs.take i)).map fun n => V.int (n : Nat))) := by rw [upd_ne nDT]; exact hD'
      have hpt := plcs_take xs S i _ hc
      refine ⟨T, _, rfl, .inl (.inl upd_same), rfl, _, _, rfl, _, _, rfl, rfl, rfl, _, rfl, .ref f, rfl, f, _, rfl, .inr (kp1.seqT hT hF), rfl, flat_strs S, _, rfl, ?_⟩
      show if inV (.str xs[i]) (S.map V.str) = true then _ else _
      rw [inV_strs]
      by_cases hin : xs[i] ∈ S
      · rw [decide_eq_true hin]
        rw [if_pos hin] at hpt
        refine iteT ⟨_, rfl, _, hD1, ?_, kp1.upd hT hD, ?_⟩
        · rw [List.length_map]
          have := plcs_len S (xs.take i) 0
          rw [List.length_take] at this
          exact small1000 (by omega)
        · rw [upd_same, hpt, List.map_append]
          show _ = some (HO.lst (_ ++ [V.int ((i : Nat) : Int)]))
          rw [Int.zero_add]
      · rw [decide_eq_false hin]
        rw [if_neg hin, List.append_nil] at hpt
        refine iteF ⟨kp1, ?_⟩
        rw [hpt]
        exact hD1
    rintro H1 ⟨k1, hD1⟩
    rw [List.length_map, List.take_length] at hD1
    refine ⟨.ref D, rfl, _, .inl ⟨_, SqL.of hD1, rfl⟩, ?_⟩
    cases hp : plcs S 0 xs with
    | nil =>
      refine iteF ⟨by show 2 ≤ sizeLine; decide, fun p hpn => ?_⟩
      have hpp : H p = none := k1.free hT hpn
      refine q _ p (k1.upd hT hpp) hpp ?_
      rw [upd_same]
      unfold brg
      rw [hp]
      rfl
    | cons a0 r0 =>
      rw [hp] at hD1
      have hlast : atI ((a0 :: r0).map fun n => V.int (n : Nat)) (-1) = some (V.int ((a0 :: r0).getLast (List.cons_ne_nil a0 r0) : Nat)) := by
        have e : (a0 :: r0) = (a0 :: r0).dropLast ++ [(a0 :: r0).getLast (List.cons_ne_nil a0 r0)] := (List.dropLast_concat_getLast _).symm
        have e2 : ((a0 :: r0).map fun n => V.int (n : Nat)) = ((a0 :: r0).dropLast.map fun n => V.int (n : Nat)) ++ [V.int ((a0 :: r0).getLast (List.cons_ne_nil a0 r0) : Nat)] := by
          conv => lhs; rw [e]
          rw [List.map_append]
          rfl
        rw [e2]
        exact atI_last _ _
      refine iteT ⟨.ref D, rfl, D, _, 0, _, rfl, rfl, SqL.of hD1, atI_nat (j := 0) rfl, .ref D, rfl, 1, rfl, D, _, -1, _, rfl, rfl, SqL.of hD1, hlast, _, _, rfl, rfl, by show 2 ≤ sizeLine; decide, fun p hpn => ?_⟩
      have hpp : H p = none := k1.free hT hpn
      refine q _ p (k1.upd hT hpp) hpp ?_
      rw [upd_same]
      unfold brg
      rw [hp]
      rfl
def spReqFin (K : PySem.W.Frag) (Ps : List Addr) : Sp := fun vs H Q _ => ∃ (a l f : Addr) (xs : List Str) (as : List Addr) (es : List Ev) (F : List Str), vs = [.ref a, .ref l, .ref f] ∧ LaneAt K H a xs ∧ laneB xs = true ∧ LogAt K H l as es ∧ logB xs xs.length es = true ∧ LaneAt K H f F ∧ laneB F = true ∧ Tabs Ps H ∧ ∀ H', Kp Ps H H' → Q .non H'
theorem szs_last : ∀ (n : Int) (es : List Ev), ∃ r, szs n es = r ++ [endI n es]
  | n, [] => ⟨[], rfl⟩
  | n, .inn _ :: r => by
    obtain ⟨q, e⟩ := szs_last (n + 1) r
    exact ⟨n :: q, by show n :: szs (n + 1) r = _; rw [e]; rfl⟩
  | n, .out :: r => by
    obtain ⟨q, e⟩ := szs_last (n - 1) r
    exact ⟨n :: q, by show n :: szs (n - 1) r = _; rw [e]; rfl⟩
def spHasRC (K : PySem.W.Frag) (Ps : List Addr) : Sp := fun vs H Q _ => ∃ (a l f : Addr) (xs : List Str) (as : List Addr) (es : List Ev) (F : List Str), vs = [.ref a, .ref l, .ref f] ∧ LaneAt K H a xs ∧ laneB xs = true ∧ LogAt K H l as es ∧ logB xs xs.length es = true ∧ SqT K H f (F.map V.str) ∧ Tabs Ps H ∧ ∀ H', Kp Ps H H' → Q (.bl (carsOk xs es F)) H'
end
end Ln


set_option Elab.async false
set_option linter.all false
set_option maxRecDepth 100000
set_option maxHeartbeats 4000000
namespace Ln
open PySem PySem.Spec PyProof.Rows L2 GxR
theorem isPk_none {o : List Nat} {i : Nat} (h : ∀ j, j < i → isPk o (1 + j) = false) (hi : i = o.length - 2) : fpk o = none := by
  unfold fpk
  rw [List.find?_eq_none]
  intro j hj
  rw [List.mem_range'_1] at hj
  have := h (j - 1) (by omega)
  rw [show 1 + (j - 1) = j by omega] at this
  simp [this]
theorem isPk_some {o : List Nat} {i : Nat} (h : ∀ j, j < i → isPk o (1 + j) = false) (hi : i < o.length - 2) (hp : isPk o (1 + i) = true) : fpk o = some (1 + i) := by
  unfold fpk
  rw [List.find?_range'_eq_some]
  refine ⟨hp, by rw [List.mem_range'_1]; omega, fun j h1 h2 => ?_⟩
  have := h (j - 1) (by omega)
  rw [show 1 + (j - 1) = j by omega] at this
  rw [this]
  rfl
section
variable {P : Program} {w : World} {K : PySem.W.Frag} {mg : Str → Option Value} {base : Heap} {Ps : List Addr}
def spHasBlk (K : PySem.W.Frag) (Ps : List Addr) : Sp := fun vs H Q _ => ∃ (a f : Addr) (xs F : List Str), vs = [.ref a, .ref f] ∧ SqT K H a (xs.map V.str) ∧ SqT K H f (F.map V.str) ∧ xs.length ≤ 400 ∧ F.length ≤ 400 ∧ (∀ x ∈ xs, carB x = true) ∧ (∀ x ∈ F, carB x = true) ∧ Tabs Ps H ∧
  ∀ H', Kp Ps H H' → Q (.bl (hasBlk xs F)) H'
def spFirstPk (K : PySem.W.Frag) (Ps : List Addr) : Sp := fun vs H Q _ => ∃ (k f : Addr) (kn F : List Str), vs = [.ref k, .ref f] ∧ SqL K H k (kn.map V.str) ∧ SqT K H f (F.map V.str) ∧ F.length ≤ 400 ∧ (∀ c ∈ F, c ∈ kn) ∧ Tabs Ps H ∧
  ∀ H', Kp Ps H H' → Q (match fpk (F.map fun c => kn.idxOf c) with | none => .non | some i => .int (i : Nat)) H'
end
end Ln


set_option Elab.async false
set_option linter.all false
set_option maxRecDepth 100000
set_option maxHeartbeats 4000000
namespace Ln
open PySem PySem.Spec PyProof.Rows L2 GxR
/-- the side of a stayer -/
def sdV : Option Bool → V
  | none => .non
  | some true => .str "L"
  | some false => .str "R"
def stV (r : Str × Nat × Option Bool) : List V := [.str r.1, .int (r.2.1 : Nat), sdV r.2.2]
def StsT (H : Hp) (ts : List Addr) (rs : List (Str × Nat × Option Bool)) : Prop := Paired (fun t r => H t = some (.tup (stV r))) ts rs
theorem StsT.kt {H H' : Hp} {ts : List Addr} {rs : List (Str × Nat × Option Bool)} (h : StsT H ts rs) (k : KT H H') : StsT H' ts rs := Paired.imp h fun t r q => k t _ q
theorem StsT.kp {Ps : List Addr} {H H1 : Hp} {ts : List Addr} {rs : List (Str × Nat × Option Bool)} (h : StsT H ts rs) (k : Kp Ps H H1) (hT : Tabs Ps H) : StsT H1 ts rs := Paired.imp h fun t r q => k.tup hT q
/-- what stands in low and high -/
def LoR : Option Nat → Int → Int → Prop
  | none, _, h => h = 0
  | some l, lo, h => lo = l ∧ h ≠ 0
theorem first_at {F : List Str} {c : Str} (h : c ∈ F) : F[F.idxOf c]? = some c ∧ ∀ m, m < F.idxOf c → F[m]? ≠ some c := by
  have hl : F.idxOf c < F.length := List.idxOf_lt_length_of_mem h
  refine ⟨by rw [List.getElem?_eq_getElem hl, List.getElem_idxOf], fun m hm z => ?_⟩
  have hml : m < F.length := by omega
  rw [List.getElem?_eq_getElem hml] at z
  have := List.not_of_lt_findIdx (p := (· == c)) hm
  rw [Option.some.inj z] at this
  simp at this
section
variable {P : Program} {w : World} {K : PySem.W.Frag} {mg : Str → Option Value} {base : Heap} {Ps : List Addr}
def spArrSt (K : PySem.W.Frag) (Ps : List Addr) : Sp := fun vs H Q _ => ∃ (a l f : Addr) (xs : List Str) (as : List Addr) (es : List Ev) (F : List Str), vs = [.ref a, .ref l, .ref f] ∧ SqT K H a (xs.map V.str) ∧ LogAt K H l as es ∧ TupD H f (F.map V.str) ∧ F.length ≤ 400 ∧ Tabs Ps H ∧
  ∀ H' p ts, Kp Ps H H' → H p = none → H' p = some (.lst (ts.map V.ref)) → StsT H' ts (arrSt F (lo0 (brg F xs)) 1 es) → Q (.ref p) H'
end
end Ln


set_option Elab.async false
set_option linter.all false
set_option maxRecDepth 100000
set_option maxHeartbeats 4000000
namespace Ln
open PySem
/-! ### the conditions are enough: the rule of [16] gives the lane -/
/-- a lane after one event, at the left end or the right -/
def mvB (L : List Str) (e : Ev) (left : Bool) : List Str := match e with
  | .inn c => if left = true then c :: L else L ++ [c]
  | .out => if left = true then L.drop 1 else L.take (L.length - 1)
/-- the side of the next stayer, true for the left one -/
def nxW (F : List Str) : Option Nat → List Ev → Bool
  | _, [] => true
  | lo, .out :: r => nxW F lo r
  | lo, .inn c :: r => if c ∈ F then
      match lo with
      | none => nxW F (some (F.idxOf c)) r
      | some l => decide (F.idxOf c < l)
    else nxW F lo r
def loN (F : List Str) (lo : Option Nat) : Ev → Option Nat
  | .out => lo
  | .inn c => if c ∈ F then (match lo with | none => some (F.idxOf c) | some l => some l) else lo
/-- the side of an event, s the side of the next stayer -/
def gSide (F : List Str) (s : Bool) (L : List Str) : Ev → Bool
  | .inn c => decide (c ∈ F) == s
  | .out => if s = true then !decide (∃ y ∈ L.head?, y ∈ F) else decide (∃ y ∈ L.getLast?, y ∈ F)
def gRun (F : List Str) : Option Nat → List Str → List Ev → List Str
  | _, L, [] => L
  | lo, L, e :: r => gRun F (loN F lo e) (mvB L e (gSide F (nxW F lo (e :: r)) L e)) r
theorem mvB_in {L : List Str} {c : Str} {left : Bool} : Mv L (.inn c) (mvB L (.inn c) left) := by
  cases left with
  | true => exact .inL c L
  | false => exact .inR c L
theorem take_dropLast (L : List Str) : L.take (L.length - 1) = L.dropLast := (List.dropLast_eq_take).symm
theorem mvB_out {L : List Str} {left : Bool} (h : L ≠ []) : Mv L .out (mvB L .out left) := by
  cases left with
  | true =>
    cases L with
    | nil => exact absurd rfl h
    | cons x r => exact .outL x r
  | false =>
    show Mv L .out (L.take (L.length - 1))
    rw [take_dropLast]
    have e := (List.dropLast_concat_getLast h).symm
    generalize L.dropLast = r at e ⊢
    rw [e]
    exact .outR _ r
/-- the first of those that arrive is the last of a falling row -/
theorem last_of {f : Str → Nat} {c : Str} : ∀ {D : List Str}, D.Pairwise (fun a b => f b < f a) → c ∈ D → (∀ d ∈ D, f c ≤ f d) → ∃ D0, D = D0 ++ [c]
  | [], _, h, _ => by cases h
  | [d], _, h, _ => ⟨[], by rw [List.mem_singleton.mp h]; rfl⟩
  | d :: e :: r, hp, h, hm => by
    have hp' := List.pairwise_cons.mp hp
    have hne : c ≠ d := fun z => by
      have h1 := hp'.1 e List.mem_cons_self
      have h2 := hm e (List.mem_cons_of_mem _ List.mem_cons_self)
      rw [z] at h2
      omega
    have hc : c ∈ e :: r := (List.mem_cons.mp h).elim (fun z => absurd z hne) id
    obtain ⟨D0, h0⟩ := last_of hp'.2 hc fun x hx => hm x (List.mem_cons_of_mem _ hx)
    exact ⟨d :: D0, by rw [h0]; rfl⟩
theorem first_of {f : Str → Nat} {c : Str} : ∀ {E : List Str}, E.Pairwise (fun a b => f a < f b) → c ∈ E → (∀ d ∈ E, f c ≤ f d) → ∃ E0, E = c :: E0
  | [], _, h, _ => by cases h
  | d :: r, hp, h, hm => by
    rcases List.mem_cons.mp h with e | h
    · exact ⟨r, by rw [e]⟩
    · have h1 := (List.pairwise_cons.mp hp).1 c h
      have h2 := hm d List.mem_cons_self
      omega
/-- what is still to come fits the lane -/
structure Fit (F D B E : List Str) (kn P : List Str) (r : List Ev) : Prop where
  eq : F = D ++ B ++ E
  nd : F.Nodup
  ek : kn = P ++ arrs r
  knd : kn.Nodup
  dn : D.Pairwise (fun a b => kn.idxOf b < kn.idxOf a)
  up : E.Pairwise (fun a b => kn.idxOf a < kn.idxOf b)
  late : ∀ y ∈ D ++ E, y ∈ arrs r
  all : ∀ c ∈ arrs r, c ∈ F → c ∈ D ++ E
theorem idx_ge {P S : List Str} {y : Str} (hn : (P ++ S).Nodup) (h : y ∈ S) : P.length ≤ (P ++ S).idxOf y := by
  have hc : y ∉ P := fun z => (List.nodup_append.mp hn).2.2 y z y h rfl
  rw [List.idxOf_append, if_neg hc]
  omega
section
variable {F A B C D E kn P : List Str} {r : List Ev} {c : Str}
theorem Fit.out (h : Fit F D B E kn P (.out :: r)) : Fit F D B E kn P r := ⟨h.eq, h.nd, h.ek, h.knd, h.dn, h.up, h.late, h.all⟩
theorem Fit.pass (h : Fit F D B E kn P (.inn c :: r)) (hc : c ∉ F) : Fit F D B E kn (P ++ [c]) r := by
  refine ⟨h.eq, h.nd, by rw [h.ek]; simp [arrs], h.knd, h.dn, h.up, fun y hy => ?_, fun y hy hf => h.all y (List.mem_cons_of_mem _ hy) hf⟩
  rcases List.mem_cons.mp (h.late y hy) with e | e
  · refine absurd ?_ hc
    rw [← e, h.eq]
    rcases List.mem_append.mp hy with z | z
    · simp [z]
    · simp [z]
  · exact e
theorem Fit.min (h : Fit F D B E kn P (.inn c :: r)) : ∀ d ∈ D ++ E, kn.idxOf c ≤ kn.idxOf d := fun d hd => by
  have hk : kn = P ++ c :: arrs r := h.ek
  have hn : (P ++ c :: arrs r).Nodup := hk ▸ h.knd
  have h1 : kn.idxOf c = P.length := by rw [hk]; exact idx_mid hn
  have h2 : P.length ≤ kn.idxOf d := by
    rw [hk]
    exact idx_ge hn (h.late d hd)
  omega
/-- the next stayer comes to the one side or the other -/
theorem Fit.stay (h : Fit F D B E kn P (.inn c :: r)) (hc : c ∈ F) : (∃ D0, D = D0 ++ [c] ∧ Fit F D0 (c :: B) E kn (P ++ [c]) r) ∨ (∃ E0, E = c :: E0 ∧ Fit F D (B ++ [c]) E0 kn (P ++ [c]) r) := by
  have hin := h.all c List.mem_cons_self hc
  have hk2 : kn = (P ++ [c]) ++ arrs r := by rw [h.ek]; simp [arrs]
  have hcr : c ∉ arrs r := fun z => by
    have hn : (P ++ c :: arrs r).Nodup := (show kn = P ++ c :: arrs r from h.ek) ▸ h.knd
    exact (List.nodup_cons.mp (List.nodup_append.mp hn).2.1).1 z
  have hFn := h.nd
  rcases List.mem_append.mp hin with hd | he
  · obtain ⟨D0, rfl⟩ := last_of h.dn hd fun d hd => h.min d (List.mem_append_left _ hd)
    refine .inl ⟨D0, rfl, by rw [h.eq]; simp, h.nd, hk2, h.knd, (List.pairwise_append.mp h.dn).1, h.up, fun y hy => ?_, fun y hy hf => ?_⟩
    · have hyc : y ≠ c := fun z => by
        have e : F = D0 ++ c :: (B ++ E) := by rw [h.eq]; simp
        rw [e] at hFn
        have := (List.nodup_cons.mp (List.perm_middle.nodup_iff.mp hFn)).1
        refine this ?_
        rw [← z]
        rcases List.mem_append.mp hy with q | q
        · simp [q]
        · simp [q]
      have : y ∈ D0 ++ [c] ++ E := by
        rcases List.mem_append.mp hy with z | z
        · simp [z]
        · simp [z]
      exact (List.mem_cons.mp (h.late y this)).elim (fun z => absurd z hyc) id
    · have := h.all y (List.mem_cons_of_mem _ hy) hf
      have hyc : y ≠ c := fun z => hcr (z ▸ hy)
      simp at this ⊢
      rcases this with z | z | z
      · exact .inl z
      · exact absurd z hyc
      · exact .inr z
  · obtain ⟨E0, rfl⟩ := first_of h.up he fun d hd => h.min d (List.mem_append_right _ hd)
    refine .inr ⟨E0, rfl, by rw [h.eq]; simp, h.nd, hk2, h.knd, h.dn, (List.pairwise_cons.mp h.up).2, fun y hy => ?_, fun y hy hf => ?_⟩
    · have hyc : y ≠ c := fun z => by
        have e : F = (D ++ B) ++ c :: E0 := by rw [h.eq]
        rw [e] at hFn
        have := (List.nodup_cons.mp (List.perm_middle.nodup_iff.mp hFn)).1
        refine this ?_
        rw [← z]
        rcases List.mem_append.mp hy with q | q
        · simp [q]
        · simp [q]
      have : y ∈ D ++ c :: E0 := by
        rcases List.mem_append.mp hy with z | z
        · simp [z]
        · simp [z]
      exact (List.mem_cons.mp (h.late y this)).elim (fun z => absurd z hyc) id
    · have := h.all y (List.mem_cons_of_mem _ hy) hf
      have hyc : y ≠ c := fun z => hcr (z ▸ hy)
      simp at this ⊢
      rcases this with z | z | z
      · exact .inl z
      · exact absurd z hyc
      · exact .inr z
end
end Ln


set_option Elab.async false
set_option linter.all false
set_option maxRecDepth 100000
set_option maxHeartbeats 4000000
namespace Ln
open PySem
theorem ext_head {F : List Str} {x : Int} {r : List Ev} (h : ∀ y ∈ extL F x r, 0 ≤ y) : 0 ≤ x := by
  cases r with
  | nil => exact h x List.mem_cons_self
  | cons e r => cases e <;> exact h x List.mem_cons_self
theorem run_one {F : List Str} {lo : Option Nat} {L : List Str} {e : Ev} {r : List Ev} (m : Mv L e (mvB L e (gSide F (nxW F lo (e :: r)) L e))) (h : Run (mvB L e (gSide F (nxW F lo (e :: r)) L e)) r (gRun F (loN F lo e) (mvB L e (gSide F (nxW F lo (e :: r)) L e)) r)) : Run L (e :: r) (gRun F lo L (e :: r)) := .cons m h
theorem drop_left {A : List Str} {x : Str} : (x :: A).drop 1 = A := rfl
theorem take_right {A : List Str} {x : Str} : (A ++ [x]).take ((A ++ [x]).length - 1) = A := by rw [take_dropLast, List.dropLast_concat]
/-- at the end the lane is all that was to be -/
theorem Fit.last {F A B C D E kn P : List Str} (h : Fit F D B E kn P []) (hsz : ((A ++ B ++ C).length : Int) = F.length) : A ++ B ++ C = F := by
  have hDE : D ++ E = [] := by
    cases hx : D ++ E with
    | nil => rfl
    | cons y r =>
      have := h.late y (by rw [hx]; exact List.mem_cons_self)
      cases this
  obtain ⟨rfl, rfl⟩ := List.append_eq_nil_iff.mp hDE
  have hF : F = B := by rw [h.eq]; simp
  rw [hF] at hsz
  rw [List.length_append, List.length_append] at hsz
  have hA : A = [] := List.eq_nil_of_length_eq_zero (by omega)
  have hC : C = [] := List.eq_nil_of_length_eq_zero (by omega)
  rw [hA, hC, hF]
  simp
/-- with a stayer in the lane -/
theorem grd_some {F : List Str} : ∀ (r : List Ev) (A B C D E kn P : List Str) (l : Nat) (nL nR : Int) (b : Option Str), Fit F D B E kn P r → B ≠ [] → D.length ≤ l → l ≤ D.length + B.length → (∀ y ∈ A ++ C, y ∉ F) →
    (∀ y ∈ extL F ((A.length + C.length : Nat) : Int) r, 0 ≤ y) → swG F (some l) nL nR ((A.length + C.length : Nat) : Int) b r = none → (nxW F (some l) r = true → (A.length : Int) ≤ max 0 nL) → (nxW F (some l) r = false → (C.length : Int) ≤ max 0 nR) →
    endI ((A ++ B ++ C).length : Int) r = F.length → gRun F (some l) (A ++ B ++ C) r = F ∧ Run (A ++ B ++ C) r F
  | [], A, B, C, D, E, kn, P, l, nL, nR, b, hf, hB, h1, h2, hA, hx, hs, hl, hr, hsz => by
    have e := hf.last hsz
    show A ++ B ++ C = F ∧ Run (A ++ B ++ C) [] F
    exact ⟨e, by rw [e]; exact .nil _⟩
  | .out :: r, A, B, C, D, E, kn, P, l, nL, nR, b, hf, hB, h1, h2, hA, hx, hs, hl, hr, hsz => by
    have hx1 : ∀ y ∈ extL F (((A.length + C.length : Nat) : Int) - 1) r, 0 ≤ y := fun y hy => hx y (List.mem_cons_of_mem _ hy)
    have hpos := ext_head hx1
    have hw : nxW F (some l) (.out :: r) = nxW F (some l) r := rfl
    rw [hw] at hl hr
    have hs : swG F (some l) (nL - 1) (nR - 1) (((A.length + C.length : Nat) : Int) - 1) b r = none := hs
    -- a leaver at the left end goes
    have goL : ∀ (x : Str) (A' : List Str), A = x :: A' → gSide F (nxW F (some l) r) (A ++ B ++ C) .out = true → gRun F (some l) (A ++ B ++ C) (.out :: r) = F ∧ Run (A ++ B ++ C) (.out :: r) F := fun x A' e hg => by
      subst e
      have e1 : mvB (x :: A' ++ B ++ C) .out true = A' ++ B ++ C := rfl
      have e0 : (((x :: A').length + C.length : Nat) : Int) - 1 = ((A'.length + C.length : Nat) : Int) := by rw [List.length_cons]; omega
      rw [e0] at hx1 hs
      have ih := grd_some r A' B C D E kn P l (nL - 1) (nR - 1) b hf.out hB h1 h2 (fun y hy => hA y (List.mem_cons_of_mem _ hy)) hx1 hs (fun z => by have := hl z; rw [List.length_cons] at this; omega) (fun z => by
        have h3 := hr z
        by_cases q : C = []
        · rw [q, List.length_nil]
          omega
        · -- the right one was wanted, and there was a leaver there
          exfalso
          have hg : (if nxW F (some l) r = true then _ else decide (∃ y ∈ (x :: A' ++ B ++ C).getLast?, y ∈ F)) = true := hg
          rw [z, if_neg Bool.false_ne_true] at hg
          obtain ⟨y, hy, hyF⟩ := of_decide_eq_true hg
          have hlast : (x :: A' ++ B ++ C).getLast? = C.getLast? := by
            rw [List.getLast?_append]
            cases hc : C.getLast? with
            | none => exact absurd (List.getLast?_eq_none_iff.mp hc) q
            | some y => rfl
          rw [hlast] at hy
          exact hA y (List.mem_append_right _ (List.mem_of_getLast? hy)) hyF) (by rw [← e1]; have := hsz; show endI ((A' ++ B ++ C).length : Int) r = _; rw [← this]; show _ = endI (((x :: A' ++ B ++ C).length : Int) - 1) r; congr 1; simp)
      refine ⟨?_, .cons (.outL x _) ih.2⟩
      show gRun F (some l) (mvB (x :: A' ++ B ++ C) .out (gSide F (nxW F (some l) r) (x :: A' ++ B ++ C) .out)) r = F
      rw [hg, e1]
      exact ih.1
    have goR : ∀ (x : Str) (C' : List Str), C = C' ++ [x] → gSide F (nxW F (some l) r) (A ++ B ++ C) .out = false → gRun F (some l) (A ++ B ++ C) (.out :: r) = F ∧ Run (A ++ B ++ C) (.out :: r) F := fun x C' e hg => by
      subst e
      have e1 : mvB (A ++ B ++ (C' ++ [x])) .out false = A ++ B ++ C' := by
        rw [← List.append_assoc]
        exact take_right
      have e0 : ((A.length + (C' ++ [x]).length : Nat) : Int) - 1 = ((A.length + C'.length : Nat) : Int) := by rw [List.length_append, List.length_singleton]; omega
      rw [e0] at hx1 hs
      have ih := grd_some r A B C' D E kn P l (nL - 1) (nR - 1) b hf.out hB h1 h2 (fun y hy => hA y (by rcases List.mem_append.mp hy with z | z <;> simp [z])) hx1 hs (fun z => by
        have h3 := hl z
        cases A with
        | nil => rw [List.length_nil]; omega
        | cons a A' =>
          exfalso
          have hg : (if nxW F (some l) r = true then !decide (∃ y ∈ (a :: A' ++ B ++ (C' ++ [x])).head?, y ∈ F) else _) = false := hg
          rw [z, if_pos rfl, Bool.not_eq_false'] at hg
          obtain ⟨y, hy, hyF⟩ := of_decide_eq_true hg
          have hy : some a = some y := hy
          cases hy
          exact hA a List.mem_cons_self hyF) (fun z => by have := hr z; rw [List.length_append, List.length_singleton] at this; omega) (by
            have := hsz
            rw [← this]
            show endI ((A ++ B ++ C').length : Int) r = endI (((A ++ B ++ (C' ++ [x])).length : Int) - 1) r
            congr 1
            simp
            omega)
      refine ⟨?_, ?_⟩
      · show gRun F (some l) (mvB (A ++ B ++ (C' ++ [x])) .out (gSide F (nxW F (some l) r) (A ++ B ++ (C' ++ [x])) .out)) r = F
        rw [hg, e1]
        exact ih.1
      · rw [← List.append_assoc]
        exact .cons (.outR x _) ih.2
    have hBF : ∀ y ∈ B, y ∈ F := fun y hy => by rw [hf.eq]; simp [hy]
    cases hg : gSide F (nxW F (some l) r) (A ++ B ++ C) .out with
    | true =>
      cases A with
      | cons x A' => exact goL x A' rfl hg
      | nil =>
        exfalso
        obtain ⟨y0, B', rfl⟩ := List.exists_cons_of_ne_nil hB
        cases hz : nxW F (some l) r with
        | true =>
          rw [hz] at hg
          have hg : (!decide (∃ y ∈ (([] : List Str) ++ (y0 :: B') ++ C).head?, y ∈ F)) = true := hg
          rw [decide_eq_true ⟨y0, rfl, hBF y0 List.mem_cons_self⟩] at hg
          cases hg
        | false =>
          rw [hz] at hg
          have hg : decide (∃ y ∈ (([] : List Str) ++ (y0 :: B') ++ C).getLast?, y ∈ F) = true := hg
          obtain ⟨y, hy, hyF⟩ := of_decide_eq_true hg
          have hCne : C ≠ [] := fun q => by
            rw [q] at hpos
            exact absurd hpos (by decide)
          have hlast : (([] : List Str) ++ (y0 :: B') ++ C).getLast? = C.getLast? := by
            rw [List.getLast?_append]
            cases hc : C.getLast? with
            | none => exact absurd (List.getLast?_eq_none_iff.mp hc) hCne
            | some y => rfl
          rw [hlast] at hy
          exact hA y (List.mem_append_right _ (List.mem_of_getLast? hy)) hyF
    | false =>
      rcases List.eq_nil_or_concat C with rfl | ⟨C', x, rfl⟩
      · exfalso
        have hBl : (A ++ B ++ []).getLast? = some (B.getLast hB) := by
          rw [List.append_nil, List.getLast?_append, List.getLast?_eq_some_getLast hB]
          rfl
        cases hz : nxW F (some l) r with
        | false =>
          rw [hz] at hg
          have hg : decide (∃ y ∈ (A ++ B ++ []).getLast?, y ∈ F) = false := hg
          rw [decide_eq_true ⟨_, hBl, hBF _ (List.getLast_mem hB)⟩] at hg
          cases hg
        | true =>
          rw [hz] at hg
          have hg : (!decide (∃ y ∈ (A ++ B ++ []).head?, y ∈ F)) = false := hg
          rw [Bool.not_eq_false'] at hg
          obtain ⟨y, hy, hyF⟩ := of_decide_eq_true hg
          cases A with
          | nil =>
            exact absurd hpos (by decide)
          | cons a A' =>
            have hy : some a = some y := hy
            cases hy
            exact hA _ List.mem_cons_self hyF
      · exact goR x C' (by simp) (by simpa using hg)
  | .inn c :: r, A, B, C, D, E, kn, P, l, nL, nR, b, hf, hB, h1, h2, hA, hx, hs, hl, hr, hsz => by
    by_cases hc : c ∈ F
    · -- a stayer
      have hx1 : ∀ y ∈ extL F ((A.length + C.length : Nat) : Int) r, 0 ≤ y := fun y hy => hx y (by
        show y ∈ _ :: extL F (if c ∈ F then _ else _) r
        rw [if_pos hc]
        exact List.mem_cons_of_mem _ hy)
      have hw : nxW F (some l) (.inn c :: r) = decide (F.idxOf c < l) := by
        show (if c ∈ F then decide (F.idxOf c < l) else _) = _
        rw [if_pos hc]
      have hs : (if F.idxOf c < l then (if 0 < nL then some (b, c) else swG F (some l) 0 ((A.length + C.length : Nat) : Int) ((A.length + C.length : Nat) : Int) (some c) r) else (if 0 < nR then some (b, c) else swG F (some l) ((A.length + C.length : Nat) : Int) 0 ((A.length + C.length : Nat) : Int) (some c) r)) = none := by
        have : (if c ∈ F then _ else _) = none := hs
        rw [if_pos hc] at this
        exact this
      have hlo : loN F (some l) (.inn c) = some l := by
        show (if c ∈ F then some l else some l) = some l
        split <;> rfl
      have hgs : ∀ w L, gSide F w L (.inn c) = w := fun w L => by
        show (decide (c ∈ F) == w) = w
        rw [decide_eq_true hc]
        cases w <;> rfl
      have eqn : ∀ L, gRun F (some l) L (.inn c :: r) = gRun F (some l) (mvB L (.inn c) (decide (F.idxOf c < l))) r := fun L => by
        show gRun F (loN F (some l) (.inn c)) (mvB L (.inn c) (gSide F (nxW F (some l) (.inn c :: r)) L (.inn c))) r = _
        rw [hlo, hgs, hw]
      rw [hw] at hl hr
      rcases hf.stay hc with ⟨D0, rfl, hf2⟩ | ⟨E0, rfl, hf2⟩
      · -- on the left
        have hi : F.idxOf c = D0.length := by
          have e : F = D0 ++ c :: (B ++ E) := by rw [hf.eq]; simp
          have hn := hf.nd
          rw [e] at hn ⊢
          exact idx_mid hn
        rw [List.length_append, List.length_singleton] at h1 h2
        have hlt : F.idxOf c < l := by omega
        rw [if_pos hlt] at hs
        have hnL : ¬ 0 < nL := fun z => by
          rw [if_pos z] at hs
          cases hs
        rw [if_neg hnL] at hs
        have hA0 : A = [] := List.eq_nil_of_length_eq_zero (by
          have := hl (decide_eq_true hlt)
          omega)
        subst hA0
        have ih := grd_some r [] (c :: B) C D0 E kn (P ++ [c]) l 0 _ (some c) hf2 (List.cons_ne_nil _ _) (by omega) (by rw [List.length_cons]; omega) hA hx1 hs (fun _ => by simp) (fun _ => by rw [List.length_nil]; omega) (by
          have := hsz
          rw [← this]
          show endI (((c :: B) ++ C).length : Int) r = endI ((([] ++ B ++ C).length : Int) + 1) r
          congr 1)
        refine ⟨?_, .cons (.inL c _) ih.2⟩
        rw [eqn, decide_eq_true hlt]
        exact ih.1
      · have hi : F.idxOf c = D.length + B.length := by
          have e : F = (D ++ B) ++ c :: E0 := by rw [hf.eq]
          have hn := hf.nd
          rw [e] at hn ⊢
          rw [idx_mid hn, List.length_append]
        have hge : ¬ F.idxOf c < l := by omega
        rw [if_neg hge] at hs
        have hnR : ¬ 0 < nR := fun z => by
          rw [if_pos z] at hs
          cases hs
        rw [if_neg hnR] at hs
        have hC0 : C = [] := List.eq_nil_of_length_eq_zero (by
          have := hr (decide_eq_false hge)
          omega)
        subst hC0
        have hBl : (B ++ [c]).length = B.length + 1 := by rw [List.length_append]; rfl
        have ih := grd_some r A (B ++ [c]) [] D E0 kn (P ++ [c]) l _ 0 (some c) hf2 (by simp) h1 (by omega) hA hx1 hs (fun _ => by rw [List.length_nil]; omega) (fun _ => by simp) (by
          have := hsz
          rw [← this]
          show endI ((A ++ (B ++ [c]) ++ []).length : Int) r = endI (((A ++ B ++ []).length : Int) + 1) r
          congr 1
          simp
          omega)
        have e1 : A ++ B ++ [] ++ [c] = A ++ (B ++ [c]) ++ [] := by simp
        refine ⟨?_, ?_⟩
        · rw [eqn, decide_eq_false hge]
          show gRun F (some l) (A ++ B ++ [] ++ [c]) r = F
          rw [e1]
          exact ih.1
        · refine .cons (.inR c _) ?_
          rw [e1]
          exact ih.2
    · -- a leaver
      have hx1 : ∀ y ∈ extL F (((A.length + C.length : Nat) : Int) + 1) r, 0 ≤ y := fun y hy => hx y (by
        show y ∈ _ :: extL F (if c ∈ F then _ else _) r
        rw [if_neg hc]
        exact List.mem_cons_of_mem _ hy)
      have hw : nxW F (some l) (.inn c :: r) = nxW F (some l) r := by
        show (if c ∈ F then _ else nxW F (some l) r) = _
        rw [if_neg hc]
      have hs : swG F (some l) nL nR (((A.length + C.length : Nat) : Int) + 1) b r = none := by
        have : (if c ∈ F then _ else swG F (some l) nL nR (((A.length + C.length : Nat) : Int) + 1) b r) = none := hs
        rw [if_neg hc] at this
        exact this
      have hlo : loN F (some l) (.inn c) = some l := by
        show (if c ∈ F then some l else some l) = some l
        split <;> rfl
      have eqn : ∀ L, gRun F (some l) L (.inn c :: r) = gRun F (some l) (mvB L (.inn c) (!nxW F (some l) r)) r := fun L => by
        show gRun F (loN F (some l) (.inn c)) (mvB L (.inn c) (decide (c ∈ F) == nxW F (some l) (.inn c :: r))) r = _
        rw [hlo, hw, decide_eq_false hc]
        cases nxW F (some l) r <;> rfl
      rw [hw] at hl hr
      cases hz : nxW F (some l) r with
      | true =>
        have e0 : ((A.length + C.length : Nat) : Int) + 1 = ((A.length + (C ++ [c]).length : Nat) : Int) := by rw [List.length_append, List.length_singleton]; omega
        rw [e0] at hx1 hs
        have ih := grd_some r A B (C ++ [c]) D E kn (P ++ [c]) l nL nR b (hf.pass hc) hB h1 h2 (fun y hy => by
          rw [← List.append_assoc] at hy
          rcases List.mem_append.mp hy with z | z
          · exact hA y z
          · rw [List.mem_singleton.mp z]; exact hc) hx1 hs (fun _ => hl hz) (fun q => by rw [hz] at q; cases q) (by
            have := hsz
            rw [← this]
            show endI ((A ++ B ++ (C ++ [c])).length : Int) r = endI (((A ++ B ++ C).length : Int) + 1) r
            congr 1
            simp
            omega)
        have e1 : A ++ B ++ C ++ [c] = A ++ B ++ (C ++ [c]) := by simp
        refine ⟨?_, ?_⟩
        · rw [eqn, hz]
          show gRun F (some l) (A ++ B ++ C ++ [c]) r = F
          rw [e1]
          exact ih.1
        · refine .cons (.inR c _) ?_
          rw [e1]
          exact ih.2
      | false =>
        have e0 : ((A.length + C.length : Nat) : Int) + 1 = (((c :: A).length + C.length : Nat) : Int) := by rw [List.length_cons]; omega
        rw [e0] at hx1 hs
        have ih := grd_some r (c :: A) B C D E kn (P ++ [c]) l nL nR b (hf.pass hc) hB h1 h2 (fun y hy => by
          rcases List.mem_cons.mp hy with z | z
          · rw [z]; exact hc
          · exact hA y z) hx1 hs (fun q => by rw [hz] at q; cases q) (fun _ => hr hz) (by
            have := hsz
            rw [← this]
            show endI ((c :: A ++ B ++ C).length : Int) r = endI (((A ++ B ++ C).length : Int) + 1) r
            congr 1)
        refine ⟨?_, .cons (.inL c _) ih.2⟩
        rw [eqn, hz]
        exact ih.1
end Ln


set_option Elab.async false
set_option linter.all false
set_option maxRecDepth 100000
set_option maxHeartbeats 4000000
namespace Ln
open PySem
theorem mvB_all {F L : List Str} {e : Ev} {s : Bool} (h : ∀ y ∈ L, y ∉ F) (hc : ∀ c, e = .inn c → c ∉ F) : ∀ y ∈ mvB L e s, y ∉ F := by
  intro y hy
  cases e with
  | inn c =>
    cases s with
    | true => exact (List.mem_cons.mp hy).elim (fun z => by rw [z]; exact hc c rfl) (h y)
    | false => exact (List.mem_append.mp hy).elim (h y) (fun z => by rw [List.mem_singleton.mp z]; exact hc c rfl)
  | out =>
    cases s with
    | true => exact h y (List.mem_of_mem_drop hy)
    | false => exact h y (List.mem_of_mem_take hy)
theorem mvB_len {L : List Str} {e : Ev} {s : Bool} (h : e = .out → L ≠ []) : ((mvB L e s).length : Int) = endI L.length [e] := by
  cases e with
  | inn c => exact mvB_in.len
  | out => exact (mvB_out (h rfl)).len
/-- before the first stayer of all -/
theorem grd_none {F : List Str} : ∀ (r : List Ev) (L D E kn P : List Str) (nL nR : Int) (b : Option Str), Fit F D [] E kn P r → (∀ y ∈ L, y ∉ F) →
    (∀ y ∈ extL F (L.length : Int) r, 0 ≤ y) → swG F none nL nR (L.length : Int) b r = none → endI (L.length : Int) r = F.length → gRun F none L r = F ∧ Run L r F
  | [], L, D, E, kn, P, nL, nR, b, hf, hA, hx, hs, hsz => by
    have e := hf.last (A := L) (C := []) (by rw [List.append_nil, List.append_nil]; exact hsz)
    rw [List.append_nil, List.append_nil] at e
    show L = F ∧ Run L [] F
    exact ⟨e, by rw [e]; exact .nil _⟩
  | .out :: r, L, D, E, kn, P, nL, nR, b, hf, hA, hx, hs, hsz => by
    have hx1 : ∀ y ∈ extL F ((L.length : Int) - 1) r, 0 ≤ y := fun y hy => hx y (List.mem_cons_of_mem _ hy)
    have hpos := ext_head hx1
    have hne : L ≠ [] := fun z => by
      rw [z] at hpos
      exact absurd hpos (by decide)
    have hl : ((mvB L .out (gSide F (nxW F none r) L .out)).length : Int) = (L.length : Int) - 1 := mvB_len fun _ => hne
    have ih := grd_none r (mvB L .out (gSide F (nxW F none r) L .out)) D E kn P (nL - 1) (nR - 1) b hf.out (mvB_all hA fun c z => by cases z) (by rw [hl]; exact hx1) (by rw [hl]; exact hs) (by rw [hl]; exact hsz)
    exact ⟨ih.1, .cons (mvB_out hne) ih.2⟩
  | .inn c :: r, L, D, E, kn, P, nL, nR, b, hf, hA, hx, hs, hsz => by
    by_cases hc : c ∈ F
    · have hx1 : ∀ y ∈ extL F (L.length : Int) r, 0 ≤ y := fun y hy => hx y (by
        show y ∈ _ :: extL F (if c ∈ F then _ else _) r
        rw [if_pos hc]
        exact List.mem_cons_of_mem _ hy)
      have hs : swG F (some (F.idxOf c)) 0 0 (L.length : Int) (some c) r = none := by
        have : (if c ∈ F then swG F (some (F.idxOf c)) 0 0 (L.length : Int) (some c) r else _) = none := hs
        rw [if_pos hc] at this
        exact this
      have eqn : gRun F none L (.inn c :: r) = gRun F (some (F.idxOf c)) (mvB L (.inn c) (nxW F (some (F.idxOf c)) r)) r := by
        have hlo : loN F none (.inn c) = some (F.idxOf c) := by
          show (if c ∈ F then some (F.idxOf c) else none) = _
          rw [if_pos hc]
        have hw : nxW F none (.inn c :: r) = nxW F (some (F.idxOf c)) r := by
          show (if c ∈ F then nxW F (some (F.idxOf c)) r else _) = _
          rw [if_pos hc]
        show gRun F (loN F none (.inn c)) (mvB L (.inn c) (decide (c ∈ F) == nxW F none (.inn c :: r))) r = _
        rw [hlo, hw, decide_eq_true hc]
        cases nxW F (some (F.idxOf c)) r <;> rfl
      have key : ∀ D' E', Fit F D' [c] E' kn (P ++ [c]) r → F.idxOf c = D'.length → gRun F none L (.inn c :: r) = F ∧ Run L (.inn c :: r) F := fun D' E' hf2 hi => by
        rw [eqn]
        have hsz' : endI ((L.length : Int) + 1) r = F.length := hsz
        cases hz : nxW F (some (F.idxOf c)) r with
        | true =>
          have ih := grd_some r [] [c] L D' E' kn (P ++ [c]) (F.idxOf c) 0 0 (some c) hf2 (List.cons_ne_nil _ _) (by omega) (by rw [hi]; exact Nat.le_add_right _ _) hA (by rw [List.length_nil, Nat.zero_add]; exact hx1) (by rw [List.length_nil, Nat.zero_add]; exact hs) (fun _ => by simp) (fun q => by rw [hz] at q; cases q) (by
            rw [← hsz']
            rfl)
          exact ⟨ih.1, .cons (.inL c _) ih.2⟩
        | false =>
          have e1 : L ++ [c] = L ++ [c] ++ [] := by simp
          have ih := grd_some r L [c] [] D' E' kn (P ++ [c]) (F.idxOf c) 0 0 (some c) hf2 (List.cons_ne_nil _ _) (by omega) (by rw [hi]; exact Nat.le_add_right _ _) (by rw [List.append_nil]; exact hA) (by rw [List.length_nil, Nat.add_zero]; exact hx1) (by rw [List.length_nil, Nat.add_zero]; exact hs) (fun q => by rw [hz] at q; cases q) (fun _ => by simp) (by
            rw [← hsz', ← e1, List.length_append]
            rfl)
          rw [← e1] at ih
          exact ⟨ih.1, .cons (.inR c _) ih.2⟩
      rcases hf.stay hc with ⟨D0, rfl, hf2⟩ | ⟨E0, rfl, hf2⟩
      · refine key D0 E hf2 ?_
        have e : F = D0 ++ c :: E := by rw [hf.eq]; simp
        have hn := hf.nd
        rw [e] at hn ⊢
        exact idx_mid hn
      · refine key D E0 hf2 ?_
        have e : F = D ++ c :: E0 := by rw [hf.eq]; simp
        have hn := hf.nd
        rw [e] at hn ⊢
        exact idx_mid hn
    · have hx1 : ∀ y ∈ extL F ((L.length : Int) + 1) r, 0 ≤ y := fun y hy => hx y (by
        show y ∈ _ :: extL F (if c ∈ F then _ else _) r
        rw [if_neg hc]
        exact List.mem_cons_of_mem _ hy)
      have hs : swG F none nL nR ((L.length : Int) + 1) b r = none := by
        have : (if c ∈ F then _ else swG F none nL nR ((L.length : Int) + 1) b r) = none := hs
        rw [if_neg hc] at this
        exact this
      have hlo : loN F none (.inn c) = none := by
        show (if c ∈ F then some (F.idxOf c) else none) = none
        rw [if_neg hc]
      have hl : ∀ s, ((mvB L (.inn c) s).length : Int) = (L.length : Int) + 1 := fun s => mvB_len fun z => by cases z
      have ih := grd_none r (mvB L (.inn c) (gSide F (nxW F none (.inn c :: r)) L (.inn c))) D E kn (P ++ [c]) nL nR b (hf.pass hc) (mvB_all hA fun d z => by cases z; exact hc) (by rw [hl]; exact hx1) (by rw [hl]; exact hs) (by rw [hl]; exact hsz)
      refine ⟨?_, .cons mvB_in ih.2⟩
      show gRun F (loN F none (.inn c)) _ r = F
      rw [hlo]
      exact ih.1
/-! ### from the conditions -/
def NP (o : List Nat) : Prop := ∀ i, i + 2 < o.length → ¬ (o.getD i 0 < o.getD (i + 1) 0 ∧ o.getD (i + 2) 0 < o.getD (i + 1) 0)
theorem np_of {o : List Nat} (h : fpk o = none) : NP o := fun i hi z => by
  unfold fpk at h
  rw [List.find?_eq_none] at h
  have := h (i + 1) (by rw [List.mem_range'_1]; omega)
  refine this ?_
  unfold isPk
  rw [Bool.and_eq_true]
  exact ⟨decide_eq_true z.1, decide_eq_true z.2⟩
theorem valley : ∀ (o : List Nat), o.Nodup → NP o → ∃ d u, o = d ++ u ∧ d.Pairwise (fun a b => b < a) ∧ u.Pairwise (fun a b => a < b)
  | [], _, _ => ⟨[], [], rfl, .nil, .nil⟩
  | [a], _, _ => ⟨[a], [], rfl, List.pairwise_singleton _ _, .nil⟩
  | a :: b :: r, hn, hp => by
    have hn' := List.nodup_cons.mp hn
    obtain ⟨d, u, e, hd, hu⟩ := valley (b :: r) hn'.2 fun i hi z => hp (i + 1) (by rw [List.length_cons]; omega) z
    have hab : a ≠ b := fun z => hn'.1 (by rw [z]; exact List.mem_cons_self)
    by_cases q : b < a
    · cases d with
      | nil => exact ⟨[a], u, by rw [e]; rfl, List.pairwise_singleton _ _, hu⟩
      | cons b' d =>
        have e' : b :: r = b' :: (d ++ u) := e
        obtain ⟨rfl, rfl⟩ := List.cons.inj e'
        refine ⟨a :: b :: d, u, rfl, List.pairwise_cons.mpr ⟨fun x hx => ?_, hd⟩, hu⟩
        rcases List.mem_cons.mp hx with z | z
        · rw [z]; exact q
        · exact Nat.lt_trans ((List.pairwise_cons.mp hd).1 x z) q
    · have hlt : a < b := by omega
      have hp0 := hp 0
      have second : ∀ x y, r = x :: y → ¬ x < b := fun x y ex z => by
        refine hp0 (by rw [ex]; simp) ⟨hlt, ?_⟩
        rw [ex]
        exact z
      have asc : ∀ u, u.Pairwise (fun a b => a < b) → b :: r = b :: u → (∀ x ∈ u, b < x) → ∃ d u, a :: b :: r = d ++ u ∧ d.Pairwise (fun a b => b < a) ∧ u.Pairwise (fun a b => a < b) := fun u hu e hb => by
        refine ⟨[], a :: b :: u, by rw [e]; rfl, .nil, List.pairwise_cons.mpr ⟨fun x hx => ?_, List.pairwise_cons.mpr ⟨hb, hu⟩⟩⟩
        rcases List.mem_cons.mp hx with z | z
        · rw [z]; exact hlt
        · exact Nat.lt_trans hlt (hb x z)
      cases d with
      | nil =>
        have e' : b :: r = u := e
        subst e'
        exact asc r (List.pairwise_cons.mp hu).2 rfl (List.pairwise_cons.mp hu).1
      | cons b' d =>
        have e' : b :: r = b' :: (d ++ u) := e
        obtain ⟨rfl, rfl⟩ := List.cons.inj e'
        cases d with
        | cons x d =>
          have h1 := (List.pairwise_cons.mp hd).1 x List.mem_cons_self
          exact absurd h1 (second x (d ++ u) rfl)
        | nil =>
          refine asc u hu rfl fun x hx => ?_
          cases u with
          | nil => cases hx
          | cons y u =>
            have h1 := second y u rfl
            have h2 : y ≠ b := fun z => (List.nodup_cons.mp hn'.2).1 (by rw [← z]; exact List.mem_cons_self)
            have h3 : b < y := by omega
            rcases List.mem_cons.mp hx with z | z
            · rw [z]; exact h3
            · exact Nat.lt_trans h3 ((List.pairwise_cons.mp hu).1 x z)
/-- a lane as those before, from the first to the last, and behind the common cars -/
theorem cut3 (S : List Str) : ∀ xs : List Str, (∀ x ∈ xs, x ∉ S) ∨ ∃ A M C, xs = A ++ M ++ C ∧ (∀ x ∈ A, x ∉ S) ∧ (∀ x ∈ C, x ∉ S) ∧ (∃ m ∈ M.head?, m ∈ S) ∧ ∃ z ∈ M.getLast?, z ∈ S
  | [] => .inl fun x hx => by cases hx
  | c :: r => by
    rcases cut3 S r with h | ⟨A, M, C, e, h1, h2, h3, h4⟩
    · by_cases q : c ∈ S
      · exact .inr ⟨[], [c], r, rfl, (fun x hx => by cases hx), h, ⟨c, rfl, q⟩, c, rfl, q⟩
      · refine .inl fun x hx => ?_
        rcases List.mem_cons.mp hx with z | z
        · rw [z]; exact q
        · exact h x z
    · by_cases q : c ∈ S
      · refine .inr ⟨[], c :: (A ++ M), C, by rw [e]; simp, (fun x hx => by cases hx), h2, ⟨c, rfl, q⟩, ?_⟩
        obtain ⟨z, hz, hzS⟩ := h4
        refine ⟨z, ?_, hzS⟩
        rw [List.getLast?_cons, List.getLast?_append, hz]
        rfl
      · refine .inr ⟨c :: A, M, C, by rw [e]; rfl, fun x hx => ?_, h2, h3, h4⟩
        rcases List.mem_cons.mp hx with z | z
        · rw [z]; exact q
        · exact h1 x z
theorem plcs_last {S : List Str} {M : List Str} {z : Str} {k : Nat} (h : z ∈ M.getLast?) (hz : z ∈ S) : (plcs S k M).getLast? = some (k + M.length - 1) := by
  obtain ⟨M0, rfl⟩ : ∃ M0, M = M0 ++ [z] := by
    rcases List.eq_nil_or_concat M with rfl | ⟨M0, y, rfl⟩
    · cases h
    · refine ⟨M0, ?_⟩
      have h : some y = some z := by simpa using h
      rw [Option.some.inj h, List.concat_eq_append]
  rw [plcs_app]
  have : plcs S (k + M0.length) [z] = [k + M0.length] := by
    show (if z ∈ S then _ else _) = _
    rw [if_pos hz]
    rfl
  rw [this, List.getLast?_append, List.length_append]
  show some (k + M0.length) = some (k + (M0.length + 1) - 1)
  congr 1
theorem brgL_of {l : List Nat} {a z : Nat} (h1 : l.head? = some a) (h2 : l.getLast? = some z) : brgL l = (a, z + 1) := by
  cases l with
  | nil => cases h1
  | cons b r =>
    have h1 : some b = some a := h1
    cases h1
    have : (a :: r).getLast (List.cons_ne_nil a r) = z := by
      rw [List.getLast?_eq_some_getLast (List.cons_ne_nil a r)] at h2
      exact Option.some.inj h2
    show (a, (a :: r).getLast _ + 1) = _
    rw [this]
theorem brg_cut (xs S : List Str) : ∃ A M C, xs = A ++ M ++ C ∧ (∀ x ∈ A, x ∉ S) ∧ (∀ x ∈ C, x ∉ S) ∧ cutN xs (brg xs S) = M ∧ brg xs S = (if M = [] then (0, 0) else (A.length, A.length + M.length)) := by
  rcases cut3 S xs with h | ⟨A, M, C, rfl, h1, h2, ⟨m, hm, hmS⟩, z, hz, hzS⟩
  · refine ⟨xs, [], [], by simp, h, (fun x hx => by cases hx), ?_, ?_⟩
    · unfold brg
      rw [plcs_none h]
      rfl
    · unfold brg
      rw [plcs_none h]
      rfl
  · have hM : M ≠ [] := fun q => by
      rw [q] at hm
      cases hm
    have hb : brg (A ++ M ++ C) S = (A.length, A.length + M.length) := by
      unfold brg
      rw [plcs_app, plcs_app, plcs_none h1, plcs_none h2, List.append_nil, List.nil_append, Nat.zero_add]
      have hl := plcs_last (k := A.length) hz hzS
      have hh : (plcs S A.length M).head? = some A.length := by
        cases M with
        | nil => exact absurd rfl hM
        | cons y r =>
          have hm : some y = some m := hm
          rw [← Option.some.inj hm] at hmS
          show (if y ∈ S then A.length :: plcs S (A.length + 1) r else _).head? = _
          rw [if_pos hmS]
          rfl
      rw [brgL_of hh hl]
      have : 0 < M.length := List.length_pos_iff.mpr hM
      congr 1
      omega
    refine ⟨A, M, C, rfl, h1, h2, ?_, ?_⟩
    · rw [hb, cut_mid]
    · rw [hb, if_neg hM]
theorem why_ok_parts {xs F : List Str} {es : List Ev} (h : why xs es F = .ok) : carsOk xs es F = true ∧ hasBlk xs F = true ∧ fpk (F.map fun c => (xs ++ arrs es).idxOf c) = none ∧ fneg (ext0 xs F es) = none ∧ swC xs es F = none := by
  unfold why at h
  by_cases h1 : carsOk xs es F = false
  · rw [if_pos h1] at h
    cases h
  rw [if_neg h1] at h
  by_cases h2 : hasBlk xs F = false
  · rw [if_pos h2] at h
    cases h
  rw [if_neg h2] at h
  cases h3 : fpk (F.map fun c => (xs ++ arrs es).idxOf c) with
  | some i =>
    rw [h3] at h
    cases h
  | none =>
    rw [h3] at h
    have h : (match fneg (ext0 xs F es) with | some t => Why.moment t | none => match swC xs es F with | some (b, c) => .switch b c | none => .ok) = .ok := h
    cases h4 : fneg (ext0 xs F es) with
    | some t =>
      rw [h4] at h
      cases h
    | none =>
      rw [h4] at h
      have h : (match swC xs es F with | some (b, c) => Why.switch b c | none => .ok) = .ok := h
      cases h5 : swC xs es F with
      | some p =>
        rw [h5] at h
        cases h
      | none => exact ⟨by simpa using h1, by simpa using h2, rfl, rfl, rfl⟩
/-- the conditions are enough, by the rule of histories -/
theorem poss_run {xs F : List Str} {es : List Ev} (h : why xs es F = .ok) (hn : (xs ++ arrs es).Nodup) (hF : F.Nodup) : gRun F (lo0 (brg F xs)) xs es = F ∧ Run xs es F := by
  obtain ⟨h1, h2, h3, h4, h5⟩ := why_ok_parts h
  unfold carsOk at h1
  rw [Bool.and_eq_true] at h1
  have hsz : endI (xs.length : Int) es = F.length := (of_decide_eq_true h1.1).symm
  have hmem : ∀ c ∈ F, c ∈ xs ++ arrs es := fun c hc => of_decide_eq_true (List.all_eq_true.mp h1.2 c hc)
  obtain ⟨A, B, C, e1, hA, hC, hb1, hb2⟩ := brg_cut xs F
  obtain ⟨D, B', E, e2, hD, hE, hb3, hb4⟩ := brg_cut F xs
  obtain rfl : B = B' := by
    rw [← hb1, ← hb3]
    exact of_decide_eq_true h2
  have hBF : ∀ x ∈ B, x ∈ F := fun x hx => by rw [e2]; simp [hx]
  have hBx : ∀ x ∈ B, x ∈ xs := fun x hx => by rw [e1]; simp [hx]
  have hdis : ∀ x ∈ xs, x ∉ arrs es := fun x hx z => (List.nodup_append.mp hn).2.2 x hx x z rfl
  -- the valley
  have hinj : (F.map fun c => (xs ++ arrs es).idxOf c).Nodup := by
    refine List.pairwise_map.mpr (List.Pairwise.imp_of_mem (fun {x y} hx hy hxy e => hxy ?_) hF)
    have hx' := List.idxOf_lt_length_of_mem (hmem x hx)
    have e1 := List.getElem_idxOf hx'
    have hy' := List.idxOf_lt_length_of_mem (hmem y hy)
    have e2 := List.getElem_idxOf hy'
    rw [← e1, ← e2]
    congr 1
  obtain ⟨d, u, ho, hd, hu⟩ := valley _ hinj (np_of h3)
  have hext : ∀ y ∈ ext0 xs F es, 0 ≤ y := fun y hy => by
    unfold fneg at h4
    rw [List.findIdx?_eq_none_iff] at h4
    have := of_decide_eq_false (h4 y hy)
    omega
  have hx0 : ((xs.length : Nat) : Int) - stayN xs F = ((A.length + C.length : Nat) : Int) := by
    rw [e1, filt_mid hA hBF hC, List.length_append, List.length_append]
    omega
  unfold ext0 at hext
  rw [hx0] at hext
  have hsw : swG F (lo0 (brg F xs)) ((brg xs F).1 - (0 - 0)) (((xs.length : Nat) : Int) - (brg xs F).2 - (0 - 0)) ((A.length + C.length : Nat) : Int) none es = none := by
    unfold swC ext0 at h5
    rw [hx0] at h5
    have := swF_G (F := F) (dep := depL 0 es) (ext := extL F ((A.length + C.length : Nat) : Int) es) es (lo0 (brg F xs)) (brg xs F).1 (((xs.length : Nat) : Int) - (brg xs F).2) none 0 0 0 ((A.length + C.length : Nat) : Int) rfl rfl
    rw [Nat.zero_add] at this
    rw [this] at h5
    have hd0 : (depL 0 es).getD 0 0 = 0 := by cases es with | nil => rfl | cons e r => cases e <;> rfl
    rw [hd0] at h5
    exact h5
  by_cases hB : B = []
  · -- no block
    subst hB
    have hFx : ∀ x ∈ F, x ∉ xs := fun x hx => by
      rw [e2, List.append_nil] at hx
      rcases List.mem_append.mp hx with z | z
      · exact hD x z
      · exact hE x z
    have hFe : F = F.take d.length ++ [] ++ F.drop d.length := by rw [List.append_nil, List.take_append_drop]
    have hdm : (F.take d.length).map (fun c => (xs ++ arrs es).idxOf c) = d := by
      rw [List.map_take, ho, List.take_left]
    have hum : (F.drop d.length).map (fun c => (xs ++ arrs es).idxOf c) = u := by
      rw [List.map_drop, ho, List.drop_left]
    have fit : Fit F (F.take d.length) [] (F.drop d.length) (xs ++ arrs es) xs es := by
      refine ⟨hFe, hF, rfl, hn, ?_, ?_, fun y hy => ?_, fun c hc hcF => ?_⟩
      · rw [← hdm] at hd
        exact List.pairwise_map.mp hd
      · rw [← hum] at hu
        exact List.pairwise_map.mp hu
      · rw [List.take_append_drop] at hy
        exact (List.mem_append.mp (hmem y hy)).elim (fun z => absurd z (hFx y hy)) id
      · rw [List.take_append_drop]
        exact hcF
    have hlo : lo0 (brg F xs) = none := by
      rw [hb4, if_pos rfl]
      rfl
    rw [hlo] at hsw ⊢
    have hAC : A.length + C.length = xs.length := by rw [e1]; simp
    rw [hAC] at hsw hext
    exact grd_none es xs _ _ _ _ _ _ _ fit (fun y hy z => hFx y z hy) hext hsw hsz
  · have hlo : lo0 (brg F xs) = some D.length := by
      rw [hb4, if_neg hB]
      unfold lo0
      rw [if_neg (show ¬ D.length + B.length = 0 by have := List.length_pos_iff.mpr hB; omega)]
    rw [hlo] at hsw ⊢
    rw [hb2, if_neg hB] at hsw
    -- the block's cars have the small numbers
    have small : ∀ x ∈ B, (xs ++ arrs es).idxOf x < xs.length := fun x hx => by
      rw [List.idxOf_append, if_pos (hBx x hx)]
      exact List.idxOf_lt_length_of_mem (hBx x hx)
    have large : ∀ x ∈ D ++ E, xs.length ≤ (xs ++ arrs es).idxOf x := fun x hx => by
      have hx' : x ∉ xs := (List.mem_append.mp hx).elim (hD x) (hE x)
      rw [List.idxOf_append, if_neg hx']
      omega
    have hm : D.map (fun c => (xs ++ arrs es).idxOf c) ++ B.map (fun c => (xs ++ arrs es).idxOf c) ++ E.map (fun c => (xs ++ arrs es).idxOf c) = d ++ u := by
      rw [← ho, e2, List.map_append, List.map_append]
    generalize hDm : D.map (fun c => (xs ++ arrs es).idxOf c) = dm at hm
    generalize hBm : B.map (fun c => (xs ++ arrs es).idxOf c) = bm at hm
    generalize hEm : E.map (fun c => (xs ++ arrs es).idxOf c) = em at hm
    have hbm : bm ≠ [] := fun z => hB (by rw [← hBm] at z; exact List.map_eq_nil_iff.mp z)
    have sm : ∀ x ∈ bm, x < xs.length := fun x hx => by
      rw [← hBm] at hx
      obtain ⟨y, hy, rfl⟩ := List.mem_map.mp hx
      exact small y hy
    have lg1 : ∀ x ∈ dm, xs.length ≤ x := fun x hx => by
      rw [← hDm] at hx
      obtain ⟨y, hy, rfl⟩ := List.mem_map.mp hx
      exact large y (List.mem_append_left _ hy)
    have lg2 : ∀ x ∈ em, xs.length ≤ x := fun x hx => by
      rw [← hEm] at hx
      obtain ⟨y, hy, rfl⟩ := List.mem_map.mp hx
      exact large y (List.mem_append_right _ hy)
    obtain ⟨b0, br, hbr⟩ := List.exists_cons_of_ne_nil hbm
    obtain ⟨bi, bl, hbl⟩ : ∃ bi bl, bm = bi ++ [bl] := ⟨_, _, (List.dropLast_concat_getLast hbm).symm⟩
    -- D falls
    have hDd : dm.Pairwise (fun a b => b < a) := by
      rw [List.append_assoc] at hm
      rcases List.append_eq_append_iff.mp hm with ⟨t, ht1, ht2⟩ | ⟨t, ht1, ht2⟩
      · rw [ht1] at hd
        exact (List.pairwise_append.mp hd).1
      · -- dm = d ++ t, u = t ++ (bm ++ em)
        cases t with
        | nil =>
          rw [List.append_nil] at ht1
          rw [ht1]
          exact hd
        | cons y t =>
          exfalso
          rw [ht2, hbr] at hu
          have h6 := (List.pairwise_append.mp hu).2.2 y List.mem_cons_self b0 (by simp)
          have h7 := lg1 y (by rw [ht1]; simp)
          have h8 := sm b0 (by rw [hbr]; simp)
          omega
    have hEu : em.Pairwise (fun a b => a < b) := by
      rcases List.append_eq_append_iff.mp hm with ⟨t, ht1, ht2⟩ | ⟨t, ht1, ht2⟩
      · -- d = dm ++ bm ++ t, em = t ++ u
        cases t with
        | nil =>
          rw [List.nil_append] at ht2
          rw [ht2]
          exact hu
        | cons y t =>
          exfalso
          rw [ht1, hbl] at hd
          have h6 := (List.pairwise_append.mp hd).2.2 bl (by simp) y List.mem_cons_self
          have h7 := lg2 y (by rw [ht2]; simp)
          have h8 := sm bl (by rw [hbl]; simp)
          omega
      · rw [ht2] at hu
        exact (List.pairwise_append.mp hu).2.1
    have fit : Fit F D B E (xs ++ arrs es) xs es := by
      refine ⟨e2, hF, rfl, hn, ?_, ?_, fun y hy => ?_, fun c hc hcF => ?_⟩
      · rw [← hDm] at hDd
        exact List.pairwise_map.mp hDd
      · rw [← hEm] at hEu
        exact List.pairwise_map.mp hEu
      · have hyx : y ∉ xs := (List.mem_append.mp hy).elim (hD y) (hE y)
        have hyF : y ∈ F := by
          rw [e2]
          rcases List.mem_append.mp hy with z | z
          · simp [z]
          · simp [z]
        exact (List.mem_append.mp (hmem y hyF)).elim (fun z => absurd z hyx) id
      · rw [e2] at hcF
        rcases List.mem_append.mp hcF with z | z
        · rcases List.mem_append.mp z with z | z
          · exact List.mem_append_left _ z
          · exact absurd hc (hdis c (hBx c z))
        · exact List.mem_append_right _ z
    have hxe : xs = A ++ B ++ C := e1
    have hres := grd_some es A B C D E (xs ++ arrs es) xs D.length (A.length : Int) (C.length : Int) none fit hB (Nat.le_refl _) (Nat.le_add_right _ _) (fun y hy => (List.mem_append.mp hy).elim (hA y) (hC y)) hext (by
      have e3 : ((A.length : Nat) : Int) - (0 - 0) = (A.length : Int) := by omega
      have e4 : ((xs.length : Nat) : Int) - ((A.length + B.length : Nat) : Int) - (0 - 0) = (C.length : Int) := by rw [e1, List.length_append, List.length_append]; omega
      have hsw' : swG F (some D.length) (((A.length : Nat) : Int) - (0 - 0)) (((xs.length : Nat) : Int) - ((A.length + B.length : Nat) : Int) - (0 - 0)) ((A.length + C.length : Nat) : Int) none es = none := hsw
      rw [e3, e4] at hsw'
      exact hsw') (fun _ => by omega) (fun _ => by omega) (by rw [← hxe]; exact hsz)
    rw [← hxe] at hres
    exact hres
/-- [8]: a lane is a final lane of some history exactly if the conditions hold -/
theorem why_iff {xs F : List Str} {es : List Ev} (hn : (xs ++ arrs es).Nodup) (hF : F.Nodup) : why xs es F = .ok ↔ Run xs es F :=
  ⟨fun h => (poss_run h hn hF).2, fun h => why_run h hn⟩
end Ln


set_option Elab.async false
set_option linter.all false
set_option maxRecDepth 100000
set_option maxHeartbeats 4000000
namespace Ln
open PySem
/-! ### lanes by the possible numbers of leavers on the left, event by event -/
/-- the numbers behind an event, before a row without stayers is made whole -/
def dpP (F : List Str) (P : Int → Prop) (run : List Str) (total : Int) : Ev → Int → Prop
  | .out, k => (P k ∧ k ≤ total - 1) ∨ (P (k + 1) ∧ k + 1 > 0)
  | .inn c, k => if c ∈ F then
      (if run = [] then k = 0 ∨ k = total else if F.idxOf c < F.idxOf (run.headD c) then P k ∧ k = 0 else P k ∧ k = total)
    else P k ∨ P (k - 1)
def dpRun (F run : List Str) : Ev → List Str
  | .out => run
  | .inn c => if c ∈ F then (if run = [] ∨ F.idxOf c < F.idxOf (run.headD c) then c :: run else run ++ [c]) else run
def dpT (F : List Str) (total : Int) : Ev → Int
  | .out => total - 1
  | .inn c => if c ∈ F then total else total + 1
def dpN (F : List Str) (P : Int → Prop) (run : List Str) (total : Int) (e : Ev) (k : Int) : Prop :=
  if dpRun F run e = [] then 0 ≤ k ∧ k ≤ dpT F total e else dpP F P run total e k
def dpR (F : List Str) : (Int → Prop) → List Str → Int → List Ev → Prop
  | _, run, total, [] => run = F ∧ total = 0
  | P, run, total, e :: r => (∃ k, dpP F P run total e k) ∧ 0 ≤ dpT F total e ∧ dpR F (dpN F P run total e) (dpRun F run e) (dpT F total e) r
theorem dpN_ne {F : List Str} {P : Int → Prop} {run : List Str} {total : Int} {e : Ev} (h : dpRun F run e ≠ []) : dpN F P run total e = dpP F P run total e := by
  funext k
  unfold dpN
  rw [if_neg h]
theorem dpN_nil {F : List Str} {P : Int → Prop} {run : List Str} {total : Int} {e : Ev} (h : dpRun F run e = []) : dpN F P run total e = fun k => 0 ≤ k ∧ k ≤ dpT F total e := by
  funext k
  unfold dpN
  rw [if_pos h]
/-- each number is that of some history -/
theorem dp_sound {F xs : List Str} : ∀ (r : List Ev) (pre : List Ev) (P : Int → Prop) (run : List Str) (total : Int),
    (∀ k, P k → ∃ A C : List Str, (A.length : Int) = k ∧ ((A.length + C.length : Nat) : Int) = total ∧ Run xs pre (A ++ run ++ C)) → (∃ k, P k) → dpR F P run total r → Run xs (pre ++ r) F
  | [], pre, P, run, total, hP, ⟨k, hk⟩, h => by
    obtain ⟨h1, h2⟩ : run = F ∧ total = 0 := h
    obtain ⟨A, C, e1, e2, hr⟩ := hP k hk
    have hA : A = [] := List.eq_nil_of_length_eq_zero (by omega)
    have hC : C = [] := List.eq_nil_of_length_eq_zero (by omega)
    rw [hA, hC, h1] at hr
    simpa using hr
  | e :: r, pre, P, run, total, hP, hne, h => by
    obtain ⟨⟨k1, hk1⟩, ht, hd⟩ := h
    have wit : ∀ k, dpP F P run total e k → ∃ A C : List Str, (A.length : Int) = k ∧ ((A.length + C.length : Nat) : Int) = dpT F total e ∧ Run xs (pre ++ [e]) (A ++ dpRun F run e ++ C) := fun k hk => by
      cases e with
      | out =>
        rcases (show (P k ∧ k ≤ total - 1) ∨ (P (k + 1) ∧ k + 1 > 0) from hk) with ⟨h1, h2⟩ | ⟨h1, h2⟩
        · obtain ⟨A, C, e1, e2, hr⟩ := hP k h1
          obtain ⟨C', x, rfl⟩ : ∃ C' x, C = C' ++ [x] := by
            rcases List.eq_nil_or_concat C with rfl | ⟨C', x, rfl⟩
            · simp at e2
              omega
            · exact ⟨C', x, by simp⟩
          refine ⟨A, C', e1, ?_, hr.snoc ?_⟩
          · show _ = total - 1
            rw [List.length_append, List.length_singleton] at e2
            omega
          · show Mv _ .out (A ++ run ++ C')
            rw [← List.append_assoc]
            exact .outR x _
        · obtain ⟨A, C, e1, e2, hr⟩ := hP (k + 1) h1
          cases A with
          | nil => simp at e1; omega
          | cons x A =>
            rw [List.length_cons] at e1 e2
            refine ⟨A, C, by omega, ?_, hr.snoc (.outL x _)⟩
            show _ = total - 1
            omega
      | inn c =>
        by_cases hc : c ∈ F
        · have hT : dpT F total (.inn c) = total := by
            show (if c ∈ F then total else _) = _
            rw [if_pos hc]
          rw [hT]
          have hR : dpRun F run (.inn c) = if run = [] ∨ F.idxOf c < F.idxOf (run.headD c) then c :: run else run ++ [c] := by
            show (if c ∈ F then _ else _) = _
            rw [if_pos hc]
          have hkk : (if run = [] then k = 0 ∨ k = total else if F.idxOf c < F.idxOf (run.headD c) then P k ∧ k = 0 else P k ∧ k = total) := by
            have h2 : (if c ∈ F then (if run = [] then k = 0 ∨ k = total else if F.idxOf c < F.idxOf (run.headD c) then P k ∧ k = 0 else P k ∧ k = total) else P k ∨ P (k - 1)) := hk
            rw [if_pos hc] at h2
            exact h2
          rw [hR]
          by_cases hn : run = []
          · rw [if_pos hn] at hkk
            rw [if_pos (.inl hn)]
            subst hn
            obtain ⟨k0, hk0⟩ := hne
            obtain ⟨A, C, e1, e2, hr⟩ := hP k0 hk0
            have e3 : (((A ++ C).length : Nat) : Int) = total := by rw [List.length_append]; exact e2
            rw [List.append_nil] at hr
            rcases hkk with rfl | rfl
            · refine ⟨[], A ++ C, rfl, by rw [List.length_nil, Nat.zero_add]; exact e3, hr.snoc ?_⟩
              show Mv _ _ (c :: (A ++ C))
              exact .inL c _
            · refine ⟨A ++ C, [], e3, by rw [List.length_nil, Nat.add_zero]; exact e3, hr.snoc ?_⟩
              show Mv _ _ (A ++ C ++ [c] ++ [])
              rw [List.append_nil]
              exact .inR c _
          · rw [if_neg hn] at hkk
            by_cases hl : F.idxOf c < F.idxOf (run.headD c)
            · rw [if_pos hl] at hkk
              rw [if_pos (.inr hl)]
              obtain ⟨hq, rfl⟩ := hkk
              obtain ⟨A, C, e1, e2, hr⟩ := hP 0 hq
              have hA : A = [] := List.eq_nil_of_length_eq_zero (by omega)
              subst hA
              exact ⟨[], C, rfl, e2, hr.snoc (.inL c _)⟩
            · rw [if_neg hl] at hkk
              rw [if_neg (fun z => z.elim hn hl)]
              obtain ⟨hq, hkt⟩ := hkk
              obtain ⟨A, C, e1, e2, hr⟩ := hP _ hq
              have hC : C = [] := List.eq_nil_of_length_eq_zero (by omega)
              subst hC
              refine ⟨A, [], e1, e2, hr.snoc ?_⟩
              have : A ++ (run ++ [c]) ++ [] = A ++ run ++ [] ++ [c] := by simp
              rw [this]
              exact .inR c _
        · have hT : dpT F total (.inn c) = total + 1 := by
            show (if c ∈ F then total else _) = _
            rw [if_neg hc]
          have hR : dpRun F run (.inn c) = run := by
            show (if c ∈ F then _ else run) = _
            rw [if_neg hc]
          rw [hT, hR]
          have hk : P k ∨ P (k - 1) := by
            have h2 : (if c ∈ F then (if run = [] then k = 0 ∨ k = total else if F.idxOf c < F.idxOf (run.headD c) then P k ∧ k = 0 else P k ∧ k = total) else P k ∨ P (k - 1)) := hk
            rw [if_neg hc] at h2
            exact h2
          rcases hk with h1 | h1
          · obtain ⟨A, C, e1, e2, hr⟩ := hP k h1
            refine ⟨A, C ++ [c], e1, by rw [List.length_append, List.length_singleton]; omega, hr.snoc ?_⟩
            rw [← List.append_assoc]
            exact .inR c _
          · obtain ⟨A, C, e1, e2, hr⟩ := hP (k - 1) h1
            exact ⟨c :: A, C, by rw [List.length_cons]; omega, by rw [List.length_cons]; omega, hr.snoc (.inL c _)⟩
    have e1 : pre ++ e :: r = (pre ++ [e]) ++ r := by simp
    rw [e1]
    refine dp_sound r (pre ++ [e]) _ _ _ (fun k hk => ?_) ?_ hd
    · by_cases hn : dpRun F run e = []
      · rw [dpN_nil hn] at hk
        obtain ⟨A, C, _, e2, hr⟩ := wit k1 hk1
        rw [hn, List.append_nil] at hr
        have hl : (((A ++ C).length : Nat) : Int) = dpT F total e := by rw [List.length_append]; exact e2
        refine ⟨(A ++ C).take k.toNat, (A ++ C).drop k.toNat, ?_, ?_, ?_⟩
        · rw [List.length_take]
          omega
        · rw [List.length_take, List.length_drop]
          omega
        · rw [hn, List.append_nil, List.take_append_drop]
          exact hr
      · rw [dpN_ne hn] at hk
        exact wit k hk
    · by_cases hn : dpRun F run e = []
      · exact ⟨0, by rw [dpN_nil hn]; exact ⟨Int.le_refl _, ht⟩⟩
      · exact ⟨k1, by rw [dpN_ne hn]; exact hk1⟩
/-- .. and that of each history is there -/
theorem dp_full {F A B C D E : List Str} {r : List Ev} (h : Spl F A B C D E r) (hF : F.Nodup) : ∀ P : Int → Prop, (B ≠ [] → P A.length) → (B = [] → P 0) → dpR F P B ((A.length + C.length : Nat) : Int) r := by
  induction h with
  | nil => exact fun _ _ _ => ⟨rfl, rfl⟩
  | @mid A C A' C' D E r e _ ih =>
    intro P _ h0
    have : A'.length + C'.length = A.length + C.length := by rw [← List.length_append, e, List.length_append]
    rw [this]
    exact ih P (fun z => absurd rfl z) h0
  | @stL B C D E r c hS ih =>
    intro P h1 h0
    have e : F = D ++ c :: (B ++ E) := by rw [hS.eqF]; simp
    have hc : c ∈ F := by rw [e]; simp
    have hi : F.idxOf c = D.length := by
      have hn := hF
      rw [e] at hn ⊢
      exact idx_mid hn
    have hT : dpT F ((([] : List Str).length + C.length : Nat) : Int) (.inn c) = ((([] : List Str).length + C.length : Nat) : Int) := by
      show (if c ∈ F then _ else _) = _
      rw [if_pos hc]
    have hlt : B = [] ∨ F.idxOf c < F.idxOf (B.headD c) := by
      cases B with
      | nil => exact .inl rfl
      | cons b B =>
        refine .inr ?_
        have e2 : F = (D ++ [c]) ++ b :: (B ++ E) := by rw [hS.eqF]; simp
        have hb : F.idxOf b = (D ++ [c]).length := by
          have hn := hF
          rw [e2] at hn ⊢
          exact idx_mid hn
        show F.idxOf c < F.idxOf b
        rw [hi, hb, List.length_append, List.length_singleton]
        omega
    have hR : dpRun F B (.inn c) = c :: B := by
      show (if c ∈ F then _ else _) = _
      rw [if_pos hc, if_pos hlt]
    have h00 : dpP F P B ((([] : List Str).length + C.length : Nat) : Int) (.inn c) 0 := by
      show (if c ∈ F then _ else _)
      rw [if_pos hc]
      by_cases hB : B = []
      · rw [if_pos hB]
        exact .inl rfl
      · rw [if_neg hB, if_pos (hlt.resolve_left hB)]
        exact ⟨h1 hB, rfl⟩
    refine ⟨⟨0, h00⟩, by rw [hT]; omega, ?_⟩
    rw [hT, dpN_ne (by rw [hR]; exact List.cons_ne_nil _ _), hR]
    exact ih _ (fun _ => h00) (fun z => absurd z (List.cons_ne_nil _ _))
  | @stR A B D E r c hS ih =>
    intro P h1 h0
    have e : F = (D ++ B) ++ c :: E := by rw [hS.eqF]; simp
    have hc : c ∈ F := by rw [e]; simp
    have hi : F.idxOf c = D.length + B.length := by
      have hn := hF
      rw [e] at hn ⊢
      rw [idx_mid hn, List.length_append]
    have hT : dpT F ((A.length + ([] : List Str).length : Nat) : Int) (.inn c) = ((A.length + ([] : List Str).length : Nat) : Int) := by
      show (if c ∈ F then _ else _) = _
      rw [if_pos hc]
    have hge : B ≠ [] → ¬ F.idxOf c < F.idxOf (B.headD c) := fun hB => by
      obtain ⟨b, B', rfl⟩ := List.exists_cons_of_ne_nil hB
      have e2 : F = D ++ b :: (B' ++ [c] ++ E) := by rw [hS.eqF]; simp
      have hb : F.idxOf b = D.length := by
        have hn := hF
        rw [e2] at hn ⊢
        exact idx_mid hn
      show ¬ F.idxOf c < F.idxOf b
      rw [hi, hb]
      omega
    have hR : dpRun F B (.inn c) = B ++ [c] := by
      show (if c ∈ F then _ else _) = _
      rw [if_pos hc]
      by_cases hB : B = []
      · rw [if_pos (.inl hB), hB]
        rfl
      · rw [if_neg (fun z => z.elim hB (hge hB))]
    have h00 : dpP F P B ((A.length + ([] : List Str).length : Nat) : Int) (.inn c) A.length := by
      show (if c ∈ F then _ else _)
      rw [if_pos hc]
      by_cases hB : B = []
      · rw [if_pos hB]
        exact .inr (by rw [List.length_nil, Nat.add_zero])
      · rw [if_neg hB, if_neg (hge hB)]
        exact ⟨h1 hB, by rw [List.length_nil, Nat.add_zero]⟩
    refine ⟨⟨_, h00⟩, by rw [hT]; omega, ?_⟩
    rw [hT, dpN_ne (by rw [hR]; simp), hR]
    exact ih _ (fun _ => h00) (fun z => by simp at z)
  | @lvL A B C D E r c hc _ ih =>
    intro P h1 h0
    have hT : dpT F ((A.length + C.length : Nat) : Int) (.inn c) = (((c :: A).length + C.length : Nat) : Int) := by
      show (if c ∈ F then _ else _) = _
      rw [if_neg hc, List.length_cons]
      omega
    have hR : dpRun F B (.inn c) = B := by
      show (if c ∈ F then _ else B) = _
      rw [if_neg hc]
    have hp : ∀ k, P k → dpP F P B ((A.length + C.length : Nat) : Int) (.inn c) (k + 1) := fun k hk => by
      show (if c ∈ F then _ else _)
      rw [if_neg hc]
      exact .inr (by rw [show k + 1 - 1 = k by omega]; exact hk)
    have hex : ∃ k, dpP F P B ((A.length + C.length : Nat) : Int) (.inn c) k := by
      by_cases hB : B = []
      · exact ⟨_, hp 0 (h0 hB)⟩
      · exact ⟨_, hp _ (h1 hB)⟩
    refine ⟨hex, by rw [hT]; omega, ?_⟩
    rw [hR, hT]
    refine ih _ (fun hB => ?_) (fun hB => ?_)
    · rw [dpN_ne (by rw [hR]; exact hB)]
      have := hp _ (h1 hB)
      rw [List.length_cons]
      exact this
    · rw [dpN_nil (by rw [hR]; exact hB), hT]
      exact ⟨Int.le_refl _, by omega⟩
  | @lvR A B C D E r c hc _ ih =>
    intro P h1 h0
    have hT : dpT F ((A.length + C.length : Nat) : Int) (.inn c) = ((A.length + (C ++ [c]).length : Nat) : Int) := by
      show (if c ∈ F then _ else _) = _
      rw [if_neg hc, List.length_append, List.length_singleton]
      omega
    have hR : dpRun F B (.inn c) = B := by
      show (if c ∈ F then _ else B) = _
      rw [if_neg hc]
    have hp : ∀ k, P k → dpP F P B ((A.length + C.length : Nat) : Int) (.inn c) k := fun k hk => by
      show (if c ∈ F then _ else _)
      rw [if_neg hc]
      exact .inl hk
    have hex : ∃ k, dpP F P B ((A.length + C.length : Nat) : Int) (.inn c) k := by
      by_cases hB : B = []
      · exact ⟨_, hp 0 (h0 hB)⟩
      · exact ⟨_, hp _ (h1 hB)⟩
    refine ⟨hex, by rw [hT]; omega, ?_⟩
    rw [hR, hT]
    refine ih _ (fun hB => ?_) (fun hB => ?_)
    · rw [dpN_ne (by rw [hR]; exact hB)]
      exact hp _ (h1 hB)
    · rw [dpN_nil (by rw [hR]; exact hB), hT]
      exact ⟨Int.le_refl _, by omega⟩
  | @outL A B C D E r x _ ih =>
    intro P h1 h0
    have hT : dpT F (((x :: A).length + C.length : Nat) : Int) .out = ((A.length + C.length : Nat) : Int) := by
      show (((x :: A).length + C.length : Nat) : Int) - 1 = _
      rw [List.length_cons]
      omega
    have hp : B ≠ [] → dpP F P B (((x :: A).length + C.length : Nat) : Int) .out A.length := fun hB => .inr ⟨by have := h1 hB; rw [List.length_cons] at this; exact this, by omega⟩
    have h00 : B = [] → dpP F P B (((x :: A).length + C.length : Nat) : Int) .out 0 := fun hB => .inl ⟨h0 hB, by rw [List.length_cons]; omega⟩
    have hex : ∃ k, dpP F P B (((x :: A).length + C.length : Nat) : Int) .out k := by
      by_cases hB : B = []
      · exact ⟨_, h00 hB⟩
      · exact ⟨_, hp hB⟩
    refine ⟨hex, by rw [hT]; omega, ?_⟩
    rw [hT]
    refine ih _ (fun hB => ?_) (fun hB => ?_)
    · rw [dpN_ne (show dpRun F B .out ≠ [] from hB)]
      exact hp hB
    · rw [dpN_nil (show dpRun F B .out = [] from hB), hT]
      exact ⟨Int.le_refl _, by omega⟩
  | @outR A B C D E r x _ ih =>
    intro P h1 h0
    have hT : dpT F ((A.length + (C ++ [x]).length : Nat) : Int) .out = ((A.length + C.length : Nat) : Int) := by
      show ((A.length + (C ++ [x]).length : Nat) : Int) - 1 = _
      rw [List.length_append, List.length_singleton]
      omega
    have hp : B ≠ [] → dpP F P B ((A.length + (C ++ [x]).length : Nat) : Int) .out A.length := fun hB => .inl ⟨h1 hB, by rw [List.length_append, List.length_singleton]; omega⟩
    have h00 : B = [] → dpP F P B ((A.length + (C ++ [x]).length : Nat) : Int) .out 0 := fun hB => .inl ⟨h0 hB, by rw [List.length_append, List.length_singleton]; omega⟩
    have hex : ∃ k, dpP F P B ((A.length + (C ++ [x]).length : Nat) : Int) .out k := by
      by_cases hB : B = []
      · exact ⟨_, h00 hB⟩
      · exact ⟨_, hp hB⟩
    refine ⟨hex, by rw [hT]; omega, ?_⟩
    rw [hT]
    refine ih _ (fun hB => ?_) (fun hB => ?_)
    · rw [dpN_ne (show dpRun F B .out ≠ [] from hB)]
      exact hp hB
    · rw [dpN_nil (show dpRun F B .out = [] from hB), hT]
      exact ⟨Int.le_refl _, by omega⟩
/-- what the law decides -/
def canAr (xs : List Str) (es : List Ev) (F : List Str) : Prop :=
  (∀ c ∈ F, c ∈ xs ++ arrs es) ∧ cutN xs (brg xs F) = F.filter (fun c => decide (c ∈ xs)) ∧
    dpR F (fun k => k = (brg xs F).1) (F.filter fun c => decide (c ∈ xs)) ((xs.length : Int) - ((F.filter fun c => decide (c ∈ xs)).length : Nat)) es
theorem canAr_iff {xs F : List Str} {es : List Ev} (hn : (xs ++ arrs es).Nodup) : canAr xs es F ↔ Run xs es F := by
  constructor
  · rintro ⟨_, h2, h3⟩
    obtain ⟨A, M, C, e, hA, hC, hb1, hb2⟩ := brg_cut xs F
    rw [hb1] at h2
    rw [← h2] at h3
    have := dp_sound (xs := xs) es [] (fun k => k = ((brg xs F).1 : Int)) _ _ (fun k hk => ?_) ⟨_, rfl⟩ h3
    · exact this
    · by_cases hM : M = []
      · have hk : k = ((brg xs F).1 : Int) := hk
        rw [hb2, if_pos hM] at hk
        refine ⟨[], xs, by rw [hk]; rfl, ?_, ?_⟩
        · rw [hM]
          show ((0 + xs.length : Nat) : Int) = (xs.length : Int) - ((0 : Nat) : Int)
          omega
        · rw [hM]
          exact .nil _
      · have hk : k = ((brg xs F).1 : Int) := hk
        rw [hb2, if_neg hM] at hk
        refine ⟨A, C, hk.symm, ?_, ?_⟩
        · rw [e, List.length_append, List.length_append]
          omega
        · rw [← e]
          exact .nil _
  · intro h
    have hF := h.nodup hn
    refine ⟨h.mem, ?_⟩
    obtain ⟨A, B, C, D, E, rfl, hS, hA⟩ := split h hn
    obtain ⟨b1, b2⟩ := hS.blk hn hA
    have hl : ∀ x ∈ D ++ E, x ∉ A ++ B ++ C := fun x hx z => (List.nodup_append.mp hn).2.2 x z x (hS.late x hx) rfl
    have hfil : F.filter (fun c => decide (c ∈ A ++ B ++ C)) = B := by
      have e1 : D.filter (fun c => decide (c ∈ A ++ B ++ C)) = [] := List.filter_eq_nil_iff.mpr fun x hx => by simpa using hl x (List.mem_append_left _ hx)
      have e2 : E.filter (fun c => decide (c ∈ A ++ B ++ C)) = [] := List.filter_eq_nil_iff.mpr fun x hx => by simpa using hl x (List.mem_append_right _ hx)
      have e3 : B.filter (fun c => decide (c ∈ A ++ B ++ C)) = B := List.filter_eq_self.mpr fun x hx => decide_eq_true (by simp [hx])
      have : (D ++ B ++ E).filter (fun c => decide (c ∈ A ++ B ++ C)) = B := by rw [List.filter_append, List.filter_append, e1, e2, e3]; simp
      rw [← hS.eqF] at this
      exact this
    rw [hfil]
    have ht : (((A ++ B ++ C).length : Nat) : Int) - (B.length : Nat) = ((A.length + C.length : Nat) : Int) := by
      rw [List.length_append, List.length_append]
      omega
    rw [ht]
    refine ⟨?_, dp_full hS hF _ (fun hB => ?_) (fun hB => ?_)⟩
    · rw [b1]
      by_cases q : B = []
      · rw [if_pos q, q]
        rfl
      · rw [if_neg q, cut_mid]
    · show ((A.length : Nat) : Int) = ((brg (A ++ B ++ C) F).1 : Int)
      rw [b1, if_neg hB]
    · show (0 : Int) = ((brg (A ++ B ++ C) F).1 : Int)
      rw [b1, if_pos hB]
      rfl
end Ln


set_option Elab.async false
set_option linter.all false
set_option maxRecDepth 100000
set_option maxHeartbeats 4000000
namespace Ln
open PySem PySem.Spec PyProof.Rows L2 GxR
structure Bs (mg : Str → Option Value) : Prop where
  srt : mg "sorted" = none
theorem filt_takeI (xs : List Int) (p : Int → Bool) (i : Nat) (c : Int) (h : xs[i]? = some c) : (xs.take (i + 1)).filter p = (xs.take i).filter p ++ if p c = true then [c] else [] := by
  rw [List.take_add_one, h, List.filter_append]
  congr 1
  show List.filter p [c] = _
  by_cases q : p c = true
  · rw [if_pos q, List.filter_cons_of_pos q]
    rfl
  · rw [if_neg q, List.filter_cons_of_neg q]
    rfl
theorem nd_len : ∀ {L M : List Int}, L.Nodup → (∀ x ∈ L, x ∈ M) → L.length ≤ M.length
  | [], M, _, _ => Nat.zero_le _
  | x :: r, M, h, hs => by
    obtain ⟨h1, h2⟩ := List.nodup_cons.mp h
    have hx := hs x List.mem_cons_self
    have ih := nd_len (L := r) (M := M.erase x) h2 fun y hy => (List.mem_erase_of_ne fun e => h1 (by rw [← e]; exact hy)).mpr (hs y (List.mem_cons_of_mem _ hy))
    rw [List.length_erase_of_mem hx] at ih
    have : 0 < M.length := List.length_pos_of_mem hx
    rw [List.length_cons]
    omega
theorem sm_refl {H : Hp} : L2.Same H H := fun _ _ e => e
theorem sm_trans {H H1 H2 : Hp} (a : L2.Same H H1) (b : L2.Same H1 H2) : L2.Same H H2 := fun c u e => b c u (a c u e)
theorem sm_none {H H1 : Hp} {a : Addr} (k : L2.Same H H1) (h : H1 a = none) : H a = none := by
  cases e : H a with
  | none => rfl
  | some u =>
    rw [k _ _ e] at h
    cases h
/-- a list that is new: writing to it leaves the old as it is -/
theorem sm_upd {H H1 : Hp} {a : Addr} {o : HO} (k : L2.Same H H1) (h : H a = none) : L2.Same H (L2.upd H1 a o) := fun b u e => by
  rw [upd_ne (fun z => by rw [z, h] at e; cases e)]
  exact k b u e
theorem sm_new {H H1 : Hp} {p : Addr} {o : HO} (k : L2.Same H H1) (hp : H1 p = none) : L2.Same H (L2.upd H1 p o) := sm_upd k (sm_none k hp)
theorem sq_sm {K : PySem.W.Frag} {H H1 : Hp} {a : Addr} {xs : List V} (h : SqL K H a xs) (k : L2.Same H H1) : SqL K H1 a xs := by
  rcases h with (e | ⟨ob, e⟩) | e
  · exact .inl (.inl (k _ _ e))
  · exact .inl (.inr ⟨ob, k _ _ e⟩)
  · exact .inr e
theorem shaped_ints' (ns : List Int) : SeqAt.shaped (.list (ns.map PyData.int)) = true := by
  have lay : ∀ ns : List Int, PyData.canLayAll0 (ns.map PyData.int) = true := fun ns => by
    induction ns with
    | nil => rfl
    | cons n r ih =>
      rw [List.map_cons, PyData.canLayAll0, ih]
      rfl
  have dep : ∀ ns : List Int, PyData.depthAll (ns.map PyData.int) ≤ 1 := fun ns => by
    induction ns with
    | nil => rw [List.map_nil, PyData.depthAll]; omega
    | cons n r ih =>
      rw [List.map_cons, PyData.depthAll, PyData.depth]
      omega
  unfold SeqAt.shaped
  rw [Bool.and_eq_true]
  refine ⟨by rw [PyData.canLay0]; exact lay ns, decide_eq_true ?_⟩
  have := dep ns
  rw [PyData.depth]
  omega
theorem eqv_nilT (xs : List Str) : PyData.eqv (.tuple (xs.map PyData.str)) (.tuple []) = decide (xs = []) := by
  have := eqv_strs xs []
  exact this
theorem sortset {K : PySem.W.Frag} {w : World} {H : Hp} {D : Addr} {ns : List Int} {Q : VK} (hD : SqL K H D (ns.map V.int)) (few : ns.length < 64)
    (h : ∀ (H' : Hp) (p : Addr) (ms : List Int), L2.Same H H' → H' p = some (.lst (ms.map V.int)) → ms.Nodup → (∀ k, k ∈ ms ↔ k ∈ ns) → Q (.ref p) H') : rSetI K w [.ref D] H fun x H1 => rSortedSet w [x] H1 Q :=
  ⟨D, ns, rfl, hD, by omega, fun a L ha nd hm => ⟨a, _, _, rfl, upd_same, Nat.lt_of_le_of_lt (nd_len nd fun k hk => (hm k).mp hk) few, fun ms p pw hm2 _ hp =>
    h _ p ms (sm_new (sm_new sm_refl ha) hp) upd_same (pw.imp fun {a b} q e => by omega) fun k => (hm2 k).trans decide_eq_true_iff⟩⟩
theorem cat_l {K : PySem.W.Frag} {H : Hp} {p r : Addr} {c : Str} {run : List Str} {Q : VK} (hp : TupD H p [.str c]) (hR : TupD H r (run.map V.str)) (few : run.length ≤ 300)
    (h : ∀ (H' : Hp) (b : Addr), L2.Same H H' → TupD H' b ((c :: run).map V.str) → Q (.ref b) H') : rCatD K (.ref p) (.ref r) H Q := by
  refine ⟨p, r, _, _, rfl, rfl, hp.sq, hR.sq, ?_, (fun z => absurd z (List.cons_ne_nil _ _)), fun _ h0 => ?_, fun _ h0 p2 ob2 hob2 hp2 => ?_⟩
  · rw [List.length_map]
    have : 1 + run.length < sizeLine := small1000 (by omega)
    exact Nat.le_of_lt this
  · have : run = [] := List.map_eq_nil_iff.mp h0
    subst this
    exact h _ p sm_refl hp
  · exact h _ p2 (sm_new sm_refl hp2) (TupD.of hob2)
theorem cat_r {K : PySem.W.Frag} {H : Hp} {p r : Addr} {c : Str} {run : List Str} {Q : VK} (hp : TupD H p [.str c]) (hR : TupD H r (run.map V.str)) (few : run.length ≤ 300)
    (h : ∀ (H' : Hp) (b : Addr), L2.Same H H' → TupD H' b ((run ++ [c]).map V.str) → Q (.ref b) H') : rCatD K (.ref r) (.ref p) H Q := by
  refine ⟨r, p, _, _, rfl, rfl, hR.sq, hp.sq, ?_, fun h0 => ?_, (fun _ z => absurd z (List.cons_ne_nil _ _)), fun h0 _ p2 ob2 hob2 hp2 => ?_⟩
  · rw [List.length_map]
    have : run.length + 1 < sizeLine := small1000 (by omega)
    exact Nat.le_of_lt this
  · have : run = [] := List.map_eq_nil_iff.mp h0
    subst this
    exact h _ p sm_refl hp
  · refine h _ p2 (sm_new sm_refl hp2) ?_
    rw [List.map_append]
    exact TupD.of hob2
section
variable {P : Program} {w : World} {K : PySem.W.Frag} {mg : Str → Option Value} {base : Heap} {Ps : List Addr}
def spJoined (K : PySem.W.Frag) : Sp := fun vs H Q _ => ∃ (l r f : Addr) (c : Str) (total : Int) (ns : List Int) (run F : List Str), vs = [.ref l, .ref r, .str c, .ref f, .int total] ∧ SqL K H l (ns.map V.int) ∧ ns.length < 64 ∧ TupD H r (run.map V.str) ∧ run.length ≤ 300 ∧ (∀ x ∈ run, carB x = true) ∧ (∀ x ∈ run, x ∈ F) ∧ TupD H f (F.map V.str) ∧ c ∈ F ∧
  ∀ (H' : Hp) (p a b : Addr) (ms : List Int), L2.Same H H' → H' p = some (.tup [.ref a, .ref b]) → H' a = some (.lst (ms.map V.int)) → TupD H' b ((dpRun F run (.inn c)).map V.str) → ms.Nodup → (∀ k, k ∈ ms ↔ dpP F (fun k => k ∈ ns) run total (.inn c) k) → Q (.ref p) H'
end
end Ln


set_option Elab.async false
set_option linter.all false
set_option maxRecDepth 100000
set_option maxHeartbeats 4000000
namespace Ln
open PySem PySem.Spec PyProof.Rows L2 GxR
/-- the cars of a lane that stand in another -/
def keepL (F xs : List Str) : List Str := F.filter fun c => decide (c ∈ xs)
/-- how many cars of the initial lane leave on the left and on the right -/
def lfV (H : Hp) (v : V) (xs F : List Str) : Prop :=
  if plcs F 0 xs = [] then v = .non else ∃ p, v = .ref p ∧ H p = some (.tup (if cutN xs (brg xs F) = keepL F xs then [.int (brg xs F).1, .int ((xs.length : Int) - (brg xs F).2)] else [.int (-1), .int (-1)]))
theorem eqv_nilI (ns : List Int) : PyData.eqv (.list (ns.map PyData.int)) (.list []) = decide (ns = []) := by
  cases ns with
  | nil => rfl
  | cons n r => rfl
theorem dp_ints' {K : PySem.W.Frag} {H : Hp} : ∀ ns : List Int, DpAll K H (ns.map V.int) (ns.map PyData.int)
  | [] => .nil
  | n :: r => .cons (.int n) (dp_ints' r)
theorem cut_sl {K : PySem.W.Frag} {H : Hp} {a : Addr} {xs : List Str} {p : Nat × Nat} {Q : VK} (hA : SqT K H a (xs.map V.str)) (h1 : p.1 ≤ xs.length) (h2 : p.2 ≤ xs.length)
    (q : ∀ H' z, L2.Same H H' → SqT K H' z ((cutN xs p).map V.str) → Q (.ref z) H') : rSlA K (.ref a) (some ((p.1 : Nat) : Int)) (some ((p.2 : Nat) : Int)) H Q := by
  have hcut : cutV (xs.map V.str) (some ((p.1 : Nat) : Int)) (some ((p.2 : Nat) : Int)) = (cutN xs p).map V.str := by
    rw [cutV_nat (by rw [List.length_map]; exact h1) (by rw [List.length_map]; exact h2)]
    unfold cutN
    rw [← List.map_take, ← List.map_drop]
  refine ⟨a, _, rfl, hA, fun hw => ?_, fun _ z hz => ?_⟩
  · refine q H a sm_refl ?_
    rw [HT.sIx_nat, HT.sIx_nat, List.length_map, Nat.min_eq_left h1, Nat.min_eq_left h2] at hw
    have e : cutN xs p = xs := by
      unfold cutN
      rw [hw.1, hw.2, List.take_length]
      rfl
    rw [e]
    exact hA
  · rw [hcut]
    exact q _ z (sm_new sm_refl hz) (SqT.of upd_same)
section
variable {P : Program} {w : World} {K : PySem.W.Frag} {mg : Str → Option Value} {base : Heap} {Ps : List Addr}
def spLeftF (K : PySem.W.Frag) : Sp := fun vs H Q _ => ∃ (a f : Addr) (xs F : List Str), vs = [.ref a, .ref f] ∧ TupD H a (xs.map V.str) ∧ TupD H f (F.map V.str) ∧ xs.length ≤ 300 ∧ F.length ≤ 300 ∧ (∀ x ∈ xs, carB x = true) ∧ (∀ x ∈ F, carB x = true) ∧
  ∀ (H' : Hp) (v : V), L2.Same H H' → lfV H' v xs F → Q v H'
end
end Ln


set_option Elab.async false
set_option linter.all false
set_option maxRecDepth 100000
set_option maxHeartbeats 8000000
namespace Ln
open PySem PySem.Spec PyProof.Rows L2 GxR
theorem sortsetB {K : PySem.W.Frag} {w : World} {H : Hp} {D : Addr} {ns : List Int} {Q : VK} (hD : SqL K H D (ns.map V.int)) (few : ns.length ≤ 1000) (rg : ∀ k ∈ ns, 0 ≤ k ∧ k < 60)
    (h : ∀ (H' : Hp) (p : Addr) (ms : List Int), L2.Same H H' → H' p = some (.lst (ms.map V.int)) → ms.Nodup → (∀ k, k ∈ ms ↔ k ∈ ns) → Q (.ref p) H') : rSetI K w [.ref D] H fun x H1 => rSortedSet w [x] H1 Q :=
  ⟨D, ns, rfl, hD, few, fun a L ha nd hm => ⟨a, _, _, rfl, upd_same, Nat.lt_of_le_of_lt (nd_len (M := (List.range 60).map fun n : Nat => (n : Int)) nd fun k hk => by
      obtain ⟨h1, h2⟩ := rg k ((hm k).mp hk)
      exact List.mem_map.mpr ⟨k.toNat, List.mem_range.mpr (by omega), by omega⟩) (by rw [List.length_map, List.length_range]; decide), fun ms p pw hm2 _ hp =>
    h _ p ms (sm_new (sm_new sm_refl ha) hp) upd_same (pw.imp fun {a b} q e => by omega) fun k => (hm2 k).trans decide_eq_true_iff⟩⟩
theorem cnt_take' : ∀ (es : List Ev) (n m j : Nat), cnt n es = some m → j ≤ es.length → ∃ k, cnt n (es.take j) = some k ∧ (k : Int) = endI n (es.take j)
  | [], n, m, j, _, hj => by
    have : j = 0 := by simpa using hj
    subst this
    exact ⟨n, rfl, rfl⟩
  | .inn c :: r, n, m, 0, _, _ => ⟨n, rfl, rfl⟩
  | .out :: r, n, m, 0, h, _ => ⟨n, rfl, rfl⟩
  | .inn c :: r, n, m, j + 1, h, hj => by
    obtain ⟨k, h1, h2⟩ := cnt_take' r (n + 1) m j h (by simpa using hj)
    exact ⟨k, h1, by rw [h2]; rfl⟩
  | .out :: r, n, m, j + 1, h, hj => by
    have h : (if 0 < n then cnt (n - 1) r else none) = some m := h
    by_cases q : 0 < n
    · rw [if_pos q] at h
      obtain ⟨k, h1, h2⟩ := cnt_take' r (n - 1) m j h (by simpa using hj)
      refine ⟨k, ?_, ?_⟩
      · show (if 0 < n then cnt (n - 1) (r.take j) else none) = some k
        rw [if_pos q, h1]
      · rw [h2]
        show endI ((n - 1 : Nat) : Int) (r.take j) = endI ((n : Int) - 1) (r.take j)
        rw [show ((n - 1 : Nat) : Int) = (n : Int) - 1 by omega]
    · rw [if_neg q] at h
      cases h
/-- the state behind i events -/
structure DS (xs F : List Str) (es : List Ev) (i : Nat) (ns : List Int) (run : List Str) (total : Int) (G : Prop) : Prop where
  eq : G ↔ dpR F (fun k => k ∈ ns) run total (es.drop i)
  nd : ns.Nodup
  rg : ∀ k ∈ ns, 0 ≤ k ∧ k ≤ total
  sz : (run.length : Int) + total = endI xs.length (es.take i)
  sub : ∀ x ∈ run, x ∈ F
  t0 : 0 ≤ total
theorem dpP_rg {F run : List Str} {ns : List Int} {total : Int} {e : Ev} (h : ∀ k ∈ ns, 0 ≤ k ∧ k ≤ total) (t0 : 0 ≤ total) {k : Int} (hk : dpP F (fun k => k ∈ ns) run total e k) : 0 ≤ k ∧ k ≤ dpT F total e := by
  cases e with
  | out =>
    have hk : (k ∈ ns ∧ k ≤ total - 1) ∨ (k + 1 ∈ ns ∧ k + 1 > 0) := hk
    show 0 ≤ k ∧ k ≤ total - 1
    rcases hk with ⟨h1, h2⟩ | ⟨h1, h2⟩
    · exact ⟨(h k h1).1, h2⟩
    · have := (h _ h1).2
      omega
  | inn c =>
    have hk : (if c ∈ F then (if run = [] then k = 0 ∨ k = total else if F.idxOf c < F.idxOf (run.headD c) then k ∈ ns ∧ k = 0 else k ∈ ns ∧ k = total) else k ∈ ns ∨ k - 1 ∈ ns) := hk
    show 0 ≤ k ∧ k ≤ (if c ∈ F then total else total + 1)
    by_cases hc : c ∈ F
    · rw [if_pos hc] at hk ⊢
      split at hk
      · rcases hk with z | z <;> omega
      · split at hk <;> exact h k hk.1
    · rw [if_neg hc] at hk ⊢
      rcases hk with z | z
      · have := h _ z
        omega
      · have := h _ z
        omega
theorem dpRun_sz {F run : List Str} {e : Ev} {total : Int} : ((dpRun F run e).length : Int) + dpT F total e = endI ((run.length : Int) + total) [e] := by
  cases e with
  | out =>
    show (run.length : Int) + (total - 1) = (run.length : Int) + total - 1
    omega
  | inn c =>
    show (((if c ∈ F then (if run = [] ∨ F.idxOf c < F.idxOf (run.headD c) then c :: run else run ++ [c]) else run) : List Str).length : Int) + (if c ∈ F then total else total + 1) = (run.length : Int) + total + 1
    by_cases hc : c ∈ F
    · rw [if_pos hc, if_pos hc]
      split
      · rw [List.length_cons]; omega
      · rw [List.length_append, List.length_singleton]; omega
    · rw [if_neg hc, if_neg hc]
      omega
theorem dpRun_sub {F run : List Str} {e : Ev} (h : ∀ x ∈ run, x ∈ F) : ∀ x ∈ dpRun F run e, x ∈ F := by
  cases e with
  | out => exact h
  | inn c =>
    intro x hx
    have hx : x ∈ (if c ∈ F then (if run = [] ∨ F.idxOf c < F.idxOf (run.headD c) then c :: run else run ++ [c]) else run) := hx
    by_cases hc : c ∈ F
    · rw [if_pos hc] at hx
      split at hx
      · rcases List.mem_cons.mp hx with z | z
        · rw [z]; exact hc
        · exact h x z
      · rcases List.mem_append.mp hx with z | z
        · exact h x z
        · rw [List.mem_singleton.mp z]; exact hc
    · rw [if_neg hc] at hx
      exact h x hx
section
variable {xs F run : List Str} {es : List Ev} {i : Nat} {ns ms : List Int} {total : Int} {G : Prop} {e : Ev}
theorem DS.no (S : DS xs F es i ns run total G) (he : es[i]? = some e) (hm : ∀ k, k ∈ ms ↔ dpP F (fun k => k ∈ ns) run total e k) (h : ms = [] ∨ dpT F total e < 0) : ¬ G := fun g => by
  have h2 := S.eq.mp g
  have hd : es.drop i = e :: es.drop (i + 1) := by
    obtain ⟨hi, h3⟩ := List.getElem?_eq_some_iff.mp he
    rw [List.drop_eq_getElem_cons hi, h3]
  rw [hd] at h2
  obtain ⟨⟨k, hk⟩, ht, _⟩ := h2
  rcases h with z | z
  · have := (hm k).mpr hk
    rw [z] at this
    cases this
  · omega
theorem DS.step {ns' : List Int} (S : DS xs F es i ns run total G) (he : es[i]? = some e) (hm : ∀ k, k ∈ ms ↔ dpP F (fun k => k ∈ ns) run total e k) (h1 : ms ≠ []) (h2 : 0 ≤ dpT F total e) (nd : ns'.Nodup)
    (hn : ∀ k, k ∈ ns' ↔ if dpRun F run e = [] then 0 ≤ k ∧ k ≤ dpT F total e else k ∈ ms) : DS xs F es (i + 1) ns' (dpRun F run e) (dpT F total e) G := by
  have hd : es.drop i = e :: es.drop (i + 1) := by
    obtain ⟨hi, h3⟩ := List.getElem?_eq_some_iff.mp he
    rw [List.drop_eq_getElem_cons hi, h3]
  have hP : (fun k => k ∈ ns') = dpN F (fun k => k ∈ ns) run total e := by
    funext k
    unfold dpN
    rw [propext (hn k)]
    by_cases q : dpRun F run e = []
    · rw [if_pos q, if_pos q]
    · rw [if_neg q, if_neg q, propext (hm k)]
  refine ⟨?_, nd, fun k hk => ?_, ?_, dpRun_sub S.sub, h2⟩
  · rw [S.eq, hd, hP]
    obtain ⟨k, hk⟩ := List.exists_mem_of_ne_nil _ h1
    exact ⟨fun ⟨_, _, z⟩ => z, fun z => ⟨⟨k, (hm k).mp hk⟩, h2, z⟩⟩
  · have := (hn k).mp hk
    split at this
    · exact this
    · exact dpP_rg S.rg S.t0 ((hm k).mp this)
  · rw [dpRun_sz, S.sz]
    have : es.take (i + 1) = es.take i ++ [e] := by rw [List.take_add_one, he]; rfl
    rw [this, endI_app]
theorem DS.cap {m : Nat} (S : DS xs F es i ns run total G) (ct : cnt xs.length es = some m) (cap : Capd 40 xs.length es) (hi : i ≤ es.length) : (run.length : Int) + total ≤ 40 := by
  obtain ⟨k, h1, h2⟩ := cnt_take' es xs.length m i ct hi
  have := cap i k h1
  rw [S.sz, ← h2]
  omega
theorem ds_start (hF : cutN xs (brg xs F) = keepL F xs) : DS xs F es 0 [((brg xs F).1 : Int)] (keepL F xs) ((xs.length : Int) - ((keepL F xs).length : Nat)) (dpR F (fun k => k = (brg xs F).1) (keepL F xs) ((xs.length : Int) - ((keepL F xs).length : Nat)) es) := by
  obtain ⟨A, M, C, e, hA, hC, hb1, hb2⟩ := brg_cut xs F
  rw [hb1] at hF
  have hl : xs.length = A.length + M.length + C.length := by rw [e, List.length_append, List.length_append]
  refine ⟨?_, by simp, fun k hk => ?_, ?_, fun x hx => (List.mem_filter.mp hx).1, ?_⟩
  · have : (fun k => k = ((brg xs F).1 : Int)) = fun k => k ∈ [((brg xs F).1 : Int)] := by
      funext k
      simp
    rw [this]
    rfl
  · rw [List.mem_singleton.mp hk, ← hF, hl, hb2]
    by_cases q : M = []
    · rw [if_pos q]
      show (0 : Int) ≤ ((0 : Nat) : Int) ∧ ((0 : Nat) : Int) ≤ _
      omega
    · rw [if_neg q]
      show (0 : Int) ≤ (A.length : Nat) ∧ ((A.length : Nat) : Int) ≤ _
      omega
  · show _ = (xs.length : Int)
    omega
  · rw [← hF, hl]
    omega
end
end Ln


set_option Elab.async false
set_option linter.all false
set_option maxRecDepth 100000
set_option maxHeartbeats 8000000
namespace Ln
open PySem PySem.Spec PyProof.Rows L2 GxR
theorem filt_takeG {α : Type} (xs : List α) (p : α → Bool) (i : Nat) (c : α) (h : xs[i]? = some c) : (xs.take (i + 1)).filter p = (xs.take i).filter p ++ if p c = true then [c] else [] := by
  rw [List.take_add_one, h, List.filter_append]
  congr 1
  show List.filter p [c] = _
  by_cases q : p c = true
  · rw [if_pos q, List.filter_cons_of_pos q]
    rfl
  · rw [if_neg q, List.filter_cons_of_neg q]
    rfl
theorem eqv_nilS (xs : List Str) : PyData.eqv (.list (xs.map PyData.str)) (.list []) = decide (xs = []) := by
  cases xs with
  | nil => rfl
  | cons n r => rfl
def dropL (F kn : List Str) : List Str := F.filter fun c => !decide (c ∈ kn)
theorem dropL_nil {F kn : List Str} : dropL F kn = [] ↔ ∀ c ∈ F, c ∈ kn := by
  unfold dropL
  rw [List.filter_eq_nil_iff]
  exact ⟨fun h c hc => by simpa using h c hc, fun h c hc => by simpa using h c hc⟩
theorem shaped_m11 (a b : Int) : SeqAt.shaped (.tuple [.int a, .int b]) = true := by
  unfold SeqAt.shaped
  rw [Bool.and_eq_true]
  exact ⟨rfl, rfl⟩
theorem nd_range (n : Nat) : ((List.range n).map fun i => (0 : Int) + ((i : Nat) : Int)).Nodup := List.pairwise_map.mpr (List.nodup_range.imp fun {a b} h z => h (by omega))
theorem mem_range0 {n : Nat} {k : Int} : k ∈ ((List.range n).map fun i => (0 : Int) + ((i : Nat) : Int)) ↔ 0 ≤ k ∧ k < n := by
  rw [List.mem_map]
  constructor
  · rintro ⟨i, hi, rfl⟩
    have := List.mem_range.mp hi
    omega
  · intro h
    exact ⟨k.toNat, List.mem_range.mpr (by omega), by omega⟩
section
variable {P : Program} {w : World} {K : PySem.W.Frag} {mg : Str → Option Value} {base : Heap} {Ps : List Addr}
def spCanAr (K : PySem.W.Frag) : Sp := fun vs H Q _ => ∃ (a l f : Addr) (xs : List Str) (as : List Addr) (es : List Ev) (F : List Str) (m : Nat), vs = [.ref a, .ref l, .ref f] ∧ TupD H a (xs.map V.str) ∧ H l = some (.lst (as.map V.ref)) ∧ EvT H as es ∧ TupD H f (F.map V.str) ∧ xs.length ≤ 100 ∧ es.length ≤ 200 ∧ F.length ≤ 300 ∧
  (∀ x ∈ xs, carB x = true) ∧ (∀ x ∈ F, carB x = true) ∧ cnt xs.length es = some m ∧ Capd 40 xs.length es ∧
  ∀ (H' : Hp) (b : Bool), L2.Same H H' → (b = true ↔ canAr xs es F) → Q (.bl b) H'
end
end Ln


set_option Elab.async false
set_option linter.all false
set_option maxRecDepth 100000
set_option maxHeartbeats 4000000
namespace Ln
open PySem PySem.Spec PyProof.Rows L2 GxR
/-- a lane after one event -/
def mvF (xs : List Str) (e : Ev) (left : Bool) : List Str := match e with
  | .inn c => if left = true then c :: xs else xs ++ [c]
  | .out => if left = true then xs.drop 1 else xs.take (xs.length - 1)
theorem mv_mvF {xs : List Str} {e : Ev} {left : Bool} (h : e = .out → xs ≠ []) : Mv xs e (mvF xs e left) := by
  cases e with
  | inn c =>
    cases left with
    | true => exact .inL c xs
    | false => exact .inR c xs
  | out =>
    have h := h rfl
    cases left with
    | true =>
      cases xs with
      | nil => exact absurd rfl h
      | cons x r => exact .outL x r
    | false =>
      show Mv xs .out (xs.take (xs.length - 1))
      rw [← List.dropLast_eq_take]
      have e := (List.dropLast_concat_getLast h).symm
      generalize xs.dropLast = r at e ⊢
      rw [e]
      exact .outR _ r
theorem cut_lastV {xs : List V} (h : 0 < xs.length) : cutV xs none (some (-1)) = xs.take (xs.length - 1) := by
  unfold cutV
  rw [HT.sIx_none, List.drop_zero, Nat.sub_zero, show HT.sIx xs.length xs.length (some (-1)) = xs.length - 1 by
    show (if (-1 : Int) < 0 then ((-1 : Int) + (xs.length : Int)).toNat else min (-1 : Int).toNat xs.length) = _
    rw [if_pos (by decide)]
    omega]
/-! ### what the law keeps -/
/-- an object of the module's own -/
def KAlt (K : PySem.W.Frag) (a : Addr) (xs : List V) : Prop := ∃ (o : Obj) (its : Array Value) (n : Nat), K.lookup a = some o ∧ o.cls = .type "list" ∧ o.dict = none ∧ o.data = .seq its n ∧ its.size ≤ sizeLine ∧ Vals xs its.toList
def Off (K : PySem.W.Frag) (a b : Addr) (xs : List V) : Prop := a ≠ b ∨ KAlt K a xs
section
variable {K : PySem.W.Frag} {Ps : List Addr} {H H1 : Hp} {a b t : Addr} {o : HO} {xs z : List V}
theorem off_new (h : SqL K H a xs) (hb : H b = none) : Off K a b xs := by
  rcases h with (e | ⟨ob, e⟩) | e
  · exact .inl (ne_of_none e hb)
  · exact .inl (ne_of_none e hb)
  · exact .inr e
theorem sq_off (h : SqL K H a xs) (n : Off K a b xs) : SqL K (upd H b o) a xs := by
  rcases n with n | e
  · rcases h with (e | ⟨ob, e⟩) | e
    · exact .inl (.inl (by rw [upd_ne n]; exact e))
    · exact .inl (.inr ⟨ob, by rw [upd_ne n]; exact e⟩)
    · exact .inr e
  · exact .inr e
theorem tabs_updL (hT : Tabs Ps H) (hb : H b = some (.lst z)) : Tabs Ps (upd H b o) := fun q hq => by
  obtain ⟨ps, e, t⟩ := hT q hq
  have n : q ≠ b := fun z => by
    rw [z, hb] at e
    cases e
  exact ⟨ps, by rw [upd_ne n]; exact e, t⟩
theorem tabs_new (hT : Tabs Ps H) (hb : H b = none) : Tabs Ps (upd H b o) := fun q hq => by
  obtain ⟨ps, e, t⟩ := hT q hq
  exact ⟨ps, by rw [upd_ne (ne_of_none e hb)]; exact e, t⟩
theorem tabs_same (hT : Tabs Ps H) (k : L2.Same H H1) : Tabs Ps H1 := fun q hq => by
  obtain ⟨ps, e, t⟩ := hT q hq
  exact ⟨ps, k _ _ e, t⟩
theorem tup_updL (h : TupD H t xs) (hb : H b = some (.lst z)) : TupD (upd H b o) t xs := by
  obtain ⟨ob, d, e⟩ := h
  refine ⟨ob, d, ?_⟩
  rw [upd_ne fun q => by rw [q, hb] at e; cases e]
  exact e
theorem sq_same (h : SqL K H a xs) (k : L2.Same H H1) : SqL K H1 a xs := by
  rcases h with (e | ⟨ob, e⟩) | e
  · exact .inl (.inl (k _ _ e))
  · exact .inl (.inr ⟨ob, k _ _ e⟩)
  · exact .inr e
end
theorem EvT.updL {as : List Addr} {es : List Ev} {H : Hp} {b : Addr} {z : List V} {u : HO} (h : EvT H as es) (hb : H b = some (.lst z)) : EvT (upd H b u) as es := h.kt (KT.upd fun xs e => by rw [hb] at e; cases e)
/-! ### the history's lanes -/
theorem cnt_take : ∀ (es : List Ev) (n m j : Nat), cnt n es = some m → j ≤ es.length → ∃ k, cnt n (es.take j) = some k ∧ (k : Int) = endI n (es.take j) ∧ (es[j]? = some .out → 0 < k)
  | [], n, m, j, _, hj => by
    have : j = 0 := by simpa using hj
    subst this
    exact ⟨n, rfl, rfl, fun h => by simp at h⟩
  | .inn c :: r, n, m, 0, _, _ => ⟨n, rfl, rfl, fun h => by simp at h⟩
  | .out :: r, n, m, 0, h, _ => by
    refine ⟨n, rfl, rfl, fun _ => ?_⟩
    by_cases q : 0 < n
    · exact q
    · have h : (if 0 < n then cnt (n - 1) r else none) = some m := h
      rw [if_neg q] at h
      cases h
  | .inn c :: r, n, m, j + 1, h, hj => by
    obtain ⟨k, h1, h2, h3⟩ := cnt_take r (n + 1) m j h (by simpa using hj)
    exact ⟨k, h1, by rw [h2]; rfl, fun e => h3 (by simpa using e)⟩
  | .out :: r, n, m, j + 1, h, hj => by
    have h : (if 0 < n then cnt (n - 1) r else none) = some m := h
    by_cases q : 0 < n
    · rw [if_pos q] at h
      obtain ⟨k, h1, h2, h3⟩ := cnt_take r (n - 1) m j h (by simpa using hj)
      refine ⟨k, ?_, ?_, fun e => h3 (by simpa using e)⟩
      · show (if 0 < n then cnt (n - 1) (r.take j) else none) = some k
        rw [if_pos q, h1]
      · rw [h2]
        show endI ((n - 1 : Nat) : Int) (r.take j) = endI ((n : Int) - 1) (r.take j)
        rw [show ((n - 1 : Nat) : Int) = (n : Int) - 1 by omega]
    · rw [if_neg q] at h
      cases h
structure Good (xs : List Str) (es : List Ev) (m : Nat) : Prop where
  nd : (xs ++ arrs es).Nodup
  cars : ∀ x ∈ xs ++ arrs es, carB x = true
  ct : cnt xs.length es = some m
  few1 : xs.length ≤ 100
  few2 : es.length ≤ 200
section
variable {xs L : List Str} {es : List Ev} {m j : Nat}
theorem arrs_take (es : List Ev) (j : Nat) : (arrs (es.take j)).Sublist (arrs es) := by
  have : arrs es = arrs (es.take j) ++ arrs (es.drop j) := by rw [← arrs_app, List.take_append_drop]
  rw [this]
  exact List.sublist_append_left _ _
theorem Good.take (G : Good xs es m) (j : Nat) (hj : j ≤ es.length) : ∃ k, Good xs (es.take j) k := by
  obtain ⟨k, h1, _, _⟩ := cnt_take es xs.length m j G.ct hj
  have hs : (xs ++ arrs (es.take j)).Sublist (xs ++ arrs es) := (List.Sublist.refl _).append (arrs_take es j)
  exact ⟨k, G.nd.sublist hs, fun x hx => G.cars x (hs.subset hx), h1, G.few1, by rw [List.length_take]; have := G.few2; omega⟩
theorem Good.laneB (G : Good xs es m) : laneB xs = true := by
  unfold Ln.laneB
  rw [Bool.and_eq_true]
  exact ⟨List.all_eq_true.mpr fun x hx => G.cars x (List.mem_append_left _ hx), decide_eq_true (List.nodup_append.mp G.nd).1⟩
theorem Good.logB (G : Good xs es m) : logB xs xs.length es = true :=
  logB_of es xs xs.length m G.ct (fun c hc => ⟨G.cars c (List.mem_append_right _ hc), fun z => (List.nodup_append.mp G.nd).2.2 c z c hc rfl⟩) (List.nodup_append.mp G.nd).2.1
theorem Good.lane (G : Good xs es m) (h : Run xs es L) : Ln.laneB L = true := by
  unfold Ln.laneB
  rw [Bool.and_eq_true]
  exact ⟨List.all_eq_true.mpr fun x hx => G.cars x (h.mem x hx), decide_eq_true (h.nodup G.nd)⟩
theorem endI_le : ∀ (n : Int) (es : List Ev), endI n es ≤ n + es.length
  | n, [] => by show n ≤ n + ((0 : Nat) : Int); omega
  | n, .inn _ :: r => by
    have := endI_le (n + 1) r
    rw [List.length_cons]
    show endI (n + 1) r ≤ _
    omega
  | n, .out :: r => by
    have := endI_le (n - 1) r
    rw [List.length_cons]
    show endI (n - 1) r ≤ _
    omega
theorem Good.few (G : Good xs es m) (h : Run xs es L) : L.length ≤ 300 := by
  have h1 := h.len
  have h2 := endI_le xs.length es
  have := G.few1
  have := G.few2
  omega
theorem Good.laneAt {K : PySem.W.Frag} {H : Hp} {p : Addr} (G : Good xs es m) (h : Run xs es L) (hp : TupD H p (L.map V.str)) : LaneAt K H p L :=
  ⟨hp.sq, by have := G.few h; omega, fun x hx => car_sz (carsOf (G.lane h) x hx)⟩
theorem Good.startAt {K : PySem.W.Frag} {H : Hp} {p : Addr} (G : Good xs es m) (hp : TupD H p (xs.map V.str)) : LaneAt K H p xs :=
  ⟨hp.sq, by have := G.few1; omega, fun x hx => car_sz (carsOf G.laneB x hx)⟩
theorem Good.logAt {K : PySem.W.Frag} {H : Hp} {l : Addr} {as : List Addr} (G : Good xs es m) (hl : H l = some (.lst (as.map V.ref))) (hv : EvT H as es) : LogAt K H l as es :=
  ⟨SqL.of hl, Paired.imp hv fun _ _ q => SqT.of q, by have := G.few2; omega, fun c hc => car_sz (G.cars c (List.mem_append_right _ (mem_arrs hc)))⟩
end
/-! ### a call by keywords alone -/
section
variable {X : Cx} {CX : CXT} {k : Nat} {f : Addr} {fd : FuncData} {ps ks : List Str} {sp : Sp} {E : XK} {x : Str} {p pos : Pos} {kws : List Keyword} {tk : TA} {g : List Value → List Value → List Value} {gV : List V → List V → List V}
theorem pe_callK0 (F : FnOk X.prog X.w X.K X.mg X.base CX k f fd ps sp) (hr : Room k X.A) (hg : Gl X x) (hm : X.mg x = some (.ref f)) (hk : PySem.W.keepIn X.K (.ref f) = true) (hb : KBinds X.K fd ps ks g gV) (hx : Passes CX X E) (hkw : PK X kws tk)
    (hall : (backToKw pos (keywordEach kws X.env)).all (·.1.isSome) = true := by rfl) (hks : (backToKw pos (keywordEach kws X.env)).filterMap (·.1) = ks := by rfl) (hdb : (x == ("__debug__" : Str)) = false := by decide)
    (hpl : ((backTo pos (starEach [] X.env)).any (·.1) || (backToKw pos (keywordEach kws X.env)).any (·.1.isNone)) = false := by rfl) :
    PE X (.Call (.Name x p) [] kws pos) (tCallK sp gV E tNil tk) := by
  refine ⟨fun pins s σ H Q I h => wpAny_Call_Name_kw (ld_glob I hg hm ?_ hdb)⟩
  refine PySem.W.callWith_KW0 (h₀ := X.base) I.ok.mod.kin hk hall (thn (hkw.run pos pins s σ H _ I h) fun ws s2 ⟨zs, H2, I2, rz, q2⟩ => ⟨I2.kIn, ?_⟩) hpl
  rw [hks]
  exact run_fnk (us := []) F hr hb hx I2 .nil rz q2
end
def id3 {α : Type} : List α → List α → List α
  | [], [x, y, z] => [x, y, z]
  | _, _ => []
end Ln


set_option Elab.async false
set_option linter.all false
set_option maxRecDepth 100000
set_option maxHeartbeats 2000000
namespace Ln
open PySem PySem.Spec PyProof.Rows L2
/-! ### calls of a local name that holds a def; ways joined by or -/
theorem pe_alt {X : Cx} {e : Expr} {t1 t2 : TE} (h1 : PE X e t1) (h2 : PE X e t2) : PE X e fun σ H Q => t1 σ H Q ∨ t2 σ H Q :=
  ⟨fun pins s σ H Q I h => h.elim (h1.run pins s σ H Q I) (h2.run pins s σ H Q I)⟩
theorem ps_alt {X : Cx} {e : Stmt} {t1 t2 : TS} (h1 : PS X e t1) (h2 : PS X e t2) : PS X e fun D σ H => t1 D σ H ∨ t2 D σ H :=
  ⟨fun pins s σ H D I h => h.elim (h1.run pins s σ H D I) (h2.run pins s σ H D I)⟩
section
variable {X : Cx} {CX : CXT} {k i : Nat} {f : Addr} {fd : FuncData} {ps ks : List Str} {sp : Sp} {g : List Value → List Value → List Value} {gV : List V → List V → List V} {E : XK} {x : Str} {p pos : Pos} {kws : List Keyword} {tk : TA}
/-- f(k = v), f a local name -/
theorem pe_callLK0 (F : FnOk X.prog X.w X.K X.mg X.base CX k f fd ps sp) (hr : Room k X.A) (hN : X.N[i]? = some x) (hv : Vis X.env.scope x) (hk : PySem.W.keepIn X.K (.ref f) = true) (hb : KBinds X.K fd ps ks g gV) (hx : Passes CX X E) (hkw : PK X kws tk)
    (hall : (backToKw pos (keywordEach kws X.env)).all (·.1.isSome) = true := by rfl) (hks : (backToKw pos (keywordEach kws X.env)).filterMap (·.1) = ks := by rfl) (hdb : (x == ("__debug__" : Str)) = false := by decide) (hcd : (x == ("__classdict__" : Str)) = false := by decide)
    (hpl : ((backTo pos (starEach [] X.env)).any (·.1) || (backToKw pos (keywordEach kws X.env)).any (·.1.isNone)) = false := by rfl) :
    PE X (.Call (.Name x p) [] kws pos) (fun σ H Q => σ[i]? = some (some (.ref f)) ∧ tCallK sp gV E tNil tk σ H Q) := by
  refine ⟨fun pins s σ H Q I h => ?_⟩
  obtain ⟨hs, ht⟩ := h
  refine wpAny_Call_Name_kw (thn ((pe_var (pos := p) hN hv hdb hcd).run pins s σ H (fun v H1 => v = .ref f ∧ H1 = H) I ⟨.ref f, hs, rfl, rfl⟩) fun u s1 ⟨v, H1, I1, r1, q1⟩ => ?_)
  obtain ⟨rfl, rfl⟩ := q1
  cases r1
  refine PySem.W.callWith_KW0 (h₀ := X.base) I.ok.mod.kin hk hall (thn (hkw.run pos pins s1 σ _ _ I1 ht) fun ws s2 ⟨zs, H2, I2, rz, q2⟩ => ⟨I2.kIn, ?_⟩) hpl
  rw [hks]
  exact run_fnk (us := []) F hr hb hx I2 .nil rz q2
end
end Ln


set_option Elab.async false
set_option linter.all false
set_option maxRecDepth 100000
set_option maxHeartbeats 2000000
namespace Ln
open PySem PySem.Spec PyProof.Rows L2
/-! ### calls that may raise, in a try's body -/
section
variable {X : Cx} {CX : CXT} {k i : Nat} {f : Addr} {fd : FuncData} {ps ks : List Str} {sp : Sp} {g : List Value → List Value → List Value} {gV : List V → List V → List V} {E : L2.St → XK} {x : Str} {p pos : Pos} {e : Expr} {es : List Expr} {kws : List Keyword} {t tk : TA}
theorem run_fnkS {pins : List (Addr × Obj)} {σ : L2.St} {H : Hp} {s : Shared} {Q : VK} {ws : List Value} {zs : List V} (F : FnOk X.prog X.w X.K X.mg X.base CX k f fd ps sp) (hr : Room k X.A) (hb : KBinds X.K fd ps ks g gV) (hx : PassesAt CX X σ (E σ))
    (I : Inv X pins σ H s) (rz : Vals zs ws) (h : sp (gV [] zs) H Q (E σ)) : wpAny (model X.prog X.w) X.A (call (.ref f) [] (ks.zip ws)) (EP X pins σ Q) X.xe s := by
  have r2 := hb.rel (vs := []) (us := []) .nil rz
  have hl : (g [] ws).length = ps.length := by rw [← r2.length]; exact F.len _ _ _ _ h
  refine wpAny_call (codeAny_mono (F.run X.A X.stack s H ⟨[], ks.zip ws⟩ (g [] ws) (gV [] zs) Q (E σ) hr I.env0 (hb.to s [] ws I.kIn hl) r2 h) fun r s' hq => ?_)
  cases r with
  | error e => exact hx pins H s e s' I hq
  | ok fl =>
    cases fl with
    | ret u => exact I.after hq
    | next => exact hq.elim
    | brk => exact hq.elim
    | cont => exact hq.elim
def tKwS (sp : Sp) (gV : List V → List V → List V) (E : L2.St → XK) (tk : TA) : TE := fun σ H Q => tk σ H fun zs H2 => sp (gV [] zs) H2 Q (E σ)
/-- f(k = v), f a name of the module -/
theorem pe_callKS0 (F : FnOk X.prog X.w X.K X.mg X.base CX k f fd ps sp) (hr : Room k X.A) (hg : Gl X x) (hm : X.mg x = some (.ref f)) (hk : PySem.W.keepIn X.K (.ref f) = true) (hb : KBinds X.K fd ps ks g gV) (hx : ∀ σ, PassesAt CX X σ (E σ)) (hkw : PK X kws tk)
    (hall : (backToKw pos (keywordEach kws X.env)).all (·.1.isSome) = true := by rfl) (hks : (backToKw pos (keywordEach kws X.env)).filterMap (·.1) = ks := by rfl) (hdb : (x == ("__debug__" : Str)) = false := by decide)
    (hpl : ((backTo pos (starEach [] X.env)).any (·.1) || (backToKw pos (keywordEach kws X.env)).any (·.1.isNone)) = false := by rfl) :
    PE X (.Call (.Name x p) [] kws pos) (tKwS sp gV E tk) := by
  refine ⟨fun pins s σ H Q I h => wpAny_Call_Name_kw (ld_glob I hg hm ?_ hdb)⟩
  refine PySem.W.callWith_KW0 (h₀ := X.base) I.ok.mod.kin hk hall (thn (hkw.run pos pins s σ H _ I h) fun ws s2 ⟨zs, H2, I2, rz, q2⟩ => ⟨I2.kIn, ?_⟩) hpl
  rw [hks]
  exact run_fnkS F hr hb (hx σ) I2 rz q2
/-- the slot holds the def -/
def tLoc (i : Nat) (f : Addr) (t : TE) : TE := fun σ H Q => σ[i]? = some (some (.ref f)) ∧ t σ H Q
theorem pe_callLKS0 (F : FnOk X.prog X.w X.K X.mg X.base CX k f fd ps sp) (hr : Room k X.A) (hN : X.N[i]? = some x) (hv : Vis X.env.scope x) (hk : PySem.W.keepIn X.K (.ref f) = true) (hb : KBinds X.K fd ps ks g gV) (hx : ∀ σ, PassesAt CX X σ (E σ)) (hkw : PK X kws tk)
    (hall : (backToKw pos (keywordEach kws X.env)).all (·.1.isSome) = true := by rfl) (hks : (backToKw pos (keywordEach kws X.env)).filterMap (·.1) = ks := by rfl) (hdb : (x == ("__debug__" : Str)) = false := by decide) (hcd : (x == ("__classdict__" : Str)) = false := by decide)
    (hpl : ((backTo pos (starEach [] X.env)).any (·.1) || (backToKw pos (keywordEach kws X.env)).any (·.1.isNone)) = false := by rfl) :
    PE X (.Call (.Name x p) [] kws pos) (tLoc i f (tKwS sp gV E tk)) := by
  refine ⟨fun pins s σ H Q I ⟨hs, ht⟩ => ?_⟩
  refine wpAny_Call_Name_kw (thn ((pe_var (pos := p) hN hv hdb hcd).run pins s σ H (fun v H1 => v = .ref f ∧ H1 = H) I ⟨.ref f, hs, rfl, rfl⟩) fun u s1 ⟨v, H1, I1, r1, q1⟩ => ?_)
  obtain ⟨rfl, rfl⟩ := q1
  cases r1
  refine PySem.W.callWith_KW0 (h₀ := X.base) I.ok.mod.kin hk hall (thn (hkw.run pos pins s1 σ _ _ I1 ht) fun ws s2 ⟨zs, H2, I2, rz, q2⟩ => ⟨I2.kIn, ?_⟩) hpl
  rw [hks]
  exact run_fnkS F hr hb (hx σ) I2 rz q2
theorem pe_callLS (F : FnOk X.prog X.w X.K X.mg X.base CX k f fd ps sp) (hr : Room k X.A) (hN : X.N[i]? = some x) (hv : Vis X.env.scope x) (hk : PySem.W.keepIn X.K (.ref f) = true) (hb : Binds X.K fd ps []) (hx : ∀ σ, PassesAt CX X σ (E σ)) (ha : PA X (e :: es) t)
    (hdb : (x == ("__debug__" : Str)) = false := by decide) (hcd : (x == ("__classdict__" : Str)) = false := by decide)
    (he : starEach (e :: es) X.env = (false, eval e X.env) :: starEach es X.env := by rfl) (hpl : (backTo pos (starEach es X.env)).any (·.1) = false := by rfl) : PE X (.Call (.Name x p) (e :: es) [] pos) (tLoc i f (tCallS sp E t)) := by
  refine ⟨fun pins s σ H Q I ⟨hs, ht⟩ => ?_⟩
  refine wpAny_Call_Name_kw (thn ((pe_var (pos := p) hN hv hdb hcd).run pins s σ H (fun v H1 => v = .ref f ∧ H1 = H) I ⟨.ref f, hs, rfl, rfl⟩) fun u s1 ⟨v, H1, I1, r1, q1⟩ => ?_)
  obtain ⟨rfl, rfl⟩ := q1
  cases r1
  refine PySem.W.callWith_K (h₀ := X.base) I.ok.mod.kin hk (thn (ha.run pos pins s1 σ _ _ I1 ht) fun us s2 ⟨vs, H2, I2, r, q⟩ => ⟨I2.kIn, ?_⟩) he hpl
  exact run_fnS F hr hb (hx σ) I2 r q
end
end Ln


set_option Elab.async false
set_option linter.all false
set_option maxRecDepth 100000
set_option maxHeartbeats 2000000
namespace Ln
open PySem PySem.Spec PyProof.Rows L2
/-! ### an exception that is kept behind its suite -/
/-- a caught exception of the class cls -/
def ExH (cls : Value) (d : Option Addr) (a : Addr) : HO := .ext fun h => ∃ (oe : Obj) (vs : Array Value), h.get? a = some oe ∧ Zc cls d oe ∧ oe.data = .fields vs
theorem exH_ok {P : Program} {w : World} {H : Hp} {h : Heap} {a : Addr} {cls : Value} {d : Option Addr} {oe : Obj} {vs : Array Value} (e : h.get? a = some oe) (z : Zc cls d oe) (f : oe.data = .fields vs) : ObjOk P w H h a (ExH cls d a) :=
  ⟨⟨oe, vs, e, z, f⟩, ⟨oe, e⟩, fun _ _ ⟨o, v, q, r⟩ k => ⟨o, v, k o q, r⟩⟩
section
variable {X : Cx} {pins : List (Addr × Obj)} {σ : L2.St} {H : Hp} {s : Shared}
/-- an object that stands, and was not there at the entry, is tracked from now on -/
theorem Inv.track {a : Addr} {oe : Obj} {vs : Array Value} {cls : Value} {d : Option Addr} (I : Inv X pins σ H s) (ha : s.heap.get? a = some oe) (hz : Zc cls d oe) (hd : oe.data = .fields vs) (na : H a = none) (n0 : X.s_0.heap.get? a = none) (nL : a ≠ X.env.locals) (nP : ∀ p ∈ X.pn ++ pins, p.1 ≠ a) :
    Inv X pins σ (upd H a (ExH cls d a)) s := by
  have nc : ∀ x c, X.env.cells.lookup x = some c → c ≠ a := fun x c e z => by
    obtain ⟨v, o, ho, hv⟩ := I.cell x c e
    rw [z, ha] at ho
    cases ho
    rw [hd] at hv
    cases hv
  have hb : ∀ b o, H b = some o → upd H a (ExH cls d a) b = some o := fun b o e => by
    rw [upd_ne fun z => by rw [z, na] at e; cases e]
    exact e
  refine ⟨I.ok, I.os, I.bare, ⟨I.base.keep, I.base.slot, fun b o e n q => ?_, I.base.there, fun b xs e => hb _ _ (I.base.tups b xs e), fun b o u e => hb _ _ (I.base.frzs b o u e), fun b ps e => ?_⟩, I.loc, I.cell, ?_, fun x c e => ?_, fun p hp => ?_, I.hok.laidN (fun _ _ q => q) na (exH_ok ha hz hd), I.len⟩
  · rw [upd_ne fun z => by rw [z, n0] at e; cases e]
    exact I.base.free b o e n q
  · obtain ⟨m, z⟩ := I.base.tbls b ps e
    exact ⟨m, hb _ _ z⟩
  · rw [upd_ne (Ne.symm nL)]
    exact I.free
  · rw [upd_ne (nc x c e)]
    exact I.freeC x c e
  · obtain ⟨e, n, ne, nf, q⟩ := I.pin p hp
    exact ⟨e, by rw [upd_ne (nP p hp)]; exact n, ne, nf, q⟩
end
/-- what the clause wishes: behind the suite the exception is tracked -/
def wAsK (K : PySem.W.Frag) (c : Value) (i : Nat) (ts : Addr → Value → Option Addr → TS) (Wout : WX) (D : Ends) : WX := fun cls d σ H =>
  ∃ b, PySem.W.exmOne K cls c = some b ∧ (b = true → ∀ a, H a = none → ts a cls d { nx := fun σ' H' => H' a = none → D.nx (σ'.set i none) (upd H' a (ExH cls d a)), rt := D.rt, bk := fun σ' H' => D.bk (σ'.set i none) H', ct := fun σ' H' => D.ct (σ'.set i none) H' } (σ.set i (some (.ref a))) H) ∧
    (b = false → Wout cls d σ H)
section
variable {X : Cx} {x n : Str} {c : Value} {i : Nat} {body suite : List Stmt} {b₀ : Stmt} {np pos pos' : Pos} {tb : WX → TS} {ts : Addr → Value → Option Addr → TS} {Wout : WX}
theorem ps_try_asK (hs : X.stack = X.env :: X.outer) (hf : X.env.frame = some X.env.locals) (hN : X.N.Nodup) (hi : X.N[i]? = some n) (hln : X.env.kindOf n = some .local) (hex : X.ex = []) (hc : Names X x c) (tk : Takes X Wout)
    (hb : ∀ (W : WX) (pn : List (Addr × Obj)) (xe : Value → Shared → Prop), Takes (X.tr pn xe) W → PassesOwn (model X.prog X.w) X.A X.env xe → PSs (X.tr pn xe) body (tb W))
    (hsu : ∀ (a : Addr) (oe : Obj) (cls : Value) (d : Option Addr) (pn : List (Addr × Obj)), Zc cls d oe → (∃ vs, oe.data = .fields vs) → PSs (X.suite a ((a, oe) :: pn)) (b₀ :: suite) (ts a cls d)) :
    PS X (.Try body [.ExceptHandler (some (.Name x np)) (some n) (b₀ :: suite) pos'] [] [] pos) (fun D σ H => tb (wAsK X.K c i ts Wout D) D σ H) := by
  constructor
  intro pins s σ H D I h
  have ok := I.ok
  have hfr : X.A.frames = some (X.env :: X.outer) := by rw [ok.frames, hs]
  refine wpAny_Try_except (wpAny_mono ((hb (wAsK X.K c i ts Wout D) (X.pn ++ pins) (fun e s₁ => wpAny (model X.prog X.w) X.A (noteFrame e X.env) (fun _ s₂ => wpAny (model X.prog X.w) X.A (setFlight e none) (fun _ s₃ =>
    wpAny (model X.prog X.w) X.A (handleBy e X.env [.ExceptHandler (some (.Name x np)) (some n) (b₀ :: suite) pos']) (SP X pins D) X.xe s₃) X.xe s₂) X.xe s₁) (fun u s' xx => ?_) PassesOwn.looking).run [] s σ H D (I.toTry _) h) (fun f s1 hsp => ?_) fun e s1 he => he)
  · obtain ⟨a, B, sI, pins', σ', H', cls, d, rfl, J', nb, up, sky, na, os, ag, b, hb1, hyes, hno⟩ := xx
    have J : Inv X pins σ' H' sI := J'.ofTry ok
    have sky2 : Sky B (X.env :: X.outer) a (Zc cls d) X.env.locals s'.heap := hs ▸ sky
    show wpAny (model X.prog X.w) X.A (noteFrame (.ref a) X.env) _ _ _
    refine Sky.land Zc.steady hfr hf sky2 fun h3 fl3 up3 => ?_
    have J3 : Inv X pins σ' H' { s' with heap := h3 } := J.landed nb fl3.1 (up.trans up3) os ag
    have ndB : B.get? a = none := fl3.2.1
    obtain ⟨oe3, vs3, he3, hz3, hd3⟩ := fl3.there
    have nfr : a ∉ frs (X.env :: X.outer) := fun hm => by
      obtain ⟨_, o2, e2, hnf⟩ := fl3.2.2.1.mem hm
      rw [he3] at e2
      cases e2
      exact hnf _ hd3
    have frc : ∀ q, q ∈ frs (X.env :: X.outer) ↔ q = X.env.locals ∨ q ∈ X.fs := fun q => by
      show q ∈ List.filterMap (·.frame) (X.env :: X.outer) ↔ _
      rw [List.filterMap_cons, hf]
      exact List.mem_cons
    have nL : a ≠ X.env.locals := fun z => nfr ((frc a).mpr (.inl z))
    have nF : a ∉ X.fs := fun z => nfr ((frc a).mpr (.inr z))
    have n0 : X.s_0.heap.get? a = none := by
      cases q : X.s_0.heap.get? a with
      | none => rfl
      | some o =>
        obtain ⟨o2, e2⟩ := J.base.there a o q (by rw [hex]; exact fun z => nomatch z)
        have := nb a o2 e2 (hs ▸ nfr)
        rw [ndB] at this
        cases this
    have nP : ∀ p ∈ X.pn ++ pins, p.1 ≠ a := fun p hp z => by
      obtain ⟨e, _, nl, nf, _⟩ := J.pin p hp
      have := nb p.1 p.2 e (fun q => by
        rw [hs] at q
        rcases (frc _).mp q with q | q
        · exact nl q
        · exact nf q)
      rw [z, ndB] at this
      cases this
    have S3 := J3.suite he3 hd3 na nL nF
    refine wpAny_handleBy_cons (codeAny_handlers_test ?_) (by intro q; cases q)
    have LM := PySem.W.exm_one (M := model X.prog X.w) (J3.kIn) (show PySem.W.Looks (model X.prog X.w) h3 (typeOf (.ref a)) cls from fun A Q E s k q => wpAny_typeOf_ref (k _ _ he3) (by rw [hz3.1]; exact q)) hb1
    have test : ∀ {Q : Value → Shared → Prop} {E : Value → Shared → Prop}, Q c { s' with heap := h3 } → wpAny (model X.prog X.w) (X.A.mark (some (.ref a))) (eval (.Name x np) X.env) Q E { s' with heap := h3 } := fun {Q E} q => by
      obtain ⟨hg, hdbg, hm | ⟨hm, hv, hnn⟩⟩ := hc
      · exact ld_glob (X := X.suite a ((a, oe3) :: (X.pn ++ pins))) S3 hg hm q hdbg
      · exact ld_blt (X := X.suite a ((a, oe3) :: (X.pn ++ pins))) S3 hg hm hv q hnn hdbg
    refine test (LM.here ?_)
    cases b with
    | true =>
      refine codeAny_handlers_suite_as (HandSPX.lands_againZ fl3 fun h4 fl4 up4 => ?_)
      have J4 : Inv X pins σ' H' { s' with heap := h4 } := J.landed nb fl4.1 ((up.trans up3).trans up4) os ag
      obtain ⟨oe4, vs4, he4, hz4, hd4⟩ := fl4.there
      have S4 := J4.suite he4 hd4 na nL nF
      refine store_ok (X := X.suite a ((a, oe4) :: (X.pn ++ pins))) (v := .ref a) S4 hN hi (.inl hln) rfl (fun s5 S5 => ?_) (.inr hln)
      refine wpAny_mono ((hsu a oe4 cls d (X.pn ++ pins) hz4 ⟨_, hd4⟩).run [] s5 _ H' _ S5 (hyes rfl a na)) (fun f s6 hsp => ?_) (fun _ _ z => False.elim z)
      have gone : ∀ {σ6 : L2.St} {H6 : Hp} {Q : Shared → Prop}, Inv (X.suite a ((a, oe4) :: (X.pn ++ pins))) [] σ6 H6 s6 → (∀ s7, Inv X pins (σ6.set i none) H6 s7 → Q s7) →
          wpAny (model X.prog X.w) X.A (do bindName X.env n .none; unbindBehindTheSuite X.env n pos') (fun _ s7 => Q s7) X.xe s6 := fun {σ6 H6 Q} S6 hq => gone_ok (S6.unsuite ok) hN hi hln hq
      cases f with
      | next =>
        obtain ⟨σ6, H6, S6, q6⟩ := hsp
        obtain ⟨e6, n6, _⟩ := S6.pin (a, oe4) (List.mem_append_left _ List.mem_cons_self)
        have T6 : Inv X pins σ6 (upd H6 a (ExH cls d a)) s6 := Inv.track (S6.unsuite ok) e6 hz4 hd4 n6 n0 nL nP
        exact gone_ok T6 hN hi hln fun s7 J7 => ⟨_, _, J7, q6 n6⟩
      | brk =>
        obtain ⟨σ6, H6, S6, q6⟩ := hsp
        exact gone S6 fun s7 J7 => ⟨_, _, J7, q6⟩
      | cont =>
        obtain ⟨σ6, H6, S6, q6⟩ := hsp
        exact gone S6 fun s7 J7 => ⟨_, _, J7, q6⟩
      | ret u =>
        obtain ⟨v6, σ6, H6, S6, r6, q6⟩ := hsp
        exact gone S6 fun s7 J7 => ⟨_, _, _, J7, r6, q6⟩
    | false =>
      show wpAny _ X.A (handleBy (.ref a) X.env []) _ _ _
      refine wpAny_handleBy_nil ?_
      obtain ⟨k1, k2, k3, oe, vs, T, oT, ts', he, hz, hd, h1, hr⟩ := id fl3
      unfold PySem.passOn
      refine wpAny_bind (wpAny_field he hd h1 ?_)
      rw [if_neg (show ¬ ((Value.ref T == Value.none) = true) from by simp)]
      have fin : wpAny (model X.prog X.w) X.A (setFlight (.ref a) X.env.frame) (fun _ s4 => wpAny (model X.prog X.w) X.A (throw (.ref a) : Sem Flow) (SP X pins D) X.xe s4) X.xe { s' with heap := h3 } := by
        rw [hf]
        refine HandSPX.setFlight_upZ fl3 fun h4 hh4 up4 => wpAny_throw (tk _ _ ⟨a, B, sI, pins, σ', H', cls, d, rfl, J, nb, (up.trans up3).trans up4, .inr (.inr (by rw [hs]; exact hh4)), na, os, ag, hno rfl⟩)
      first
        | exact wpAny_bind (wpAny_pure (wpAny_bind fin))
        | exact wpAny_bind fin
  · cases f with
    | next =>
      obtain ⟨σ2, H2, J2, q⟩ := hsp
      exact wpAny_execs_nil ⟨σ2, H2, J2.ofTry ok, q⟩
    | brk =>
      obtain ⟨σ2, H2, J2, q⟩ := hsp
      exact ⟨σ2, H2, J2.ofTry ok, q⟩
    | cont =>
      obtain ⟨σ2, H2, J2, q⟩ := hsp
      exact ⟨σ2, H2, J2.ofTry ok, q⟩
    | ret u =>
      obtain ⟨v, σ2, H2, J2, r, q⟩ := hsp
      exact ⟨v, σ2, H2, J2.ofTry ok, r, q⟩
end
/-! ### isinstance of a tracked exception -/
/-- isinstance(e, c) -/
def rIsX (K : PySem.W.Frag) : List V → Hp → VK → Prop := fun xs H Q => ∃ (a D : Addr) (c : V) (cv : Value) (b : Bool), xs = [.ref a, c] ∧ ExcC K D ∧ H a = some (ExH (.ref D) none a) ∧ ClsV c cv ∧ PySem.W.kitOne K (.ref D) cv = some b ∧ Q (.bl b) H
/-- isinstance(e, (c1, c2, ..)) -/
def rIsXT (K : PySem.W.Frag) : List V → Hp → VK → Prop := fun xs H Q => ∃ (a D tp : Addr) (cs : List V) (us : List Value) (b : Bool), xs = [.ref a, .ref tp] ∧ ExcC K D ∧ H a = some (ExH (.ref D) none a) ∧ H tp = some (.tup cs) ∧ Paired ClsV cs us ∧ PySem.W.kitAny K (.ref D) us = some b ∧ Q (.bl b) H
section
variable {X : Cx}
theorem exH_inst {P : Program} {w : World} {H : Hp} {h : Heap} {a D : Addr} (x : HOk P w H h) (e : H a = some (ExH (.ref D) none a)) : ∃ oe, PySem.W.InstAt h a oe D none := by
  obtain ⟨⟨⟨oc, od, oda, osl⟩, vs, hg, ⟨h1, h2⟩, hv⟩, _, _⟩ := x a _ e
  dsimp only at h1 h2 hv
  subst h1 h2 hv
  exact ⟨_, hg, rfl, rfl, trivial⟩
theorem call_isX : CallR X (.builtin "isinstance") (rIsX X.K) := by
  intro pins s σ H xs us Q I r h
  obtain ⟨a, D, c, cv, b, rfl, C, ha, hc, e, q⟩ := h
  obtain ⟨u1, u2, rfl, r1, r2⟩ := vals2 r
  cases (show u1 = Value.ref a from r1)
  have e2 := hc.eq r2
  subst e2
  obtain ⟨oe, J⟩ := exH_inst I.hok ha
  exact PySem.W.kia_one (PySem.W.handS_kitx_exc C.hg C.hk C.hs C.hd C.ha C.hn C.ht C.hm) I.kIn J e (fun z => nomatch z) fun tk => ⟨.bl b, H, I.tok tk, rfl, q⟩
theorem call_isXT : CallR X (.builtin "isinstance") (rIsXT X.K) := by
  intro pins s σ H xs us Q I r h
  obtain ⟨a, D, tp, cs, ws, b, rfl, C, ha, hT, k, e, q⟩ := h
  obtain ⟨u1, u2, rfl, r1, r2⟩ := vals2 r
  cases (show u1 = Value.ref a from r1)
  cases (show u2 = Value.ref tp from r2)
  obtain ⟨oe, J⟩ := exH_inst I.hok ha
  obtain ⟨_, its, rv, o, h1, h2, n, h3⟩ := (show ObjOk X.prog X.w H s.heap tp (.tup cs) from I.hok tp _ hT)
  have e3 := ClsV.all k rv
  subst e3
  obtain ⟨oc, od, dt, sl⟩ := o
  simp only at h2 h3
  subst h2 h3
  exact PySem.W.kia_tup (PySem.W.handS_kitx_exc C.hg C.hk C.hs C.hd C.ha C.hn C.ht C.hm) I.kIn J h1 e (fun z => nomatch z) fun tk => ⟨.bl b, H, I.tok tk, rfl, q⟩
end
end Ln


set_option Elab.async false
set_option linter.all false
set_option maxRecDepth 100000
set_option maxHeartbeats 4000000
namespace Ln
open PySem PySem.Spec PyProof.Rows L2 GxR
/-! ### values of any plain kind -/
mutual
inductive Dv (K : PySem.W.Frag) (H : Hp) : V → PyData → Prop
  | non : Dv K H .non .none
  | bl (b : Bool) : Dv K H (.bl b) (.bool b)
  | int (i : Int) : Dv K H (.int i) (.int i)
  | str (x : Str) (h : x.length ≤ sizeLine) : Dv K H (.str x) (.str x)
  | lst {a : Addr} {xs : List V} {ds : List PyData} : SqL K H a xs → DvAll K H xs ds → Dv K H (.ref a) (.list ds)
  | tup {a : Addr} {xs : List V} {ds : List PyData} : SqT K H a xs → DvAll K H xs ds → Dv K H (.ref a) (.tuple ds)
  | dic {a : Addr} : H a = some (.dK []) → Dv K H (.ref a) (.dict [])
inductive DvAll (K : PySem.W.Frag) (H : Hp) : List V → List PyData → Prop
  | nil : DvAll K H [] []
  | cons {v : V} {vs : List V} {d : PyData} {ds : List PyData} : Dv K H v d → DvAll K H vs ds → DvAll K H (v :: vs) (d :: ds)
end
/-- the built-in type of a value -/
def tyD : PyData → String
  | .none => "NoneType"
  | .bool _ => "bool"
  | .int _ => "int"
  | .str _ => "str"
  | .list _ => "list"
  | .tuple _ => "tuple"
  | .dict _ => "dict"
theorem Dv.ty {K : PySem.W.Frag} {H : Hp} {v : V} {d : PyData} (h : Dv K H v d) : TyX K H v (.type (tyD d)) := by
  cases h with
  | non => exact .base .non
  | bl b => exact .base (.bl b)
  | int i => exact .base (.int i)
  | str x _ => exact .base (.str x)
  | lst s _ => exact tyx_lst s
  | tup s _ => exact tyx_tup s
  | dic e => exact .base (.dK e)
def isTup : PyData → Bool
  | .tuple _ => true
  | _ => false
def isLst : PyData → Bool
  | .list _ => true
  | _ => false
def isStr : PyData → Bool
  | .str _ => true
  | _ => false
theorem kit_tup : ∀ d : PyData, kitB (tyD d) "tuple" = some (isTup d)
  | .none => show kitB "NoneType" "tuple" = some false by decide +kernel
  | .bool _ => show kitB "bool" "tuple" = some false by decide +kernel
  | .int _ => show kitB "int" "tuple" = some false by decide +kernel
  | .str _ => show kitB "str" "tuple" = some false by decide +kernel
  | .list _ => show kitB "list" "tuple" = some false by decide +kernel
  | .tuple _ => show kitB "tuple" "tuple" = some true by decide +kernel
  | .dict _ => show kitB "dict" "tuple" = some false by decide +kernel
theorem kit_lst : ∀ d : PyData, kitB (tyD d) "list" = some (isLst d)
  | .none => show kitB "NoneType" "list" = some false by decide +kernel
  | .bool _ => show kitB "bool" "list" = some false by decide +kernel
  | .int _ => show kitB "int" "list" = some false by decide +kernel
  | .str _ => show kitB "str" "list" = some false by decide +kernel
  | .list _ => show kitB "list" "list" = some true by decide +kernel
  | .tuple _ => show kitB "tuple" "list" = some false by decide +kernel
  | .dict _ => show kitB "dict" "list" = some false by decide +kernel
theorem kit_str : ∀ d : PyData, kitB (tyD d) "str" = some (isStr d)
  | .none => show kitB "NoneType" "str" = some false by decide +kernel
  | .bool _ => show kitB "bool" "str" = some false by decide +kernel
  | .int _ => show kitB "int" "str" = some false by decide +kernel
  | .str _ => show kitB "str" "str" = some true by decide +kernel
  | .list _ => show kitB "list" "str" = some false by decide +kernel
  | .tuple _ => show kitB "tuple" "str" = some false by decide +kernel
  | .dict _ => show kitB "dict" "str" = some false by decide +kernel
section
variable {K : PySem.W.Frag} {H H1 : Hp} {Ps : List Addr}
theorem sqL_sm {a : Addr} {xs : List V} (h : SqL K H a xs) (k : L2.Same H H1) : SqL K H1 a xs := by
  rcases h with (e | ⟨ob, e⟩) | e
  · exact .inl (.inl (k _ _ e))
  · exact .inl (.inr ⟨ob, k _ _ e⟩)
  · exact .inr e
theorem sqT_sm {a : Addr} {xs : List V} (h : SqT K H a xs) (k : L2.Same H H1) : SqT K H1 a xs := by
  rcases h with (e | ⟨ob, e⟩) | e
  · exact .inl (.inl (k _ _ e))
  · exact .inl (.inr ⟨ob, k _ _ e⟩)
  · exact .inr e
mutual
theorem Dv.same (k : L2.Same H H1) : ∀ {v : V} {d : PyData}, Dv K H v d → Dv K H1 v d
  | _, _, .non => .non
  | _, _, .bl b => .bl b
  | _, _, .int i => .int i
  | _, _, .str x h => .str x h
  | _, _, .lst s a => .lst (sqL_sm s k) (DvAll.same k a)
  | _, _, .tup s a => .tup (sqT_sm s k) (DvAll.same k a)
  | _, _, .dic e => .dic (k _ _ e)
theorem DvAll.same (k : L2.Same H H1) : ∀ {vs : List V} {ds : List PyData}, DvAll K H vs ds → DvAll K H1 vs ds
  | _, _, .nil => .nil
  | _, _, .cons a b => .cons (Dv.same k a) (DvAll.same k b)
end
mutual
theorem Dv.kp (k : Kp Ps H H1) (hT : Tabs Ps H) : ∀ {v : V} {d : PyData}, Dv K H v d → Dv K H1 v d
  | _, _, .non => .non
  | _, _, .bl b => .bl b
  | _, _, .int i => .int i
  | _, _, .str x h => .str x h
  | _, _, .lst s a => .lst (k.seqL hT s) (DvAll.kp k hT a)
  | _, _, .tup s a => .tup (k.seqT hT s) (DvAll.kp k hT a)
  | _, _, .dic e => .dic (k.at_ _ _ e (tab_ne hT e fun q z => by cases z))
theorem DvAll.kp (k : Kp Ps H H1) (hT : Tabs Ps H) : ∀ {vs : List V} {ds : List PyData}, DvAll K H vs ds → DvAll K H1 vs ds
  | _, _, .nil => .nil
  | _, _, .cons a b => .cons (Dv.kp k hT a) (DvAll.kp k hT b)
end
theorem DvAll.len : ∀ {vs : List V} {ds : List PyData}, DvAll K H vs ds → vs.length = ds.length
  | _, _, .nil => rfl
  | _, _, .cons _ b => by rw [List.length_cons, List.length_cons, DvAll.len b]
theorem DvAll.at_ : ∀ {vs : List V} {ds : List PyData}, DvAll K H vs ds → ∀ {i : Nat} {d : PyData}, ds[i]? = some d → ∃ v, vs[i]? = some v ∧ Dv K H v d
  | _, _, .nil, i, d, h => by simp at h
  | _, _, .cons a b, 0, d, h => by
    cases h
    exact ⟨_, rfl, a⟩
  | _, _, .cons a b, i + 1, d, h => DvAll.at_ b (i := i) h
/-- parts that are all texts -/
def strsD : List PyData → Option (List Str)
  | [] => some []
  | .str x :: r => (strsD r).map (x :: ·)
  | _ :: _ => none
theorem DvAll.strs : ∀ {vs : List V} {ds : List PyData} {xs : List Str}, DvAll K H vs ds → strsD ds = some xs → vs = xs.map V.str ∧ ds = xs.map PyData.str ∧ ∀ x ∈ xs, x.length ≤ sizeLine
  | _, _, xs, .nil, h => by
    cases h
    exact ⟨rfl, rfl, fun _ h => nomatch h⟩
  | _, d :: ds, xs, .cons a b, h => by
    cases a with
    | str x hx =>
      have h : (strsD ds).map (x :: ·) = some xs := h
      cases q : strsD ds with
      | none => rw [q] at h; cases h
      | some ys =>
        rw [q] at h
        cases h
        obtain ⟨e1, e2, e3⟩ := DvAll.strs b q
        refine ⟨by rw [e1]; rfl, by rw [e2]; rfl, fun y hy => ?_⟩
        rcases List.mem_cons.mp hy with e | e
        · rw [e]; exact hx
        · exact e3 y e
    | _ => cases h
end
def carD : PyData → Bool
  | .str x => carB x
  | _ => false
def laneD : PyData → Bool
  | .tuple ds => match strsD ds with
    | some xs => laneB xs
    | none => false
  | _ => false
theorem strs_of_cars : ∀ {ds : List PyData}, ds.all carD = true → ∃ xs, strsD ds = some xs
  | [], _ => ⟨[], rfl⟩
  | d :: r, h => by
    rw [List.all_cons, Bool.and_eq_true] at h
    obtain ⟨xs, e⟩ := strs_of_cars h.2
    cases d with
    | str x => exact ⟨x :: xs, by show (strsD r).map (x :: ·) = _; rw [e]; rfl⟩
    | _ => exact (Bool.false_ne_true h.1).elim
theorem fn_or {P : Program} {w : World} {mg : Str → Option Value} {base : Heap} {K : PySem.W.Frag} {CX : CXT} {k : Nat} {f : Addr} {fd : FuncData} {ps : List Str} {s1 s2 : Sp} (h1 : FnOk P w K mg base CX k f fd ps s1) (h2 : FnOk P w K mg base CX k f fd ps s2) : FnOk P w K mg base CX k f fd ps fun vs H Q E => s1 vs H Q E ∨ s2 vs H Q E :=
  ⟨fun vs H Q E h => h.elim (h1.len vs H Q E) (h2.len vs H Q E), fun A outer s H args us vs Q E hr he hb hv hs => hs.elim (h1.run A outer s H args us vs Q E hr he hb hv) (h2.run A outer s H args us vs Q E hr he hb hv)⟩
section
variable {P : Program} {w : World} {K : PySem.W.Frag} {mg : Str → Option Value} {base : Heap} {Ps : List Addr}
/-- what is not a text is no car -/
def spCarN (K : PySem.W.Frag) : Sp := fun vs H Q _ => ∃ (v : V) (d : PyData), vs = [v] ∧ Dv K H v d ∧ isStr d = false ∧ Q (.bl false) H
theorem ok_carN {f c P1 : Addr} {fd : FuncData} (F : FunC K "is_car" "is_car" sIsCar f fd c) (B : Bi mg) (TB : TabB base mg c P1) (hP : P1 ∈ Ps) : FnOk P w K mg base CX0 2 f fd ["value"] (spCarN K) := by
  refine F.ok scIsCar (fun vs H Q E h => ?_) (fun A outer s H vs Q E hr h => ?_)
  · obtain ⟨z, d, rfl, _⟩ := h
    rfl
  · obtain ⟨z, d, rfl, hd, hn, q⟩ := h
    refine ⟨_, pss_cons (ps_if (PW.pt (pw_or (pt_not (pt_val (pe_callB call_isi (by rfl) B.isi (by decide +kernel) (pa_cons (pv 0) (pa_cons (pe_bltn (by rfl) B.str (by decide +kernel) (v := .ty "str") rfl) pa_nil)))))
        (pw_or1 (pt_not (pt_chain op_le op_le pe_int (pe_callB call_len_str (by rfl) B.len PySem.boot_len (pa_cons (pv 0) pa_nil)) pe_int)))))
        (pss_one (ps_ret pe_bl)) pss_nil)
      (pss_one (ps_ret (pe_allG (k := 0) hr rfl (by rfl) B.all TB rfl ⟨rfl, rfl, by decide +kernel, by decide +kernel, rfl, rfl⟩ (pi_str (pv 0))
        (fun _ _ _ _ _ _ _ _ _ => pe_chain op_le_str op_le_str pe_str (pv 0) pe_str)))), ?_⟩
    refine ⟨_, rfl, z, .ty "str", .type (tyD d), .type "str", isStr d, rfl, .ty _, hd.ty, kit_ty (kit_str d), isStr d, rfl, ?_⟩
    rw [hn]
    exact iteT q
def spCarA (K : PySem.W.Frag) (Ps : List Addr) : Sp := fun vs H Q _ => ∃ (v : V) (d : PyData), vs = [v] ∧ Dv K H v d ∧ Tabs Ps H ∧ ∀ H', Kp Ps H H' → Q (.bl (carD d)) H'
theorem ok_carA {f : Addr} {fd : FuncData} (h1 : FnOk P w K mg base CX0 2 f fd ["value"] (spCar Ps)) (h2 : FnOk P w K mg base CX0 2 f fd ["value"] (spCarN K)) : FnOk P w K mg base CX0 2 f fd ["value"] (spCarA K Ps) :=
  (fn_or h1 h2).imp fun vs H Q E ⟨v, d, e, hd, hT, q⟩ => by
    cases hd with
    | str x hx => exact .inl ⟨x, e, hx, hT, q⟩
    | non => exact .inr ⟨_, _, e, .non, rfl, q H (Kp.refl hT)⟩
    | bl b => exact .inr ⟨_, _, e, .bl b, rfl, q H (Kp.refl hT)⟩
    | int i => exact .inr ⟨_, _, e, .int i, rfl, q H (Kp.refl hT)⟩
    | lst s a => exact .inr ⟨_, _, e, .lst s a, rfl, q H (Kp.refl hT)⟩
    | tup s a => exact .inr ⟨_, _, e, .tup s a, rfl, q H (Kp.refl hT)⟩
    | dic z => exact .inr ⟨_, _, e, .dic z, rfl, q H (Kp.refl hT)⟩
/-- is_lane of what is no tuple of texts -/
def spLaneN (K : PySem.W.Frag) (Ps : List Addr) : Sp := fun vs H Q _ => ∃ (v : V) (d : PyData), vs = [v] ∧ Dv K H v d ∧ (∀ ds, d = .tuple ds → strsD ds = none) ∧ Tabs Ps H ∧ ∀ H', Kp Ps H H' → Q (.bl false) H'
theorem ok_laneN {f c P1 fC : Addr} {fd fdC : FuncData} (F : FunC K "is_lane" "is_lane" sIsLane f fd c) (B : Bi mg) (TB : TabB base mg c P1) (hP : P1 ∈ Ps)
    (GC : FnOk P w K mg base CX0 2 fC fdC ["value"] (spCarA K Ps)) (mgC : mg "is_car" = some (.ref fC)) (kC : PySem.W.keepIn K (.ref fC) = true) (bC : Binds K fdC ["value"] []) : FnOk P w K mg base CX0 4 f fd ["value"] (spLaneN K Ps) := by
  refine F.ok scIsLane (fun vs H Q E h => ?_) (fun A outer s H vs Q E hr h => ?_)
  · obtain ⟨a, d, rfl, _⟩ := h
    rfl
  · obtain ⟨v, d, rfl, hd, hn, hT, q⟩ := h
    refine ⟨_, pss_cons (ps_if (PW.pt (pw_or (pt_not (pt_val (pe_callB call_isi (by rfl) B.isi (by decide +kernel) (pa_cons (pv 0) (pa_cons (pe_bltn (by rfl) B.tup (by decide +kernel) (v := .ty "tuple") rfl) pa_nil)))))
        (pw_or1 (pt_not (pt_val (pe_allG (k := 2) hr rfl (by rfl) B.all TB rfl ⟨rfl, rfl, by decide +kernel, by decide +kernel, rfl, rfl⟩ (pi_tup (pv 0))
          (fun _ _ _ _ _ _ _ _ hk => pe_call GC hk rfl mgC kC bC .nil pass0 (pa_cons (pv 0) pa_nil))))))))
        (pss_one (ps_ret pe_bl)) pss_nil)
      (pss_one (ps_ret (pe_cmpR op_eq (pe_callB call_len_setK (by rfl) B.len PySem.boot_len (pa_cons (pe_callTy (cr_setT rfl) (by rfl) B.set (by decide +kernel) (pa_cons (pv 0) pa_nil)) pa_nil))
        (pe_callB call_len_seq (by rfl) B.len PySem.boot_len (pa_cons (pv 0) pa_nil)) (nomark _)))), ?_⟩
    refine ⟨_, rfl, v, .ty "tuple", .type (tyD d), .type "tuple", isTup d, rfl, .ty _, hd.ty, kit_ty (kit_tup d), isTup d, rfl, ?_⟩
    by_cases ht : isTup d = true
    · rw [ht]
      refine iteF ?_
      cases hd with
      | @tup a xs ds hS hA =>
        have hno := hn ds rfl
        refine ⟨.ref a, rfl, a, rfl, ⟨_, hS⟩, hT P1 hP, fun i m H' => m = ds.length - i ∧ Kp Ps H H' ∧ i ≤ ds.length ∧ (ds.take i).all carD = true, fun H2 hH => ⟨ds.length, by omega, Kp.tabbed hT hP hH, Nat.zero_le _, rfl⟩, fun i m H' hW => ?_⟩
        obtain ⟨rfl, kp, hi, hall⟩ := hW
        have hS' := kp.seqT hT hS
        have hlx := hA.len
        by_cases hlt : i < ds.length
        · obtain ⟨y, hx, hy⟩ := hA.at_ (List.getElem?_eq_getElem hlt)
          refine .inr ⟨⟨_, _, hS', hx⟩, fun v H3 hyv => ?_⟩
          obtain ⟨rfl, fv⟩ := hyv
          obtain rfl : v = y := Option.some.inj ((fv _ hS').symm.trans hx)
          refine ⟨_, rfl, _, _, rfl, hy.kp kp hT, kp.tab, fun H4 kp4 => ⟨_, rfl, ?_⟩⟩
          refine ite2 (fun hc => ?_) (fun hc => ?_)
          · refine ⟨_, ?_, rfl, kp.trans kp4, hlt, ?_⟩
            · omega
            · rw [List.take_add_one, List.getElem?_eq_getElem hlt, List.all_append, hall]
              simp [hc]
          · exact ⟨false, rfl, iteT (q H4 (kp.trans kp4))⟩
        · exfalso
          rw [List.take_of_length_le (by omega)] at hall
          obtain ⟨zs, hz⟩ := strs_of_cars hall
          rw [hno] at hz
          cases hz
      | _ => cases ht
    · have ht : isTup d = false := by simpa using ht
      rw [ht]
      exact iteT (q H (Kp.refl hT))
def spLaneA (K : PySem.W.Frag) (Ps : List Addr) : Sp := fun vs H Q _ => ∃ (v : V) (d : PyData), vs = [v] ∧ Dv K H v d ∧ (∀ ds, d = .tuple ds → ds.length ≤ 1000) ∧ Tabs Ps H ∧ ∀ H', Kp Ps H H' → Q (.bl (laneD d)) H'
theorem ok_laneA {f : Addr} {fd : FuncData} (h1 : FnOk P w K mg base CX0 4 f fd ["value"] (spLane K Ps)) (h2 : FnOk P w K mg base CX0 4 f fd ["value"] (spLaneN K Ps)) : FnOk P w K mg base CX0 4 f fd ["value"] (spLaneA K Ps) :=
  (fn_or h1 h2).imp fun vs H Q E ⟨v, d, e, hd, hl, hT, q⟩ => by
    cases hd with
    | @tup a xs ds s al =>
      cases hs : strsD ds with
      | some ys =>
        obtain ⟨e1, e2, e3⟩ := al.strs hs
        subst e1
        have q : ∀ H', Kp Ps H H' → Q (.bl (match strsD ds with | some xs => laneB xs | none => false)) H' := q
        rw [hs] at q
        refine .inl ⟨a, ys, e, s, ?_, e3, hT, q⟩
        have := hl ds rfl
        rw [e2, List.length_map] at this
        exact this
      | none =>
        have q : ∀ H', Kp Ps H H' → Q (.bl (match strsD ds with | some xs => laneB xs | none => false)) H' := q
        rw [hs] at q
        exact .inr ⟨_, _, e, .tup s al, (fun ds2 e2 => by cases e2; exact hs), hT, q⟩
    | str x hx => exact .inr ⟨_, _, e, .str x hx, (fun _ z => nomatch z), hT, q⟩
    | non => exact .inr ⟨_, _, e, .non, (fun _ z => nomatch z), hT, q⟩
    | bl b => exact .inr ⟨_, _, e, .bl b, (fun _ z => nomatch z), hT, q⟩
    | int i => exact .inr ⟨_, _, e, .int i, (fun _ z => nomatch z), hT, q⟩
    | lst s a => exact .inr ⟨_, _, e, .lst s a, (fun _ z => nomatch z), hT, q⟩
    | dic z => exact .inr ⟨_, _, e, .dic z, (fun _ z => nomatch z), hT, q⟩
end
end Ln


set_option Elab.async false
set_option linter.all false
set_option maxRecDepth 100000
set_option maxHeartbeats 4000000
namespace Ln
open PySem PySem.Spec PyProof.Rows L2 GxR
/-! ### events and logs of any plain kind -/
def hasWD (wd : Str) (n : Nat) : PyData → Bool
  | .tuple (.str y :: ds) => decide (ds.length + 1 = n) && decide (y = wd)
  | _ => false
def arrBD : PyData → Bool
  | .tuple [.str y, d] => decide (y = "in") && carD d
  | _ => false
def depBD : PyData → Bool
  | .tuple [.str y] => decide (y = "out")
  | _ => false
theorem depBD_has (d : PyData) : depBD d = hasWD "out" 1 d := by
  match d with
  | .tuple [.str y] => show _ = (decide (0 + 1 = 1) && decide (y = "out")); rw [decide_eq_true rfl, Bool.true_and]; rfl
  | .tuple (.str y :: e :: r) => show false = (decide ((e :: r).length + 1 = 1) && decide (y = "out")); rw [decide_eq_false (by rw [List.length_cons]; omega), Bool.false_and]
  | .tuple [] => rfl
  | .tuple (.none :: _) => rfl
  | .tuple (.bool _ :: _) => rfl
  | .tuple (.int _ :: _) => rfl
  | .tuple (.list _ :: _) => rfl
  | .tuple (.tuple _ :: _) => rfl
  | .tuple (.dict _ :: _) => rfl
  | .none => rfl
  | .bool _ => rfl
  | .int _ => rfl
  | .str _ => rfl
  | .list _ => rfl
  | .dict _ => rfl
theorem has2 {wd : Str} {d : PyData} (h : hasWD wd 2 d = true) : ∃ e, d = .tuple [.str wd, e] := by
  match d, h with
  | .tuple (.str y :: r), h =>
    have h : (decide (r.length + 1 = 2) && decide (y = wd)) = true := h
    rw [Bool.and_eq_true] at h
    have h1 := of_decide_eq_true h.1
    have h2 := of_decide_eq_true h.2
    match r, h1 with
    | [e], _ => exact ⟨e, by rw [h2]⟩
    | [], h1 => exact absurd h1 (by decide)
    | _ :: _ :: _, h1 => exact absurd h1 (by rw [List.length_cons, List.length_cons]; omega)
theorem arr_has {d : PyData} (h : hasWD "in" 2 d = false) : arrBD d = false := by
  cases q : arrBD d with
  | false => rfl
  | true =>
    match d, q with
    | .tuple [.str y, e], q =>
      have q : (decide (y = "in") && carD e) = true := q
      rw [Bool.and_eq_true] at q
      have h : (decide (1 + 1 = 2) && decide (y = "in")) = false := h
      rw [q.1] at h
      cases h
def carO : PyData → Option Str
  | .tuple [_, .str c] => some c
  | _ => none
/-- may the values be a log, the cars used, n present -/
def logW : List Str → Nat → List PyData → Bool
  | _, _, [] => true
  | u, n, d :: r => if arrBD d = true then (carO d).elim false (fun c => if ¬ c ∈ u then logW (c :: u) (n + 1) r else false) else if depBD d = true then (if 0 < n then logW u (n - 1) r else false) else false
theorem logW_cons {u : List Str} {n : Nat} {d : PyData} {r : List PyData} : logW u n (d :: r) = if arrBD d = true then (carO d).elim false (fun c => if ¬ c ∈ u then logW (c :: u) (n + 1) r else false) else if depBD d = true then (if 0 < n then logW u (n - 1) r else false) else false := rfl
def logD (xs : List Str) : PyData → Bool
  | .list ds => logW xs xs.length ds
  | _ => false
theorem arr_of {d : PyData} (h : arrBD d = true) : ∃ c, d = .tuple [.str "in", .str c] ∧ carB c = true := by
  match d, h with
  | .tuple [.str y, e], h =>
    have h : (decide (y = "in") && carD e) = true := h
    rw [Bool.and_eq_true] at h
    have h1 := of_decide_eq_true h.1
    match e, h.2 with
    | .str c, h2 => exact ⟨c, by rw [h1], h2⟩
theorem arr_not_dep {d : PyData} (h : arrBD d = true) : depBD d = false := by
  obtain ⟨c, rfl, _⟩ := arr_of h
  rfl
section
variable {P : Program} {w : World} {K : PySem.W.Frag} {mg : Str → Option Value} {base : Heap} {Ps : List Addr}
def spHasWA (K : PySem.W.Frag) : Sp := fun vs H Q _ => ∃ (v : V) (d : PyData) (wd : Str) (n : Nat), vs = [v, .str wd, .int n] ∧ Dv K H v d ∧ 1 ≤ n ∧ Q (.bl (hasWD wd n d)) H
theorem ok_hasWA {f : Addr} {fd : FuncData} (F : Fun K "has_word" "has_word" sHasW f fd) (B : Bi mg) : FnOk P w K mg base CX0 1 f fd ["value", "word", "length"] (spHasWA K) := by
  refine F.ok scHasW (fun vs H Q E h => ?_) (fun cdv A outer s H vs Q E hr h => ?_)
  · obtain ⟨v, d, wd, n, rfl, _⟩ := h
    rfl
  · obtain ⟨v, d, wd, n, rfl, hd, hn, q⟩ := h
    refine ⟨_, pss_one (ps_ret (pe_and (pe_callB call_isi (by rfl) B.isi (by decide +kernel) (pa_cons (pv 0) (pa_cons (pe_bltn (by rfl) B.tup (by decide +kernel) (v := .ty "tuple") rfl) pa_nil)))
      (pe_and (pe_cmpR op_eq (pe_callB call_len_seq (by rfl) B.len PySem.boot_len (pa_cons (pv 0) pa_nil)) (pv 2) (nomark _))
      (pe_and (pe_callB call_isi (by rfl) B.isi (by decide +kernel) (pa_cons (pe_ix ix_tup (pv 0) pe_int (fun _ _ => rfl)) (pa_cons (pe_bltn (by rfl) B.str (by decide +kernel) (v := .ty "str") rfl) pa_nil)))
      (pe_one (pe_cmpR op_eq (pe_ix ix_tup (pv 0) pe_int (fun _ _ => rfl)) (pv 1) (nomark _))))))), ?_⟩
    refine ⟨v, rfl, v, .ty "tuple", .type (tyD d), .type "tuple", isTup d, rfl, .ty _, hd.ty, kit_ty (kit_tup d), isTup d, rfl, ?_⟩
    by_cases ht : isTup d = true
    · rw [ht]
      cases hd with
      | @tup a xs ds hS hA =>
        refine iteT ⟨.ref a, rfl, a, _, rfl, .inr hS, .int n, rfl, rfl, _, rfl, ?_⟩
        have hl := hA.len
        refine ite2 (fun hz => ?_) (fun hz => ?_)
        · have hz : (xs.length : Int) = n := V.int.inj (of_decide_eq_true hz)
          have hl2 : ds.length = n := by omega
          match ds, hA, hl2, q with
          | [], _, hl2, _ => exact absurd hl2 (by rw [List.length_nil]; omega)
          | d0 :: r, hA, hl2, q =>
            obtain ⟨v0, h0, hd0⟩ := hA.at_ (i := 0) (d := d0) rfl
            refine ⟨.ref a, rfl, a, _, 0, v0, rfl, rfl, hS, atI_nat (j := 0) h0, v0, .ty "str", .type (tyD d0), .type "str", isStr d0, rfl, .ty _, hd0.ty, kit_ty (kit_str d0), isStr d0, rfl, ?_⟩
            cases hd0 with
            | str y hy =>
              refine iteT ⟨.ref a, rfl, a, _, 0, .str y, rfl, rfl, hS, atI_nat (j := 0) h0, .str wd, rfl, rfl, ?_⟩
              have e2 : decide (V.str y = V.str wd) = decide (y = wd) := decide_eq_decide.mpr ⟨fun z => V.str.inj z, fun z => by rw [z]⟩
              rw [e2]
              have q : Q (.bl (decide (r.length + 1 = n) && decide (y = wd))) H := q
              rw [decide_eq_true (by rw [List.length_cons] at hl2; exact hl2), Bool.true_and] at q
              exact q
            | non => exact iteF q
            | bl b => exact iteF q
            | int i => exact iteF q
            | lst s a => exact iteF q
            | tup s a => exact iteF q
            | dic e => exact iteF q
        · have hz : ¬ (xs.length : Int) = n := fun z => hz (decide_eq_true (by rw [z]))
          have hl2 : ¬ ds.length = n := by omega
          have e : hasWD wd n (.tuple ds) = false := by
            match ds, hl2 with
            | [], _ => rfl
            | .str y :: r, hl2 =>
              show (decide (r.length + 1 = n) && _) = false
              rw [decide_eq_false (by rw [List.length_cons] at hl2; exact hl2), Bool.false_and]
            | .none :: _, _ => rfl
            | .bool _ :: _, _ => rfl
            | .int _ :: _, _ => rfl
            | .list _ :: _, _ => rfl
            | .tuple _ :: _, _ => rfl
            | .dict _ :: _, _ => rfl
          rw [e] at q
          exact q
      | _ => cases ht
    · have ht : isTup d = false := by simpa using ht
      rw [ht]
      have e : hasWD wd n d = false := by
        cases d with
        | tuple ds => cases ht
        | _ => rfl
      rw [e] at q
      exact iteF q
def spEvA (K : PySem.W.Frag) (Ps : List Addr) (g : PyData → Bool) : Sp := fun vs H Q _ => ∃ (v : V) (d : PyData), vs = [v] ∧ Dv K H v d ∧ Tabs Ps H ∧ ∀ H', Kp Ps H H' → Q (.bl (g d)) H'
theorem ok_arrA {f fH fC : Addr} {fd fdH fdC : FuncData} (F : Fun K "is_arrival" "is_arrival" sIsArr f fd)
    (GH : FnOk P w K mg base CX0 1 fH fdH ["value", "word", "length"] (spHasWA K)) (mgH : mg "has_word" = some (.ref fH)) (kH : PySem.W.keepIn K (.ref fH) = true) (bH : Binds K fdH ["value", "word", "length"] [])
    (GC : FnOk P w K mg base CX0 2 fC fdC ["value"] (spCarA K Ps)) (mgC : mg "is_car" = some (.ref fC)) (kC : PySem.W.keepIn K (.ref fC) = true) (bC : Binds K fdC ["value"] []) : FnOk P w K mg base CX0 3 f fd ["value"] (spEvA K Ps arrBD) := by
  refine F.ok scIsArr (fun vs H Q E h => ?_) (fun cdv A outer s H vs Q E hr h => ?_)
  · obtain ⟨a, e, rfl, _⟩ := h
    rfl
  · obtain ⟨v, d, rfl, hd, hT, q⟩ := h
    refine ⟨_, pss_one (ps_ret (pe_and (pe_call GH (hr.mono (by decide)) (by rfl) mgH kH bH .nil pass0 (pa_cons (pv 0) (pa_cons pe_str (pa_cons pe_int pa_nil))))
      (pe_one (pe_call GC hr (by rfl) mgC kC bC .nil pass0 (pa_cons (pe_ix ix_tup (pv 0) pe_int (fun _ _ => rfl)) pa_nil))))), ?_⟩
    refine ⟨v, rfl, v, d, "in", 2, rfl, hd, by decide, _, rfl, ?_⟩
    cases hh : hasWD "in" 2 d with
    | true =>
      obtain ⟨e, rfl⟩ := has2 hh
      cases hd with
      | @tup a xs ds hS hA =>
        obtain ⟨v1, h1, hd1⟩ := hA.at_ (i := 1) (d := e) rfl
        have q : ∀ H', Kp Ps H H' → Q (.bl (decide (("in" : Str) = "in") && carD e)) H' := q
        rw [decide_eq_true rfl, Bool.true_and] at q
        exact iteT ⟨.ref a, rfl, a, _, 1, v1, rfl, rfl, hS, atI_nat (j := 1) h1, v1, e, rfl, hd1, hT, q⟩
    | false =>
      have := q H (Kp.refl hT)
      rw [arr_has hh] at this
      exact iteF this
theorem ok_depA {f fH : Addr} {fd fdH : FuncData} (F : Fun K "is_departure" "is_departure" sIsDep f fd)
    (GH : FnOk P w K mg base CX0 1 fH fdH ["value", "word", "length"] (spHasWA K)) (mgH : mg "has_word" = some (.ref fH)) (kH : PySem.W.keepIn K (.ref fH) = true) (bH : Binds K fdH ["value", "word", "length"] []) : FnOk P w K mg base CX0 2 f fd ["value"] (spEvA K Ps depBD) := by
  refine F.ok scIsDep (fun vs H Q E h => ?_) (fun cdv A outer s H vs Q E hr h => ?_)
  · obtain ⟨a, e, rfl, _⟩ := h
    rfl
  · obtain ⟨v, d, rfl, hd, hT, q⟩ := h
    refine ⟨_, pss_one (ps_ret (pe_call GH hr (by rfl) mgH kH bH .nil pass0 (pa_cons (pv 0) (pa_cons pe_str (pa_cons pe_int pa_nil))))), ?_⟩
    refine ⟨v, rfl, v, d, "out", 1, rfl, hd, by decide, ?_⟩
    rw [← depBD_has]
    exact q H (Kp.refl hT)
end
end Ln


set_option Elab.async false
set_option linter.all false
set_option maxRecDepth 100000
set_option maxHeartbeats 4000000
namespace Ln
open PySem PySem.Spec PyProof.Rows L2 GxR
section
variable {P : Program} {w : World} {K : PySem.W.Frag} {mg : Str → Option Value} {base : Heap} {Ps : List Addr}
def spLogA (K : PySem.W.Frag) (Ps : List Addr) : Sp := fun vs H Q _ => ∃ (a : Addr) (v : V) (xs : List Str) (d : PyData), vs = [.ref a, v] ∧ LaneAt K H a xs ∧ laneB xs = true ∧ Dv K H v d ∧ (∀ ds, d = .list ds → ds.length ≤ 1000) ∧ Tabs Ps H ∧ ∀ H', Kp Ps H H' → Q (.bl (logD xs d)) H'
theorem ok_logA {f fR fA fD : Addr} {fd fdR fdA fdD : FuncData} (F : Fun K "is_log" "is_log" sIsLog f fd) (B : Bi mg)
    (GR : FnOk P w K mg base CX0 5 fR fdR ["value"] (spReqLane K Ps)) (mgR : mg "require_lane" = some (.ref fR)) (kR : PySem.W.keepIn K (.ref fR) = true) (bR : Binds K fdR ["value"] [])
    (GA : FnOk P w K mg base CX0 3 fA fdA ["value"] (spEvA K Ps arrBD)) (mgA : mg "is_arrival" = some (.ref fA)) (kA : PySem.W.keepIn K (.ref fA) = true) (bA : Binds K fdA ["value"] [])
    (GD : FnOk P w K mg base CX0 2 fD fdD ["value"] (spEvA K Ps depBD)) (mgD : mg "is_departure" = some (.ref fD)) (kD : PySem.W.keepIn K (.ref fD) = true) (bD : Binds K fdD ["value"] []) :
    FnOk P w K mg base CX0 6 f fd ["start", "value"] (spLogA K Ps) := by
  refine F.ok scIsLog (fun vs H Q E h => ?_) (fun cdv A outer s H vs Q E hr h => ?_)
  · obtain ⟨a, v, xs, d, rfl, _⟩ := h
    rfl
  · obtain ⟨a, v, xs, d, rfl, hL, hB, hd, hlen, hT, q⟩ := h
    refine ⟨_, pss_cons (ps_expr (pe_call GR hr (by rfl) mgR kR bR .nil pass0 (pa_cons (pv 0) pa_nil)))
      (pss_cons (ps_if (pt_not (pt_val (pe_callB call_isi (by rfl) B.isi (by decide +kernel) (pa_cons (pv 1) (pa_cons (pe_bltn (by rfl) B.lst (by decide +kernel) (v := .ty "list") rfl) pa_nil))))) (pss_one (ps_ret pe_bl)) pss_nil)
      (pss_cons (ps_set (i := 2) scIsLog.nd rfl (.inl rfl) (pe_callTy (cr_setT rfl) (by rfl) B.set (by decide +kernel) (pa_cons (pv 0) pa_nil)))
      (pss_cons (ps_set (i := 3) scIsLog.nd rfl (.inl rfl) (pe_callB call_len_seq (by rfl) B.len PySem.boot_len (pa_cons (pv 0) pa_nil)))
      (pss_cons (ps_for PassesOwn.never rfl (pi_list (pv 1)) (pg_name (i := 4) scIsLog.nd rfl (.inl rfl))
        (pss_one (ps_if (PW.pt (pw_and (pt_val (pe_call GA (hr.mono (by decide)) (by rfl) mgA kA bA .nil pass0 (pa_cons (pv 4) pa_nil))) (pw_and1 (pt_cmpR or_snotinK (pe_ix ix_tup (pv 4) pe_int (fun _ _ => rfl)) (pv 2) (by rfl)))))
          (pss_cons (ps_expr (pe_saddK (pv 2) (pa_cons (pe_ix ix_tup (pv 4) pe_int (fun _ _ => rfl)) pa_nil))) (pss_one (ps_aug (i := 3) scIsLog.nd rfl (.inl rfl) pe_int ip_add)))
          (pss_one (ps_if (PW.pt (pw_and (pt_val (pe_call GD (hr.mono (by decide)) (by rfl) mgD kD bD .nil pass0 (pa_cons (pv 4) pa_nil))) (pw_and1 (pt_cmpR op_gt (pv 3) pe_int (nomark _)))))
            (pss_one (ps_aug (i := 3) scIsLog.nd rfl (.inl rfl) pe_int ip_sub))
            (pss_one (ps_ret pe_bl)))))))
      (pss_one (ps_ret pe_bl)))))), ?_⟩
    -- require_lane(start)
    refine ⟨.ref a, rfl, a, xs, rfl, hL.at_, by have := hL.few; omega, hL.sz, hB, hT, fun H1 k1 => ?_⟩
    have hL1 := hL.kp k1 hT
    have hd1 := hd.kp k1 hT
    refine ⟨v, rfl, v, .ty "list", .type (tyD d), .type "list", isLst d, rfl, .ty _, hd1.ty, kit_ty (kit_lst d), isLst d, rfl, ?_⟩
    by_cases ht : isLst d = true
    · rw [ht]
      refine iteF ?_
      cases hd with
      | @lst l vs ds hS hA =>
        have hfew := hlen ds rfl
        have hvl := hA.len
        have hS1 := k1.seqL hT hS
        -- used = set(start); present = len(start)
        refine ⟨.ref a, rfl, a, xs, rfl, hL1.at_, by have := hL.few; omega, fun u n hu hn _ => ?_⟩
        have hu0 : H u = none := k1.free hT hu
        have k2 : Kp Ps H (upd H1 u (SetK P w u (memK (xs.map Sum.inr)) n)) := k1.upd hT hu0
        have hL2 := hL.kp k2 hT
        refine ⟨.ref a, rfl, a, _, rfl, .inr hL2.at_, ?_⟩
        refine ⟨.ref l, rfl, l, rfl, ⟨_, k2.seqL hT hS⟩, for_list (K := K) (a := l) (xs := vs) (fun i σ H' => ∃ (v4 : Option V) (m : Nat) (S : Key → Bool) (us : List Str) (c : Nat), σ = [some (.ref a), some (.ref l), some (.ref u), some (.int (m : Nat)), v4] ∧ Kp Ps H H' ∧
          H' u = some (SetK P w u S c) ∧ c ≤ xs.length + i ∧ (∀ x : Str, S (.inr x) = true ↔ x ∈ us) ∧ i ≤ ds.length ∧ logW xs xs.length ds = logW us m (ds.drop i)) ?_ ?_ ?_ ?_⟩
        · refine ⟨none, xs.length, _, xs, n, ?_, k2, upd_same, by omega, fun x => ?_, Nat.zero_le _, rfl⟩
          · rw [List.length_map]
            rfl
          · rw [memK_iff, List.mem_map]
            constructor
            · intro ⟨y, hy, e⟩
              rw [← Sum.inr.inj e]
              exact hy
            · intro h
              exact ⟨x, h, rfl⟩
        · rintro i σ H' _ ⟨_, _, _, _, _, _, kp, _⟩
          exact kp.seqL hT hS
        · rintro i y σ H' hi ⟨v4, m, S, us, c, rfl, kp, hSet, hc, hSm, hie, hlog⟩
          have hlt : i < ds.length := by
            have h1 := (List.getElem?_eq_some_iff.mp hi).1
            omega
          obtain ⟨ev, hev⟩ : ∃ ev, ds[i]? = some ev := ⟨ds[i], List.getElem?_eq_getElem hlt⟩
          obtain ⟨y2, hy2, hdy⟩ := hA.at_ hev
          obtain rfl : y2 = y := Option.some.inj (hy2.symm.trans hi)
          have hdrop : ds.drop i = ev :: ds.drop (i + 1) := by
            rw [List.drop_eq_getElem_cons hlt]
            rw [List.getElem?_eq_getElem hlt] at hev
            rw [Option.some.inj hev]
          rw [hdrop] at hlog
          have few1 := hL.few
          have hdk := hdy.kp kp hT
          -- is_arrival(event)
          refine ⟨_, rfl, y2, ev, rfl, hdk, kp.tab, fun H3 k3 => ⟨_, rfl, ?_⟩⟩
          have kp3 := kp.trans k3
          have hSet3 := k3.ext kp.tab hSet
          have hd3 := hdk.kp k3 kp.tab
          have bad : ∀ H4, Kp Ps H3 H4 → logW us m (ev :: ds.drop (i + 1)) = false → Q (.bl false) H4 := fun H4 k4 hf => by
            have q : ∀ H', Kp Ps H H' → Q (.bl (logW xs xs.length ds)) H' := q
            have := q H4 (kp3.trans k4)
            rw [hlog, hf] at this
            exact this
          have eq1 := logW_cons (u := us) (n := m) (d := ev) (r := ds.drop (i + 1))
          cases ha : arrBD ev with
          | true =>
            obtain ⟨x, rfl, hx⟩ := arr_of ha
            rw [if_pos ha] at eq1
            have eq1 : logW us m (.tuple [.str "in", .str x] :: ds.drop (i + 1)) = if ¬ x ∈ us then logW (x :: us) (m + 1) (ds.drop (i + 1)) else false := eq1
            cases hd3 with
            | @tup b zs _ hb hbA =>
              obtain ⟨v1, h1, hv1⟩ := hbA.at_ (i := 1) (d := .str x) rfl
              cases hv1 with
              | str _ hxs =>
                refine iteT ⟨.ref b, rfl, b, _, 1, .str x, rfl, rfl, hb, atI_nat (j := 1) h1, .ref u, rfl, .inr x, u, S, c, rfl, rfl, hSet3, _, rfl, ?_⟩
                show if (!S (.inr x)) = true then _ else _
                cases hin : S (.inr x) with
                | false =>
                  have hxu : ¬ x ∈ us := fun z => by
                    rw [(hSm x).mpr z] at hin
                    cases hin
                  refine iteT ⟨.ref u, rfl, ⟨u, S, c, rfl, hSet3⟩, .ref b, rfl, b, _, 1, .str x, rfl, rfl, hb, atI_nat (j := 1) h1, u, .inr x, S, c, rfl, rfl, hSet3, by unfold scanBound; omega, ?_⟩
                  refine ⟨_, rfl, _, _, rfl, rfl, some (.ref b), m + 1, _, x :: us, _, rfl, kp3.upd hT hu0, upd_same, ?_, fun z => ?_, hlt, ?_⟩
                  · rw [hin, if_neg Bool.false_ne_true]
                    omega
                  · show (S (.inr z) || decide ((Sum.inr z : Key) = Sum.inr x)) = true ↔ _
                    rw [Bool.or_eq_true, hSm z, decide_eq_true_iff, List.mem_cons]
                    constructor
                    · rintro (h | h)
                      · exact .inr h
                      · exact .inl (Sum.inr.inj h)
                    · rintro (h | h)
                      · exact .inr (by rw [h])
                      · exact .inl h
                  · rw [hlog, eq1, if_pos hxu]
                | true =>
                  have hxu : x ∈ us := (hSm x).mp hin
                  refine iteF ?_
                  refine ⟨.ref b, rfl, .ref b, _, rfl, .tup hb hbA, kp3.tab, fun H4 k4 => ⟨_, rfl, ?_⟩⟩
                  refine iteF (iteF (bad H4 k4 ?_))
                  rw [eq1, if_neg fun z => z hxu]
          | false =>
            rw [if_neg (by rw [ha]; exact Bool.false_ne_true)] at eq1
            refine iteF (iteF ?_)
            refine ⟨_, rfl, y2, ev, rfl, hd3, kp3.tab, fun H4 k4 => ⟨_, rfl, ?_⟩⟩
            cases hdp : depBD ev with
            | true =>
              rw [if_pos hdp] at eq1
              refine iteT ⟨_, rfl, _, _, rfl, rfl, _, rfl, ite2 (fun hm => ?_) (fun hm => ?_)⟩
              · have hm : (0 : Int) < (m : Nat) := of_decide_eq_true hm
                refine ⟨_, rfl, _, _, rfl, rfl, some y2, m - 1, S, us, c, ?_, kp3.trans k4, k4.ext kp3.tab hSet3, by omega, hSm, hlt, ?_⟩
                · show [some (V.ref a), some (V.ref l), some (V.ref u), some (V.int ((m : Nat) - 1)), some y2] = _
                  rw [show ((m : Nat) : Int) - 1 = ((m - 1 : Nat) : Int) by omega]
                · rw [hlog, eq1, if_pos (by omega)]
              · have hm : ¬ 0 < m := fun z => hm (decide_eq_true (by omega))
                exact bad H4 k4 (by rw [eq1, if_neg hm])
            | false =>
              rw [if_neg (by rw [hdp]; exact Bool.false_ne_true)] at eq1
              exact iteF (iteF (bad H4 k4 eq1))
        · rintro σ H' ⟨v4, m, S, us, c, rfl, kp, hSet, hc, hSm, hie, hlog⟩
          have q : ∀ H', Kp Ps H H' → Q (.bl (logW xs xs.length ds)) H' := q
          have := q H' kp
          rw [hlog, hvl, List.drop_length] at this
          exact this
      | _ => cases ht
    · have ht : isLst d = false := by simpa using ht
      rw [ht]
      have e : logD xs d = false := by
        cases d with
        | list ds => cases ht
        | _ => rfl
      have := q H1 k1
      rw [e] at this
      exact iteT this
end
end Ln


set_option Elab.async false
set_option linter.all false
set_option maxRecDepth 100000
set_option maxHeartbeats 4000000
namespace Ln
open PySem PySem.Spec PyProof.Rows L2 GxR
/-! ### what is raised -/
/-- a class of the program's own, over LaneError over ValueError -/
structure Xc (K : PySem.W.Frag) (mg : Str → Option Value) (x : Str) (C : Addr) : Prop where
  g : mg x = some (.ref C)
  x : PySem.W.excIn K C [.type "ValueError", .type "Exception", .type "BaseException", .type "object"] "ValueError.__new__" = true
  k : PySem.W.keepIn K (.ref C) = true
  b : PySem.W.subIn K (.ref C) (.type "BaseException") = some true
  t : PySem.W.typeIn K (.ref C) = some (.type "type")
section
variable {P : Program} {w : World} {K : PySem.W.Frag} {mg : Str → Option Value} {base : Heap} {Ps : List Addr}
/-- a promise without exceptions, where exceptions may be -/
theorem FnOk_lift {k : Nat} {f : Addr} {fd : FuncData} {ps : List Str} {sp : Sp} (F : FnOk P w K mg base CX0 k f fd ps sp) : FnOk P w K mg base (L2.CX P w) k f fd ps sp := by
  refine ⟨F.len, fun A outer s H args us vs Q E hr he hb hv hs => ?_⟩
  refine codeAny_mono (F.run A outer s H args us vs Q E hr he hb hv hs) fun r s' h => ?_
  cases r with
  | ok x =>
    cases x with
    | ret u => exact h
    | _ => exact h
  | error e => exact h.elim
def spReqLaneX (K : PySem.W.Frag) (Ps : List Addr) (C : Addr) : Sp := fun vs H Q E => ∃ (v : V) (d : PyData), vs = [v] ∧ Dv K H v d ∧ (∀ ds, d = .tuple ds → ds.length ≤ 1000) ∧ Tabs Ps H ∧ (laneD d = true → ∀ H', Kp Ps H H' → Q .non H') ∧ (laneD d = false → ∀ H', Kp Ps H H' → E (.ref C) none H')
theorem ok_reqLaneX {f fL C : Addr} {fd fdL : FuncData} (F : Fun K "require_lane" "require_lane" sReqLane f fd) (XC : Xc K mg "InvalidLane" C)
    (GL : FnOk P w K mg base CX0 4 fL fdL ["value"] (spLaneA K Ps)) (mgL : mg "is_lane" = some (.ref fL)) (kL : PySem.W.keepIn K (.ref fL) = true) (bL : Binds K fdL ["value"] []) : FnOk P w K mg base (L2.CX P w) 5 f fd ["value"] (spReqLaneX K Ps C) := by
  refine F.okX scReqLane (fun vs H Q E h => ?_) (fun cdv A outer s H vs Q E hr h => ?_)
  · obtain ⟨v, d, rfl, _⟩ := h
    rfl
  · obtain ⟨v, d, rfl, hd, hl, hT, q1, q2⟩ := h
    refine ⟨_, pss_one (ps_if (pt_not (pt_val (pe_call GL hr (by rfl) mgL kL bL .nil pass0 (pa_cons (pv 0) pa_nil)))) (pss_one (ps_raise rfl (takes_of rfl rfl rfl rfl) (pmk_own PySem.F.excBase_ValueError XC.x XC.g XC.k (raises_own XC.b XC.t) rfl))) pss_nil), ?_⟩
    refine ⟨v, rfl, v, d, rfl, hd, hl, hT, fun H' kp => ⟨_, rfl, ?_⟩⟩
    cases h : laneD d with
    | true => exact iteF (q1 h H' kp)
    | false => exact iteT (q2 h H' kp)
end
end Ln


set_option Elab.async false
set_option linter.all false
set_option maxRecDepth 100000
set_option maxHeartbeats 2000000
namespace Ln
open PySem PySem.Spec PyProof.Rows L2
/-! ### the error classes, by one look at the written part -/
def ErrNames : List Str := ["InvalidLane", "InvalidLog", "InvalidCar", "InvalidCars", "InvalidSides", "InvalidPattern", "InvalidSightings", "InvalidIndex", "InvalidText", "UnknownCar", "UsedCar", "EmptyLane", "NotPossible", "NothingToUndo", "TooLarge"]
def clsAt (K : PySem.W.Frag) (x : Str) : Option Addr := match PySem.W.nsIn K mainGlobals x with
  | some (some (.ref C)) => some C
  | _ => none
def erRow (K : PySem.W.Frag) (CB : Addr) (x : Str) (D : Addr) : Bool :=
  PySem.W.excIn K D [.type "ValueError", .type "Exception", .type "BaseException", .type "object"] "ValueError.__new__" && PySem.W.keepIn K (.ref D) && (PySem.W.subIn K (.ref D) (.type "BaseException") == some true) && (PySem.W.typeIn K (.ref D) == some (.type "type"))
  && (PySem.W.findIn K (.ref D) "__getattribute__" == some (some (.builtin "BaseException.__getattribute__"))) && (PySem.W.findIn K (.ref D) "__getattr__" == some none) && PySem.W.hasDictIn K D && (PySem.W.findIn K (.ref D) "__class__" == some (some (.builtin "object.__class__")))
  && (PySem.W.specialIn K (.builtin "object.__class__") "__get__" == some (some (.builtin "getset_descriptor.__get__"))) && (PySem.W.takesIn K (.builtin "object.__class__") == some true) && (PySem.W.mroIn K D (.type "object") == some true)
  && (PySem.W.kitOne K (.ref D) (.type "ValueError") == some true) && (PySem.W.exmOne K (.ref D) (.ref CB) == some true)
  && ErrNames.all fun y => match clsAt K y with
    | some C => PySem.W.kitOne K (.ref D) (.ref C) == some (x == y)
    | none => false
def erOk (K : PySem.W.Frag) (R : List Str) : Bool := match clsAt K "LaneError" with
  | none => false
  | some CB => PySem.W.keepIn K (.ref CB) && R.all fun x => match clsAt K x with
    | some D => erRow K CB x D
    | none => false
/-- what is known of the class D, named x -/
structure Er (K : PySem.W.Frag) (mg : Str → Option Value) (CB : Addr) (x : Str) (D : Addr) : Prop where
  xc : Xc K mg x D
  ec : ExcC K D
  ve : PySem.W.kitOne K (.ref D) (.type "ValueError") = some true
  ex : PySem.W.exmOne K (.ref D) (.ref CB) = some true
  kit : ∀ y ∈ ErrNames, ∀ C, mg y = some (.ref C) → PySem.W.kitOne K (.ref D) (.ref C) = some (x == y)
structure Ers (K : PySem.W.Frag) (mg : Str → Option Value) (R : List Str) (CB : Addr) : Prop where
  g : mg "LaneError" = some (.ref CB)
  k : PySem.W.keepIn K (.ref CB) = true
  all : ∀ x ∈ R, ∃ D, Er K mg CB x D
theorem cls_ns {K : PySem.W.Frag} {x : Str} {C : Addr} (h : clsAt K x = some C) : PySem.W.nsIn K mainGlobals x = some (some (.ref C)) := by
  unfold clsAt at h
  split at h
  · rename_i D e
    cases h
    exact e
  · cases h
theorem ers_of {K : PySem.W.Frag} {mg : Str → Option Value} {h : Heap} {R : List Str} (X : K.In h) (G : h.Ns mainGlobals mg) (e : erOk K R = true) : ∃ CB, Ers K mg R CB := by
  unfold erOk at e
  split at e
  · cases e
  · rename_i CB hCB
    rw [Bool.and_eq_true] at e
    obtain ⟨e1, e2⟩ := e
    refine ⟨CB, PySem.W.mg_of X G (cls_ns hCB), e1, fun x hx => ?_⟩
    have e3 := List.all_eq_true.mp e2 x hx
    split at e3
    · rename_i D hD
      unfold erRow at e3
      simp only [Bool.and_eq_true] at e3
      obtain ⟨⟨⟨⟨⟨⟨⟨⟨⟨⟨⟨⟨⟨a1, a2⟩, a3⟩, a4⟩, a5⟩, a6⟩, a7⟩, a8⟩, a9⟩, a10⟩, a11⟩, a12⟩, a13⟩, a14⟩ := e3
      refine ⟨D, ⟨PySem.W.mg_of X G (cls_ns hD), a1, a2, beq_iff_eq.mp a3, beq_iff_eq.mp a4⟩, ⟨beq_iff_eq.mp a5, beq_iff_eq.mp a6, beq_iff_eq.mp a3, a7, beq_iff_eq.mp a8, beq_iff_eq.mp a9, beq_iff_eq.mp a10, beq_iff_eq.mp a11⟩, beq_iff_eq.mp a12, beq_iff_eq.mp a13, fun y hy C hC => ?_⟩
      have e4 := List.all_eq_true.mp a14 y hy
      split at e4
      · rename_i C2 hC2
        have e5 := (PySem.W.mg_of X G (cls_ns hC2)).symm.trans hC
        cases e5
        exact beq_iff_eq.mp e4
      · cases e4
    · cases e3
/-- the error's names are there -/
theorem ers_names {K : PySem.W.Frag} {mg : Str → Option Value} {h : Heap} {R : List Str} {x : Str} (X : K.In h) (G : h.Ns mainGlobals mg) (hx : x ∈ R) (e : erOk K R = true) : ∀ y ∈ ErrNames, ∃ C, mg y = some (.ref C) := fun y hy => by
  unfold erOk at e
  split at e
  · cases e
  · rw [Bool.and_eq_true] at e
    have e3 := List.all_eq_true.mp e.2 x hx
    split at e3
    · unfold erRow at e3
      rw [Bool.and_eq_true] at e3
      have e4 := List.all_eq_true.mp e3.2 y hy
      split at e4
      · rename_i C2 hC2
        exact ⟨C2, PySem.W.mg_of X G (cls_ns hC2)⟩
      · cases e4
    · cases e3
end Ln


set_option Elab.async false
set_option linter.all false
set_option maxRecDepth 100000
set_option maxHeartbeats 4000000
namespace Ln
open PySem PySem.Spec PyProof.Rows L2 GxR
theorem scKind : FnScope ["e", "some", "found", "others", "word", "there"] ["e"] (defScope sKind) := ⟨rfl, rfl, rfl, by decide +kernel, rfl, by decide +kernel, by decide +kernel⟩
/-- the word of the class named x -/
def kindW (x : Str) : Str := if x = "InvalidLane" then "lane" else if x = "InvalidLog" then "log" else if x = "InvalidCars" then "cars" else "car"
def kindNs : List Str := ["InvalidLane", "InvalidLog", "InvalidCars", "UnknownCar"]
def kindWs (x : Str) : List (Str × Bool) := [("lane", x == "InvalidLane"), ("log", x == "InvalidLog"), ("cars", x == "InvalidCars"), ("car", x == "UnknownCar")]
theorem kind_one {x : Str} (h : x ∈ kindNs) : ((kindWs x).filter (·.2)).map (fun p => V.str p.1) = [.str (kindW x)] := by
  rcases List.mem_cons.mp h with rfl | h
  · decide +kernel
  rcases List.mem_cons.mp h with rfl | h
  · decide +kernel
  rcases List.mem_cons.mp h with rfl | h
  · decide +kernel
  rcases List.mem_cons.mp h with rfl | h
  · decide +kernel
  cases h
def kindR1 : List Str := ["EmptyLane", "InvalidCar", "InvalidIndex", "InvalidPattern", "InvalidSides", "InvalidText", "UsedCar"]
def kindR2 : List Str := ["InvalidSightings", "NotPossible", "NothingToUndo", "TooLarge"]
theorem kind_not {x y : Str} (h : x ∈ kindNs) (hy : y ∈ kindR1 ++ kindR2) : (x == y) = false ∧ y ∈ ErrNames := by
  have : kindNs.all (fun x => (kindR1 ++ kindR2).all fun y => (x == y) == false && ErrNames.contains y) = true := by decide +kernel
  have h1 := List.all_eq_true.mp (List.all_eq_true.mp this x h) y hy
  rw [Bool.and_eq_true] at h1
  exact ⟨beq_iff_eq.mp h1.1, List.contains_iff_mem.mp h1.2⟩
theorem fa_cons7 {α : Type} {P : α → Prop} {a b c d e f g : α} (ha : P a) (hb : P b) (hc : P c) (hd : P d) (he : P e) (hf : P f) (hg : P g) : ∀ x ∈ [a, b, c, d, e, f, g], P x := fun x h => by
  simp only [List.mem_cons, List.not_mem_nil, or_false] at h
  rcases h with rfl | rfl | rfl | rfl | rfl | rfl | rfl <;> assumption
theorem fa_cons4 {α : Type} {P : α → Prop} {a b c d : α} (ha : P a) (hb : P b) (hc : P c) (hd : P d) : ∀ x ∈ [a, b, c, d], P x := fun x h => by
  simp only [List.mem_cons, List.not_mem_nil, or_false] at h
  rcases h with rfl | rfl | rfl | rfl <;> assumption
section
variable {P : Program} {w : World} {K : PySem.W.Frag} {mg : Str → Option Value} {base : Heap} {Ps : List Addr}
theorem kitAny_none {D : Addr} : ∀ Cs : List Addr, (∀ C ∈ Cs, PySem.W.kitOne K (.ref D) (.ref C) = some false) → PySem.W.kitAny K (.ref D) (Cs.map Value.ref) = some false
  | [], _ => rfl
  | C :: r, h => kitAny_cons (h C List.mem_cons_self) (fun _ => kitAny_none r fun c hc => h c (List.mem_cons_of_mem _ hc)) fun z => by cases z
theorem paired_cls : ∀ Cs : List Addr, Paired ClsV (Cs.map V.ref) (Cs.map Value.ref)
  | [] => .nil
  | C :: r => .cons (.own C) (paired_cls r)
def spKind (K : PySem.W.Frag) (mg : Str → Option Value) (CB : Addr) : Sp := fun vs H Q _ => ∃ (a D : Addr) (x : Str), vs = [.ref a] ∧ H a = some (ExH (.ref D) none a) ∧ x ∈ kindNs ∧ Er K mg CB x D ∧ ∀ H', L2.Same H H' → Q (.str (kindW x)) H'
theorem ok_kind {f CB : Addr} {fd : FuncData} (F : Fun K "_law_kind" "_law_kind" sKind f fd) (B : Bi mg) (nm : ∀ y ∈ ErrNames, ∃ C, mg y = some (.ref C)) (mgV : mg "ValueError" = none) : FnOk P w K mg base CX0 1 f fd ["e"] (spKind K mg CB) := by
  refine F.ok scKind (fun vs H Q E h => ?_) (fun cdv A outer s H vs Q E hr h => ?_)
  · obtain ⟨a, D, x, rfl, _⟩ := h
    rfl
  · obtain ⟨a, D, x, rfl, ha, hx, er, q⟩ := h
    have nn : ∀ y, ErrNames.contains y = true → ∃ C, mg y = some (.ref C) := fun y h => nm y (List.contains_iff_mem.mp h)
    obtain ⟨C1, g1⟩ := nn "InvalidLane" (by decide +kernel)
    obtain ⟨C2, g2⟩ := nn "InvalidLog" (by decide +kernel)
    obtain ⟨C3, g3⟩ := nn "InvalidCars" (by decide +kernel)
    obtain ⟨C4, g4⟩ := nn "UnknownCar" (by decide +kernel)
    obtain ⟨C5, g5⟩ := nn "EmptyLane" (by decide +kernel)
    obtain ⟨C6, g6⟩ := nn "InvalidCar" (by decide +kernel)
    obtain ⟨C7, g7⟩ := nn "InvalidIndex" (by decide +kernel)
    obtain ⟨C8, g8⟩ := nn "InvalidPattern" (by decide +kernel)
    obtain ⟨C9, g9⟩ := nn "InvalidSides" (by decide +kernel)
    obtain ⟨C10, g10⟩ := nn "InvalidText" (by decide +kernel)
    obtain ⟨C11, g11⟩ := nn "UsedCar" (by decide +kernel)
    obtain ⟨C12, g12⟩ := nn "InvalidSightings" (by decide +kernel)
    obtain ⟨C13, g13⟩ := nn "NotPossible" (by decide +kernel)
    obtain ⟨C14, g14⟩ := nn "NothingToUndo" (by decide +kernel)
    obtain ⟨C15, g15⟩ := nn "TooLarge" (by decide +kernel)
    have hk : ∀ {y : Str} {C : Addr}, ErrNames.contains y = true → mg y = some (.ref C) → PySem.W.kitOne K (.ref D) (.ref C) = some (x == y) := fun {y C} h g => er.kit y (List.contains_iff_mem.mp h) C g
    have hno : ∀ {y : Str} {C : Addr}, (kindR1 ++ kindR2).contains y = true → mg y = some (.ref C) → PySem.W.kitOne K (.ref D) (.ref C) = some false := fun {y C} h g => by
      obtain ⟨z1, z2⟩ := kind_not hx (List.contains_iff_mem.mp h)
      rw [er.kit y z2 C g, z1]
    refine ⟨_, pss_cons (ps_set (i := 1) scKind.nd rfl (.inl rfl) (pe_lst (pa_cons (pe_tup (pa_cons pe_str (pa_cons (pe_callB call_isX (by rfl) B.isi (by decide +kernel) (pa_cons (pv 0) (pa_cons (pe_glob (v := .ref C1) rfl g1 rfl) pa_nil))) pa_nil)))
        (pa_cons (pe_tup (pa_cons pe_str (pa_cons (pe_callB call_isX (by rfl) B.isi (by decide +kernel) (pa_cons (pv 0) (pa_cons (pe_glob (v := .ref C2) rfl g2 rfl) pa_nil))) pa_nil))) pa_nil))))
      (pss_cons (ps_set (i := 1) scKind.nd rfl (.inl rfl) (pe_op op_cat (pv 1) (pe_lst (pa_cons (pe_tup (pa_cons pe_str (pa_cons (pe_callB call_isX (by rfl) B.isi (by decide +kernel) (pa_cons (pv 0) (pa_cons (pe_glob (v := .ref C3) rfl g3 rfl) pa_nil))) pa_nil)))
        (pa_cons (pe_tup (pa_cons pe_str (pa_cons (pe_callB call_isX (by rfl) B.isi (by decide +kernel) (pa_cons (pv 0) (pa_cons (pe_glob (v := .ref C4) rfl g4 rfl) pa_nil))) pa_nil))) pa_nil)))))
      (pss_cons (ps_setLc (i := 2) (own := [("word", 4), ("there", 5)]) (g := gTup K 2 (gCons (gName 4) (gCons (gName 5) gNil))) (tt := tB (tVar 5)) (te := tVar 4) (by rfl) scKind.nd rfl rfl (sw_true rfl rfl rfl (by decide +kernel)) (pi_list (pv 1)) (blkOk_by (own := [("word", 4), ("there", 5)]) (N := ["e", "some", "found", "others", "word", "there"]) (sc := defScope sKind) (by decide +kernel))
        (fun _ _ _ _ _ => pg_tup rfl (pgs_cons (pg_name (i := 4) scKind.nd rfl (Or.inl rfl)) (pgs_cons (pg_name (i := 5) scKind.nd rfl (Or.inl rfl)) pgs_nil))) (fun _ _ _ _ _ => pts_one (pt_val (pv 5))) (fun _ _ _ _ _ => pv 4))
      (pss_cons (ps_set (i := 3) scKind.nd rfl (.inl rfl) (pe_callB call_isXT (by rfl) B.isi (by decide +kernel) (pa_cons (pv 0) (pa_cons (pe_tup (pa_cons (pe_glob (v := .ref C5) rfl g5 rfl) (pa_cons (pe_glob (v := .ref C6) rfl g6 rfl) (pa_cons (pe_glob (v := .ref C7) rfl g7 rfl) (pa_cons (pe_glob (v := .ref C8) rfl g8 rfl) (pa_cons (pe_glob (v := .ref C9) rfl g9 rfl) (pa_cons (pe_glob (v := .ref C10) rfl g10 rfl) (pa_cons (pe_glob (v := .ref C11) rfl g11 rfl) pa_nil)))))))) pa_nil))))
      (pss_cons (ps_set (i := 3) scKind.nd rfl (.inl rfl) (pe_or (pv 3) (pe_one (pe_callB call_isXT (by rfl) B.isi (by decide +kernel) (pa_cons (pv 0) (pa_cons (pe_tup (pa_cons (pe_glob (v := .ref C12) rfl g12 rfl) (pa_cons (pe_glob (v := .ref C13) rfl g13 rfl) (pa_cons (pe_glob (v := .ref C14) rfl g14 rfl) (pa_cons (pe_glob (v := .ref C15) rfl g15 rfl) pa_nil))))) pa_nil))))))
      (pss_one (ps_ret (pe_ifExp (PW.pt (pw_and (pt_cmpR op_eq (pe_callB call_len_seq (by rfl) B.len PySem.boot_len (pa_cons (pv 2) pa_nil)) pe_int (nomark _)) (pw_and (pt_not (pt_val (pv 3))) (pw_and1 (pt_val (pe_callB call_isX (by rfl) B.isi (by decide +kernel) (pa_cons (pv 0) (pa_cons (pe_bltn (by rfl) mgV (by decide +kernel) (v := .ty "ValueError") rfl) pa_nil))))))))
        (pe_ix ix_list (pv 2) pe_int (fun _ _ => rfl)) pe_str))))))), ?_⟩
    refine ⟨.ref a, rfl, a, D, _, _, _, rfl, er.ec, (sm_refl _ _ ha), .own _, hk (y := "InvalidLane") (by decide +kernel) g1, by show 2 ≤ sizeLine; decide, fun t1 n1 => ?_⟩
    have k1 : L2.Same H (upd H t1 (.tup [.str "lane", .bl (x == "InvalidLane")])) := sm_new sm_refl n1
    have e1 : (upd H t1 (.tup [.str "lane", .bl (x == "InvalidLane")])) t1 = some (.tup [.str "lane", .bl (x == "InvalidLane")]) := upd_same
    generalize upd H t1 (.tup [.str "lane", .bl (x == "InvalidLane")]) = H1 at k1 e1 ⊢
    refine ⟨.ref a, rfl, a, D, _, _, _, rfl, er.ec, (k1 _ _ ha), .own _, hk (y := "InvalidLog") (by decide +kernel) g2, by show 2 ≤ sizeLine; decide, fun t2 n2 => ?_⟩
    have k2 : L2.Same H1 (upd H1 t2 (.tup [.str "log", .bl (x == "InvalidLog")])) := sm_new sm_refl n2
    have e2 : (upd H1 t2 (.tup [.str "log", .bl (x == "InvalidLog")])) t2 = some (.tup [.str "log", .bl (x == "InvalidLog")]) := upd_same
    generalize upd H1 t2 (.tup [.str "log", .bl (x == "InvalidLog")]) = H2 at k2 e2 ⊢
    refine ⟨by show 2 ≤ sizeLine; decide, fun m1 nm1 => ?_⟩
    have k3 : L2.Same H2 (upd H2 m1 (.lst [.ref t1, .ref t2])) := sm_new sm_refl nm1
    have e3 : (upd H2 m1 (.lst [.ref t1, .ref t2])) m1 = some (.lst [.ref t1, .ref t2]) := upd_same
    generalize upd H2 m1 (.lst [.ref t1, .ref t2]) = H3 at k3 e3 ⊢
    have k03 := sm_trans k1 (sm_trans k2 k3)
    refine ⟨.ref m1, rfl, .ref a, rfl, a, D, _, _, _, rfl, er.ec, (k03 _ _ ha), .own _, hk (y := "InvalidCars") (by decide +kernel) g3, by show 2 ≤ sizeLine; decide, fun t3 n3 => ?_⟩
    have k4 : L2.Same H3 (upd H3 t3 (.tup [.str "cars", .bl (x == "InvalidCars")])) := sm_new sm_refl n3
    have e4 : (upd H3 t3 (.tup [.str "cars", .bl (x == "InvalidCars")])) t3 = some (.tup [.str "cars", .bl (x == "InvalidCars")]) := upd_same
    generalize upd H3 t3 (.tup [.str "cars", .bl (x == "InvalidCars")]) = H4 at k4 e4 ⊢
    have k04 := sm_trans k03 k4
    refine ⟨.ref a, rfl, a, D, _, _, _, rfl, er.ec, (k04 _ _ ha), .own _, hk (y := "UnknownCar") (by decide +kernel) g4, by show 2 ≤ sizeLine; decide, fun t4 n4 => ?_⟩
    have k5 : L2.Same H4 (upd H4 t4 (.tup [.str "car", .bl (x == "UnknownCar")])) := sm_new sm_refl n4
    have e5 : (upd H4 t4 (.tup [.str "car", .bl (x == "UnknownCar")])) t4 = some (.tup [.str "car", .bl (x == "UnknownCar")]) := upd_same
    generalize upd H4 t4 (.tup [.str "car", .bl (x == "UnknownCar")]) = H5 at k5 e5 ⊢
    refine ⟨by show 2 ≤ sizeLine; decide, fun m2 nm2 => ?_⟩
    have k6 : L2.Same H5 (upd H5 m2 (.lst [.ref t3, .ref t4])) := sm_new sm_refl nm2
    have e6 : (upd H5 m2 (.lst [.ref t3, .ref t4])) m2 = some (.lst [.ref t3, .ref t4]) := upd_same
    generalize upd H5 m2 (.lst [.ref t3, .ref t4]) = H6 at k6 e6 ⊢
    have k36 := sm_trans k4 (sm_trans k5 k6)
    have k06 := sm_trans k03 k36
    refine ⟨m1, m2, _, _, rfl, rfl, k36 _ _ e3, e6, by show 4 ≤ sizeLine; decide, fun m3 nm3 => ?_⟩
    have k7 : L2.Same H6 (upd H6 m3 (.lst ([.ref t1, .ref t2] ++ [.ref t3, .ref t4]))) := sm_new sm_refl nm3
    have e7 : (upd H6 m3 (.lst ([.ref t1, .ref t2] ++ [.ref t3, .ref t4]))) m3 = some (.lst ([.ref t1, .ref t2] ++ [.ref t3, .ref t4])) := upd_same
    generalize upd H6 m3 (.lst ([.ref t1, .ref t2] ++ [.ref t3, .ref t4])) = H7 at k7 e7 ⊢
    have k07 := sm_trans k06 k7
    have ps : ∀ (i : Nat) (y : V), ([.ref t1, .ref t2] ++ [.ref t3, .ref t4] : List V)[i]? = some y → ∃ (t : Addr) (p : Str × Bool), y = .ref t ∧ (kindWs x)[i]? = some p ∧ H7 t = some (.tup [.str p.1, .bl p.2]) := by
      intro i y hy
      match i, hy with
      | 0, hy => cases hy; exact ⟨t1, _, rfl, rfl, k7 _ _ (k36 _ _ (k3 _ _ (k2 _ _ e1)))⟩
      | 1, hy => cases hy; exact ⟨t2, _, rfl, rfl, k7 _ _ (k36 _ _ (k3 _ _ e2))⟩
      | 2, hy => cases hy; exact ⟨t3, _, rfl, rfl, k7 _ _ (k6 _ _ (k5 _ _ e4))⟩
      | 3, hy => cases hy; exact ⟨t4, _, rfl, rfl, k7 _ _ (k6 _ _ e5)⟩
      | i + 4, hy => cases hy
    -- the words that are true
    refine ⟨.ref m3, rfl, m3, rfl, ⟨_, SqL.of e7⟩, fun d nd => ?_⟩
    refine lc_list (K := K) (a := m3) (xs := [.ref t1, .ref t2] ++ [.ref t3, .ref t4]) (fun i H' => L2.Same H7 H' ∧ H' d = some (.lst ((((kindWs x).take i).filter (·.2)).map fun p => V.str p.1))) ?_ ?_ ?_ ?_
    · exact ⟨sm_new sm_refl nd, upd_same⟩
    · rintro i H' _ ⟨k, _⟩
      exact SqL.of (k _ _ e7)
    · rintro i y H' hy ⟨k, hd⟩
      obtain ⟨t, p, rfl, hp, ht⟩ := ps i y hy
      refine ⟨t, _, rfl, SqT.of (k _ _ ht), rfl, .str p.1, _, rfl, .bl p.2, _, rfl, rfl, rfl, .bl p.2, rfl, p.2, rfl, ?_⟩
      have ht : (kindWs x).take (i + 1) = (kindWs x).take i ++ [p] := by rw [List.take_add_one, hp]; rfl
      cases hb : p.2 with
      | true =>
        refine iteT ⟨.str p.1, rfl, _, hd, ?_, ?_, ?_⟩
        · refine small1000 ?_
          rw [List.length_map]
          have h1 := List.length_filter_le (fun p : Str × Bool => p.2) ((kindWs x).take i)
          have h2 : ((kindWs x).take i).length ≤ 4 := by rw [List.length_take]; exact Nat.min_le_right _ _
          omega
        · exact fun b o e => by rw [upd_ne fun z => by rw [z, nd] at e; cases e]; exact k b o e
        · rw [upd_same, ht, List.filter_append, List.map_append]
          simp [hb]
      | false =>
        refine iteF ⟨k, ?_⟩
        rw [hd, ht, List.filter_append, List.map_append]
        simp [hb]
    · rintro H8 ⟨k8, hd⟩
      rw [show ((kindWs x).take ([.ref t1, .ref t2] ++ [.ref t3, .ref t4] : List V).length) = kindWs x from rfl, kind_one hx] at hd
      have k08 := sm_trans k07 k8
      -- the others
      refine ⟨.ref a, rfl, by show 7 ≤ sizeLine; decide, fun u1 nu1 => ?_⟩
      have k9 : L2.Same H8 (upd H8 u1 (.tup [.ref C5, .ref C6, .ref C7, .ref C8, .ref C9, .ref C10, .ref C11])) := sm_new sm_refl nu1
      refine ⟨a, D, u1, _, _, false, rfl, er.ec, k9 _ _ (k08 _ _ ha), upd_same, paired_cls [C5, C6, C7, C8, C9, C10, C11], kitAny_none _ (fa_cons7 (hno (by decide +kernel) g5) (hno (by decide +kernel) g6) (hno (by decide +kernel) g7) (hno (by decide +kernel) g8) (hno (by decide +kernel) g9) (hno (by decide +kernel) g10) (hno (by decide +kernel) g11)), ?_⟩
      generalize upd H8 u1 (.tup [.ref C5, .ref C6, .ref C7, .ref C8, .ref C9, .ref C10, .ref C11]) = H9 at k9 ⊢
      have k09 := sm_trans k08 k9
      refine ⟨.bl false, rfl, false, rfl, iteF ⟨.ref a, rfl, by show 4 ≤ sizeLine; decide, fun u2 nu2 => ?_⟩⟩
      have k10 : L2.Same H9 (upd H9 u2 (.tup [.ref C12, .ref C13, .ref C14, .ref C15])) := sm_new sm_refl nu2
      refine ⟨a, D, u2, _, _, false, rfl, er.ec, k10 _ _ (k09 _ _ ha), upd_same, paired_cls [C12, C13, C14, C15], kitAny_none _ (fa_cons4 (hno (by decide +kernel) g12) (hno (by decide +kernel) g13) (hno (by decide +kernel) g14) (hno (by decide +kernel) g15)), ?_⟩
      generalize upd H9 u2 (.tup [.ref C12, .ref C13, .ref C14, .ref C15]) = H10 at k10 ⊢
      have k010 := sm_trans k09 k10
      have hd10 := k10 _ _ (k9 _ _ hd)
      refine ⟨.ref d, rfl, d, _, rfl, .inl (SqL.of hd10), rfl, _, rfl, ?_⟩
      rw [decide_eq_true (show V.int (([V.str (kindW x)] : List V).length : Nat) = .int 1 from rfl)]
      refine iteT ⟨.bl false, rfl, false, rfl, iteT ⟨.ref a, rfl, a, D, _, _, true, rfl, er.ec, k010 _ _ ha, .ty "ValueError", er.ve, true, rfl, ?_⟩⟩
      refine iteT ⟨.ref d, rfl, d, _, 0, .str (kindW x), rfl, rfl, SqL.of hd10, atI_nat (j := 0) rfl, q H10 k010⟩
end
end Ln


set_option Elab.async false
set_option linter.all false
set_option maxRecDepth 100000
set_option maxHeartbeats 4000000
namespace Ln
open PySem PySem.Spec PyProof.Rows L2 GxR
theorem pss_dead {X : Cx} {ss : List Stmt} : PSs X ss fun _ _ _ => False := ⟨fun _ _ _ _ _ _ h => h.elim⟩
/-- the cars of a lane, if it is one -/
def laneO : PyData → Option (List Str)
  | .tuple ds => match strsD ds with
    | some xs => if laneB xs = true then some xs else none
    | none => none
  | _ => none
theorem laneO_none {d : PyData} (h : laneO d = none) : laneD d = false := by
  cases d with
  | tuple ds =>
    show (match strsD ds with | some xs => laneB xs | none => false) = false
    have h : (match strsD ds with | some xs => if laneB xs = true then some xs else none | none => none) = none := h
    cases q : strsD ds with
    | none => rfl
    | some xs =>
      rw [q] at h
      show laneB xs = false
      cases z : laneB xs with
      | false => rfl
      | true =>
        have h : (if laneB xs = true then some xs else none) = none := h
        rw [if_pos z] at h
        cases h
  | _ => rfl
theorem laneO_some {d : PyData} {xs : List Str} (h : laneO d = some xs) : (∃ ds, d = .tuple ds ∧ strsD ds = some xs) ∧ laneB xs = true ∧ laneD d = true := by
  cases d with
  | tuple ds =>
    have h : (match strsD ds with | some xs => if laneB xs = true then some xs else none | none => none) = some xs := h
    cases q : strsD ds with
    | none =>
      rw [q] at h
      cases h
    | some ys =>
      rw [q] at h
      have h : (if laneB ys = true then some ys else none) = some xs := h
      cases z : laneB ys with
      | false =>
        rw [z, if_neg Bool.false_ne_true] at h
        cases h
      | true =>
        rw [z, if_pos rfl] at h
        cases h
        refine ⟨⟨ds, rfl, q⟩, z, ?_⟩
        show (match strsD ds with | some xs => laneB xs | none => false) = true
        rw [q]
        exact z
  | _ => cases h
/-- sizes of an argument -/
def SzA (d : PyData) : Prop := (∀ ds, d = .tuple ds → ds.length ≤ 400) ∧ ∀ ds, d = .list ds → ds.length ≤ 1000
/-- how a call ends that asks for validity only -/
def Out (Ps : List Addr) (o : Option Addr) (H : Hp) (Q : VK) (E : XK) : Prop := match o with
  | none => ∀ H', Kp Ps H H' → Q .non H'
  | some C => ∀ H', Kp Ps H H' → E (.ref C) none H'
def reqLogO (CL CG : Addr) (d e : PyData) : Option Addr := match laneO d with
  | none => some CL
  | some xs => if logD xs e = true then none else some CG
def reqFinO (CL CG : Addr) (d e g : PyData) : Option Addr := match reqLogO CL CG d e with
  | some C => some C
  | none => if laneD g = true then none else some CL
section
variable {P : Program} {w : World} {K : PySem.W.Frag} {mg : Str → Option Value} {base : Heap} {Ps : List Addr}
def spLogX (K : PySem.W.Frag) (Ps : List Addr) (CL : Addr) : Sp := fun vs H Q E => ∃ (v u : V) (d e : PyData), vs = [v, u] ∧ Dv K H v d ∧ Dv K H u e ∧ SzA d ∧ SzA e ∧ Tabs Ps H ∧
  (laneO d = none → ∀ H', Kp Ps H H' → E (.ref CL) none H') ∧ (∀ xs, laneO d = some xs → ∀ H', Kp Ps H H' → Q (.bl (logD xs e)) H')
def spLogXb (K : PySem.W.Frag) (Ps : List Addr) (CL : Addr) : Sp := fun vs H Q E => ∃ (v u : V) (d : PyData), vs = [v, u] ∧ Dv K H v d ∧ SzA d ∧ Tabs Ps H ∧ laneD d = false ∧ ∀ H', Kp Ps H H' → E (.ref CL) none H'
theorem ok_logXb {f fR CL : Addr} {fd fdR : FuncData} (F : Fun K "is_log" "is_log" sIsLog f fd)
    (GR : FnOk P w K mg base (L2.CX P w) 5 fR fdR ["value"] (spReqLaneX K Ps CL)) (mgR : mg "require_lane" = some (.ref fR)) (kR : PySem.W.keepIn K (.ref fR) = true) (bR : Binds K fdR ["value"] []) : FnOk P w K mg base (L2.CX P w) 6 f fd ["start", "value"] (spLogXb K Ps CL) := by
  refine F.okX scIsLog (fun vs H Q E h => ?_) (fun cdv A outer s H vs Q E hr h => ?_)
  · obtain ⟨v, u, d, rfl, _⟩ := h
    rfl
  · obtain ⟨v, u, d, rfl, hd, hz, hT, hb, q⟩ := h
    refine ⟨_, pss_cons (ps_expr (pe_call GR hr (by rfl) mgR kR bR .nil (passes_call (takes_of rfl rfl rfl rfl) fun _ _ _ _ h => h) (pa_cons (pv 0) pa_nil))) pss_dead, ?_⟩
    exact ⟨v, rfl, v, d, rfl, hd, (fun ds e => by have := hz.1 ds e; omega), hT, (fun z => by rw [hb] at z; cases z), fun _ => q⟩
theorem ok_logX {f CL : Addr} {fd : FuncData} (h1 : FnOk P w K mg base CX0 6 f fd ["start", "value"] (spLogA K Ps)) (h2 : FnOk P w K mg base (L2.CX P w) 6 f fd ["start", "value"] (spLogXb K Ps CL)) : FnOk P w K mg base (L2.CX P w) 6 f fd ["start", "value"] (spLogX K Ps CL) :=
  (fn_or (FnOk_lift h1) h2).imp fun vs H Q E ⟨v, u, d, e, ev, hd, he, hz, hz2, hT, q1, q2⟩ => by
    cases hl : laneO d with
    | none => exact .inr ⟨v, u, d, ev, hd, hz, hT, laneO_none hl, q1 hl⟩
    | some xs =>
      obtain ⟨⟨ds, rfl, hs⟩, hB, _⟩ := laneO_some hl
      cases hd with
      | @tup a vs _ hS hA =>
        obtain ⟨e1, e2, e3⟩ := hA.strs hs
        subst e1
        have hlen := hz.1 ds rfl
        rw [e2, List.length_map] at hlen
        exact .inl ⟨a, u, xs, e, ev, ⟨hS, hlen, e3⟩, hB, he, hz2.2, hT, q2 xs hl⟩
def spReqLogX (K : PySem.W.Frag) (Ps : List Addr) (CL CG : Addr) : Sp := fun vs H Q E => ∃ (v u : V) (d e : PyData), vs = [v, u] ∧ Dv K H v d ∧ Dv K H u e ∧ SzA d ∧ SzA e ∧ Tabs Ps H ∧ Out Ps (reqLogO CL CG d e) H Q E
theorem ok_reqLogX {f fL CL CG : Addr} {fd fdL : FuncData} (F : Fun K "require_log" "require_log" sReqLog f fd) (XG : Xc K mg "InvalidLog" CG)
    (GL : FnOk P w K mg base (L2.CX P w) 6 fL fdL ["start", "value"] (spLogX K Ps CL)) (mgL : mg "is_log" = some (.ref fL)) (kL : PySem.W.keepIn K (.ref fL) = true) (bL : Binds K fdL ["start", "value"] []) : FnOk P w K mg base (L2.CX P w) 7 f fd ["start", "log"] (spReqLogX K Ps CL CG) := by
  refine F.okX scReqLog (fun vs H Q E h => ?_) (fun cdv A outer s H vs Q E hr h => ?_)
  · obtain ⟨v, u, d, e, rfl, _⟩ := h
    rfl
  · obtain ⟨v, u, d, e, rfl, hd, he, hz, hz2, hT, q⟩ := h
    refine ⟨_, pss_one (ps_if (pt_not (pt_val (pe_call GL hr (by rfl) mgL kL bL .nil (passes_call (takes_of rfl rfl rfl rfl) fun _ _ _ _ h => h) (pa_cons (pv 0) (pa_cons (pv 1) pa_nil))))) (pss_one (ps_raise rfl (takes_of rfl rfl rfl rfl) (pmk_own PySem.F.excBase_ValueError XG.x XG.g XG.k (raises_own XG.b XG.t) rfl))) pss_nil), ?_⟩
    refine ⟨v, rfl, u, rfl, v, u, d, e, rfl, hd, he, hz, hz2, hT, fun hl => ?_, fun xs hl H' kp => ⟨_, rfl, ?_⟩⟩
    · unfold reqLogO at q
      rw [hl] at q
      exact q
    · unfold reqLogO at q
      rw [hl] at q
      have q : Out Ps (if logD xs e = true then none else some CG) H Q E := q
      cases z : logD xs e with
      | true =>
        rw [if_pos z] at q
        exact iteF (q H' kp)
      | false =>
        rw [if_neg (by rw [z]; exact Bool.false_ne_true)] at q
        exact iteT (q H' kp)
end
end Ln


set_option Elab.async false
set_option linter.all false
set_option maxRecDepth 100000
set_option maxHeartbeats 4000000
namespace Ln
open PySem PySem.Spec PyProof.Rows L2 GxR
/-! ### values of any plain kind, read off one object -/
theorem catV {K : PySem.W.Frag} {H : Hp} {x y : Addr} {A B : List V} {Q : VK} (hx : SqT K H x A) (hy : SqT K H y B) (few : A.length + B.length ≤ 900) (h : ∀ H' p, L2.Same H H' → SqT K H' p (A ++ B) → Q (.ref p) H') : rCatA K (.ref x) (.ref y) H Q := by
  refine ⟨x, y, A, B, rfl, rfl, hx, hy, by rw [sizeLine_eq]; omega, fun e => ?_, fun _ e => ?_, fun _ _ p hp => ?_⟩
  · subst e
    exact h H y sm_refl hy
  · subst e
    exact h H x sm_refl (by rw [List.append_nil]; exact hx)
  · exact h _ p (sm_new sm_refl hp) (SqT.of upd_same)
theorem DvAll.app {K : PySem.W.Frag} {H : Hp} : ∀ {as bs : List V} {ds es : List PyData}, DvAll K H as ds → DvAll K H bs es → DvAll K H (as ++ bs) (ds ++ es)
  | _, _, _, _, .nil, k => k
  | _, _, _, _, .cons a b, k => .cons a (DvAll.app b k)
theorem dv_strs {K : PySem.W.Frag} {H : Hp} : ∀ (xs : List Str), (∀ x ∈ xs, x.length ≤ sizeLine) → DvAll K H (xs.map V.str) (xs.map PyData.str)
  | [], _ => .nil
  | x :: r, h => .cons (.str x (h x List.mem_cons_self)) (dv_strs r fun y hy => h y (List.mem_cons_of_mem _ hy))
/-- the heap without one object -/
def offH (H : Hp) (s : Addr) : Hp := fun b => if b = s then none else H b
theorem off_sub {H : Hp} {s : Addr} : L2.Same (offH H s) H := fun b o e => by
  unfold offH at e
  split at e
  · cases e
  · exact e
theorem off_at {H : Hp} {s b : Addr} (n : b ≠ s) : offH H s b = H b := if_neg n
theorem off_sm {H H' : Hp} {s : Addr} (k : L2.Same H H') : L2.Same (offH H s) (offH H' s) := fun b o e => by
  by_cases z : b = s
  · unfold offH at e
    rw [if_pos z] at e
    cases e
  · rw [off_at z] at e ⊢
    exact k b o e
theorem off_ch {H H' : Hp} {s : Addr} (k : Ch s H H') : L2.Same (offH H s) (offH H' s) := fun b o e => by
  by_cases z : b = s
  · unfold offH at e
    rw [if_pos z] at e
    cases e
  · rw [off_at z] at e ⊢
    exact k b o e z
theorem off_seqT {K : PySem.W.Frag} {H : Hp} {s a : Addr} {xs l : List V} (h : SqT K H a xs) (hs : H s = some (.lst l)) : SqT K (offH H s) a xs := by
  rcases h with (e | ⟨ob, e⟩) | e
  · exact .inl (.inl (by rw [off_at fun z => by rw [z, hs] at e; cases e]; exact e))
  · exact .inl (.inr ⟨ob, by rw [off_at fun z => by rw [z, hs] at e; cases e]; exact e⟩)
  · exact .inr e
theorem strsD_app {ds : List PyData} : ∀ xs : List Str, strsD (xs.map PyData.str ++ ds) = (strsD ds).map (xs ++ ·)
  | [] => by
    show strsD ds = (strsD ds).map fun y => y
    cases strsD ds <;> rfl
  | x :: r => by
    show (strsD (r.map PyData.str ++ ds)).map (x :: ·) = _
    rw [strsD_app r]
    cases strsD ds <;> rfl
theorem laneB_app {xs ys : List Str} (h : laneB ys = false) : laneB (xs ++ ys) = false := by
  cases q : laneB (xs ++ ys) with
  | false => rfl
  | true =>
    unfold laneB at q h
    rw [Bool.and_eq_true] at q
    have h1 : ys.all carB = true := List.all_eq_true.mpr fun y hy => List.all_eq_true.mp q.1 y (List.mem_append_right _ hy)
    have h2 : ys.Nodup := (List.nodup_append.mp (of_decide_eq_true q.2)).2.1
    rw [h1, decide_eq_true h2] at h
    cases h
theorem lane_bad {xs : List Str} {ds : List PyData} (h : strsD ds = none ∨ ∃ ys, strsD ds = some ys ∧ laneB ys = false) : laneD (.tuple (xs.map PyData.str ++ ds)) = false := by
  show (match strsD (xs.map PyData.str ++ ds) with | some xs => laneB xs | none => false) = false
  rw [strsD_app]
  rcases h with h | ⟨ys, h, h2⟩
  · rw [h]
    rfl
  · rw [h]
    exact laneB_app h2
theorem sz_tup {xs : List Str} {ds : List PyData} (h : xs.length + ds.length ≤ 400) : SzA (.tuple (xs.map PyData.str ++ ds)) := ⟨fun es e => by
  cases e
  rw [List.length_append, List.length_map]
  exact h, fun _ e => nomatch e⟩
theorem flat_one {α : Type} (x : α) : ∀ n : Nat, (List.replicate n [x]).flatten = List.replicate n x
  | 0 => rfl
  | n + 1 => by
    rw [List.replicate_succ, List.flatten_cons, flat_one x n]
    rfl
theorem dv_rep {K : PySem.W.Frag} {H : Hp} {v : V} {d : PyData} (h : Dv K H v d) : ∀ n : Nat, DvAll K H (List.replicate n v) (List.replicate n d)
  | 0 => .nil
  | n + 1 => .cons h (dv_rep h n)
end Ln


set_option Elab.async false
set_option linter.all false
set_option maxRecDepth 100000
set_option maxHeartbeats 4000000
namespace Ln
open PySem PySem.Spec PyProof.Rows L2 GxR
section
variable {s a : Addr} {H H' : Hp} {xs l : List V} {as : List Addr} {es : List Ev}
theorem Ch.tupD (k : Ch s H H') (h : TupD H a xs) (hs : H s = some (.lst l)) : TupD H' a xs := by
  obtain ⟨ob, d, e⟩ := h
  exact ⟨ob, d, k _ _ e fun z => by rw [z, hs] at e; cases e⟩
theorem Ch.evT (k : Ch s H H') (h : EvT H as es) (hs : H s = some (.lst l)) : EvT H' as es := Paired.imp h fun b e q => k _ _ q fun z => by rw [z, hs] at q; cases q
theorem Ch.sm {H2 : Hp} (k : Ch s H H') (m : L2.Same H' H2) : Ch s H H2 := fun b o e n => m _ _ (k b o e n)
end
theorem take_run' {es : List Ev} {j : Nat} {e : Ev} (h : es[j]? = some e) : es.take (j + 1) = es.take j ++ [e] := by
  rw [List.take_add_one, h]
  rfl
section
variable {P : Program} {w : World} {K : PySem.W.Frag} {mg : Str → Option Value} {base : Heap} {Ps : List Addr}
def spLived (K : PySem.W.Frag) : Sp := fun vs H Q _ => ∃ (s0 t o : Addr) (l : List V) (n : Nat) (xs : List Str) (as : List Addr) (es : List Ev) (m : Nat), vs = [.ref s0, .ref t, .ref o] ∧ H s0 = some (.lst l) ∧ SrcV n l ∧ n + 300 ≤ 1000000 ∧ TupD H t (xs.map V.str) ∧ H o = some (.lst (as.map V.ref)) ∧ s0 ≠ o ∧ EvT H as es ∧ Good xs es m ∧
  ∀ (H' : Hp) (p : Addr) (L : List Str) (l' : List V), Ch s0 H H' → H' s0 = some (.lst l') → SrcV (n + 201) l' → TupD H' p (L.map V.str) → Run xs es L → Q (.ref p) H'
end
end Ln


set_option Elab.async false
set_option linter.all false
set_option maxRecDepth 100000
set_option maxHeartbeats 4000000
namespace Ln
open PySem PySem.Spec PyProof.Rows L2 GxR
/-! ### expressions that make data: the data is told, the places are not -/
/-- the data of a value, off the object s0; a list is one that may be added to -/
structure Dt (K : PySem.W.Frag) (s0 : Addr) (H : Hp) (v : V) (d : PyData) : Prop where
  dv : Dv K (offH H s0) v d
  ls : ∀ ds, d = .list ds → ∃ (a : Addr) (xs : List V), v = .ref a ∧ H a = some (.lst xs) ∧ a ≠ s0 ∧ DvAll K (offH H s0) xs ds
/-- data in slots -/
def EnvD (K : PySem.W.Frag) (s0 : Addr) (Γ : List (Nat × PyData)) (σ : L2.St) (H : Hp) : Prop := ∀ p ∈ Γ, ∃ v, σ[p.1]? = some (some v) ∧ Dt K s0 H v p.2
def tG (K : PySem.W.Frag) (s0 : Addr) (Γ : List (Nat × PyData)) (d : PyData) : TE := fun σ H Q => (∃ l, H s0 = some (.lst l)) ∧ EnvD K s0 Γ σ H ∧ ∀ H' v, L2.Same H H' → Dt K s0 H' v d → Q v H'
def tGA (K : PySem.W.Frag) (s0 : Addr) (Γ : List (Nat × PyData)) (ds : List PyData) : TA := fun σ H Q => (∃ l, H s0 = some (.lst l)) ∧ EnvD K s0 Γ σ H ∧ ∀ H' vs, L2.Same H H' → DvAll K (offH H' s0) vs ds → Q vs H'
section
variable {K : PySem.W.Frag} {s0 : Addr} {H H' : Hp} {v : V} {d : PyData} {Γ : List (Nat × PyData)} {σ : L2.St}
theorem Dt.same (h : Dt K s0 H v d) (k : L2.Same H H') : Dt K s0 H' v d := ⟨h.dv.same (off_sm k), fun ds e => by
  obtain ⟨a, xs, e1, e2, n, dv⟩ := h.ls ds e
  exact ⟨a, xs, e1, k _ _ e2, n, dv.same (off_sm k)⟩⟩
theorem Dt.ch (h : Dt K s0 H v d) (k : Ch s0 H H') : Dt K s0 H' v d := ⟨h.dv.same (off_ch k), fun ds e => by
  obtain ⟨a, xs, e1, e2, n, dv⟩ := h.ls ds e
  exact ⟨a, xs, e1, k _ _ e2 n, n, dv.same (off_ch k)⟩⟩
theorem Dt.full (h : Dt K s0 H v d) : Dv K H v d := h.dv.same off_sub
theorem Dt.of (h : Dv K (offH H s0) v d) (n : ∀ ds, d ≠ .list ds) : Dt K s0 H v d := ⟨h, fun ds e => absurd e (n ds)⟩
theorem EnvD.same (h : EnvD K s0 Γ σ H) (k : L2.Same H H') : EnvD K s0 Γ σ H' := fun p hp => let ⟨v, e, d⟩ := h p hp; ⟨v, e, d.same k⟩
theorem EnvD.nil : EnvD K s0 [] σ H := fun _ h => nomatch h
theorem EnvD.cons {i : Nat} (e : σ[i]? = some (some v)) (h : Dt K s0 H v d) (t : EnvD K s0 Γ σ H) : EnvD K s0 ((i, d) :: Γ) σ H := fun p hp => by
  rcases List.mem_cons.mp hp with rfl | hp
  · exact ⟨v, e, h⟩
  · exact t p hp
end
section
variable {X : Cx} {s0 : Addr} {Γ : List (Nat × PyData)} {d : PyData} {ds es : List PyData} {e : Expr} {el : List Expr} {pos : Pos}
theorem pe_imp {t t' : TE} (h : PE X e t) (i : ∀ σ H Q, t' σ H Q → t σ H Q) : PE X e t' := ⟨fun pins s σ H Q I h' => h.run pins s σ H Q I (i _ _ _ h')⟩
theorem pa_imp {t t' : TA} (h : PA X el t) (i : ∀ σ H Q, t' σ H Q → t σ H Q) : PA X el t' := ⟨fun p pins s σ H Q I h' => h.run p pins s σ H Q I (i _ _ _ h')⟩
theorem g_non {j : Nat} : PE X (.Constant .none j pos) (tG X.K s0 Γ .none) := pe_imp pe_non fun σ H Q ⟨_, _, q⟩ => q H _ sm_refl (.of .non fun _ z => nomatch z)
theorem g_int {j : Nat} {i : Int} : PE X (.Constant (.int i) j pos) (tG X.K s0 Γ (.int i)) := pe_imp pe_int fun σ H Q ⟨_, _, q⟩ => q H _ sm_refl (.of (.int i) fun _ z => nomatch z)
theorem g_bl {j : Nat} {b : Bool} : PE X (.Constant (.bool b) j pos) (tG X.K s0 Γ (.bool b)) := pe_imp pe_bl fun σ H Q ⟨_, _, q⟩ => q H _ sm_refl (.of (.bl b) fun _ z => nomatch z)
theorem g_str {j : Nat} {x : Str} (h : decide (x.length ≤ 100) = true := by decide) : PE X (.Constant (.str x) j pos) (tG X.K s0 Γ (.str x)) := pe_imp pe_str fun σ H Q ⟨_, _, q⟩ => q H _ sm_refl (.of (.str x (by have := of_decide_eq_true h; rw [sizeLine_eq]; omega)) fun _ z => nomatch z)
theorem g_var {i : Nat} {x : Str} (h : PE X (.Name x pos) (tVar i)) (m : (i, d) ∈ Γ) : PE X (.Name x pos) (tG X.K s0 Γ d) := pe_imp h fun σ H Q ⟨_, en, q⟩ => let ⟨v, ev, dv⟩ := en _ m; ⟨v, ev, q H v sm_refl dv⟩
theorem ga_nil : PA X [] (tGA X.K s0 Γ []) := pa_imp pa_nil fun σ H Q ⟨_, _, q⟩ => q H [] sm_refl .nil
theorem ga_cons (h : PE X e (tG X.K s0 Γ d)) (t : PA X el (tGA X.K s0 Γ ds)) (hs : starEach (e :: el) X.env = (false, eval e X.env) :: starEach el X.env := by rfl) : PA X (e :: el) (tGA X.K s0 Γ (d :: ds)) :=
  pa_imp (pa_cons h t hs) fun σ H Q ⟨⟨l, hs⟩, en, q⟩ => ⟨⟨l, hs⟩, en, fun H1 v k dv => ⟨⟨l, k _ _ hs⟩, en.same k, fun H2 vs k2 dvs => q H2 _ (sm_trans k k2) (.cons (dv.same k2).dv dvs)⟩⟩
theorem g_lst (a : PA X el (tGA X.K s0 Γ ds)) (hl : decide (ds.length ≤ 900) = true := by exact rfl) : PE X (.List el pos) (tG X.K s0 Γ (.list ds)) :=
  pe_imp (pe_lst a) fun σ H Q ⟨⟨l, hs⟩, en, q⟩ => ⟨⟨l, hs⟩, en, fun H1 vs k dv => ⟨by have := of_decide_eq_true hl; rw [dv.len, sizeLine_eq]; omega, fun p hp => by
    have k2 : L2.Same H1 (upd H1 p (.lst vs)) := sm_new sm_refl hp
    have n : p ≠ s0 := (ne_of_none (k _ _ hs) hp).symm
    have d2 := dv.same (off_sm (s := s0) k2)
    exact q _ _ (sm_trans k k2) ⟨.lst (SqL.of (by rw [off_at n]; exact upd_same)) d2, fun es e => by cases e; exact ⟨p, vs, rfl, upd_same, n, d2⟩⟩⟩⟩
theorem g_tup {x1 : _} (a : PA X el (tGA X.K s0 Γ ds)) (hl : decide (ds.length ≤ 900) = true := by exact rfl) : PE X (.Tuple el x1 pos) (tG X.K s0 Γ (.tuple ds)) :=
  pe_imp (pe_tup a) fun σ H Q ⟨⟨l, hs⟩, en, q⟩ => ⟨⟨l, hs⟩, en, fun H1 vs k dv => ⟨by have := of_decide_eq_true hl; rw [dv.len, sizeLine_eq]; omega, fun p hp => by
    have k2 : L2.Same H1 (upd H1 p (.tup vs)) := sm_new sm_refl hp
    have n : p ≠ s0 := (ne_of_none (k _ _ hs) hp).symm
    have d2 := dv.same (off_sm (s := s0) k2)
    exact q _ _ (sm_trans k k2) (.of (.tup (SqT.of (by rw [off_at n]; exact upd_same)) d2) fun _ z => nomatch z)⟩⟩
theorem g_dic : PE X (.Dict [] [] pos) (tG X.K s0 Γ (.dict [])) := pe_imp pe_dnewK fun σ H Q ⟨⟨l, hs⟩, en, q⟩ p hp => by
  have k2 : L2.Same H (upd H p (.dK [])) := sm_new sm_refl hp
  have n : p ≠ s0 := (ne_of_none hs hp).symm
  exact q _ _ k2 (.of (.dic (by rw [off_at n]; exact upd_same)) fun _ z => nomatch z)
/-- lists, one behind the other -/
theorem g_cat {a b : Expr} (ha : PE X a (tG X.K s0 Γ (.list ds))) (hb : PE X b (tG X.K s0 Γ (.list es))) (hl : ds.length + es.length ≤ 10000) : PE X (.BinOp a .Add b pos) (tG X.K s0 Γ (.list (ds ++ es))) :=
  pe_imp (pe_op op_cat ha hb) fun σ H Q ⟨⟨l, hs⟩, en, q⟩ => ⟨⟨l, hs⟩, en, fun H1 v1 k1 d1 => ⟨⟨l, k1 _ _ hs⟩, en.same k1, fun H2 v2 k2 d2 => by
    obtain ⟨a1, xs, rfl, e1, n1, c1⟩ := d1.ls _ rfl
    obtain ⟨a2, ys, rfl, e2, n2, c2⟩ := d2.ls _ rfl
    refine ⟨a1, a2, xs, ys, rfl, rfl, k2 _ _ e1, e2, by rw [c1.len, c2.len, sizeLine_eq]; omega, fun p hp => ?_⟩
    have k3 : L2.Same H2 (upd H2 p (.lst (xs ++ ys))) := sm_new sm_refl hp
    have n : p ≠ s0 := (ne_of_none (k2 _ _ (k1 _ _ hs)) hp).symm
    have c3 := DvAll.app (c1.same (off_sm (s := s0) (sm_trans k2 k3))) (c2.same (off_sm (s := s0) k3))
    exact q _ _ (sm_trans k1 (sm_trans k2 k3)) ⟨.lst (SqL.of (by rw [off_at n]; exact upd_same)) c3, fun es e => by cases e; exact ⟨p, _, rfl, upd_same, n, c3⟩⟩⟩⟩
/-- a tuple behind a tuple -/
theorem g_catT {a b : Expr} (ha : PE X a (tG X.K s0 Γ (.tuple ds))) (hb : PE X b (tG X.K s0 Γ (.tuple es))) (hl : ds.length + es.length ≤ 900) : PE X (.BinOp a .Add b pos) (tG X.K s0 Γ (.tuple (ds ++ es))) :=
  pe_imp (pe_op op_catA ha hb) fun σ H Q ⟨⟨l, hs⟩, en, q⟩ => ⟨⟨l, hs⟩, en, fun H1 v1 k1 d1 => ⟨⟨l, k1 _ _ hs⟩, en.same k1, fun H2 v2 k2 d2 => by
    cases (d1.same k2).dv with
    | @tup a1 xs _ s1 c1 =>
      cases d2.dv with
      | @tup a2 ys _ s2 c2 =>
        refine catV (sqT_sm s1 off_sub) (sqT_sm s2 off_sub) (by rw [c1.len, c2.len]; omega) fun H3 p k3 hp => ?_
        have hs3 := k3 _ _ (k2 _ _ (k1 _ _ hs))
        exact q _ _ (sm_trans k1 (sm_trans k2 k3)) (.of (.tup (off_seqT hp hs3) (DvAll.app (c1.same (off_sm k3)) (c2.same (off_sm k3)))) fun _ z => nomatch z)⟩⟩
/-- [x, ..] * n -/
theorem g_rep {a b : Expr} {n : Nat} {tb : TE} (ha : PE X a (tG X.K s0 Γ (.list [d]))) (hb : PE X b tb) (hn : ∀ σ H Q, EnvD X.K s0 Γ σ H → Q (.int n) H → tb σ H Q) (hl : n ≤ 10000) : PE X (.BinOp a .Mult b pos) (tG X.K s0 Γ (.list (List.replicate n d))) :=
  pe_imp (pe_op op_rep ha hb) fun σ H Q ⟨⟨l, hs⟩, en, q⟩ => ⟨⟨l, hs⟩, en, fun H1 v1 k1 d1 => hn _ _ _ (en.same k1) (by
    obtain ⟨a1, xs, rfl, e1, n1, c1⟩ := d1.ls _ rfl
    cases c1 with
    | @cons v _ _ _ c t =>
      cases t
      refine ⟨a1, n, [v], rfl, rfl, e1, by omega, by omega, by rw [sizeLine_eq]; simp; omega, fun p hp => ?_⟩
      rw [Int.toNat_natCast, flat_one]
      have k3 : L2.Same H1 (upd H1 p (.lst (List.replicate n v))) := sm_new sm_refl hp
      have np : p ≠ s0 := (ne_of_none (k1 _ _ hs) hp).symm
      have c3 := dv_rep (c.same (off_sm (s := s0) k3)) n
      exact q _ _ (sm_trans k1 k3) ⟨.lst (SqL.of (by rw [off_at np]; exact upd_same)) c3, fun es e => by cases e; exact ⟨p, _, rfl, upd_same, np, c3⟩⟩)⟩
/-- list(t) -/
theorem g_list (h : PE X e (tCB (fun xs H Q => ∃ p ys, xs = [.ref p] ∧ (SqL X.K H p ys ∨ SqT X.K H p ys) ∧ ∀ l, H l = none → Q (.ref l) (upd H l (.lst ys))) (tCons (tG X.K s0 Γ (.tuple ds)) tNil))) : PE X e (tG X.K s0 Γ (.list ds)) :=
  pe_imp h fun σ H Q ⟨⟨l, hs⟩, en, q⟩ => ⟨⟨l, hs⟩, en, fun H1 v1 k1 d1 => by
    cases d1.dv with
    | @tup a1 xs _ s1 c1 =>
      refine ⟨a1, xs, rfl, .inr (sqT_sm s1 off_sub), fun p hp => ?_⟩
      have k3 : L2.Same H1 (upd H1 p (.lst xs)) := sm_new sm_refl hp
      have n : p ≠ s0 := (ne_of_none (k1 _ _ hs) hp).symm
      have c3 := c1.same (off_sm (s := s0) k3)
      exact q _ _ (sm_trans k1 k3) ⟨.lst (SqL.of (by rw [off_at n]; exact upd_same)) c3, fun es e => by cases e; exact ⟨p, _, rfl, upd_same, n, c3⟩⟩⟩
/-- tuple(l) -/
theorem g_tuple (h : PE X e (tCB (fun xs H Q => ∃ p ys, xs = [.ref p] ∧ ((SqL X.K H p ys ∧ ∀ l, H l = none → Q (.ref l) (upd H l (.tup ys))) ∨ (SqT X.K H p ys ∧ Q (.ref p) H))) (tCons (tG X.K s0 Γ (.list ds)) tNil))) : PE X e (tG X.K s0 Γ (.tuple ds)) :=
  pe_imp h fun σ H Q ⟨⟨l, hs⟩, en, q⟩ => ⟨⟨l, hs⟩, en, fun H1 v1 k1 d1 => by
    obtain ⟨a1, xs, rfl, e1, n1, c1⟩ := d1.ls _ rfl
    refine ⟨a1, xs, rfl, .inl ⟨SqL.of e1, fun p hp => ?_⟩⟩
    have k3 : L2.Same H1 (upd H1 p (.tup xs)) := sm_new sm_refl hp
    have n : p ≠ s0 := (ne_of_none (k1 _ _ hs) hp).symm
    exact q _ _ (sm_trans k1 k3) (.of (.tup (SqT.of (by rw [off_at n]; exact upd_same)) (c1.same (off_sm (s := s0) k3))) fun _ z => nomatch z)⟩
/-- t[i] -/
theorem g_ixT {a b : Expr} {tb : TE} {i : Int} {k : Nat} (ha : PE X a (tG X.K s0 Γ (.tuple ds))) (hb : PE X b tb) (hi : ∀ σ H Q, Q (.int i) H → tb σ H Q) (hk : ixN ds.length i = some k) (hd : ds[k]? = some d) (hn : ∀ es, d ≠ .list es) (hs : PlainIx b) : PE X (.Subscript a b pos) (tG X.K s0 Γ d) :=
  pe_imp (pe_ix ix_tup ha hb hs) fun σ H Q ⟨⟨l, hs⟩, en, q⟩ => ⟨⟨l, hs⟩, en, fun H1 v1 k1 d1 => hi _ _ _ (by
    cases d1.dv with
    | @tup a1 xs _ s1 c1 =>
      obtain ⟨v, hv, dv⟩ := c1.at_ hd
      exact ⟨a1, xs, i, v, rfl, rfl, sqT_sm s1 off_sub, by unfold atI; rw [c1.len, hk]; exact hv, q _ _ k1 (.of dv hn)⟩)⟩
/-- menu[take(bag, len(menu))] -/
theorem g_pick {ib im : Nat} {E : XK} (h : PE X e (tOp (rIxL X.K) (tVar im) (tCall spTake [] E (tCons (tVar ib) (tCons (tCB (fun xs H Q => ∃ p ys, xs = [.ref p] ∧ (SqL X.K H p ys ∨ SqT X.K H p ys) ∧ Q (.int ys.length) H) (tCons (tVar im) tNil)) tNil))))) (m : (im, .list ds) ∈ Γ) :
    PE X e fun σ H Q => ∃ (l : List V) (n : Nat), σ[ib]? = some (some (.ref s0)) ∧ H s0 = some (.lst l) ∧ SrcV n l ∧ n ≤ 1000000 ∧ EnvD X.K s0 Γ σ H ∧ 0 < ds.length ∧ ds.length ≤ 1000 ∧
      ∀ H' v d l', Ch s0 H H' → H' s0 = some (.lst l') → SrcV (n + 1) l' → d ∈ ds → Dv X.K (offH H' s0) v d → Q v H' :=
  pe_imp h fun σ H Q ⟨l, n, eb, hs, hl, hn, en, h0, h9, q⟩ => by
    obtain ⟨v, ev, dt⟩ := en _ m
    obtain ⟨a, xs, rfl, ea, na, c⟩ := dt.ls _ rfl
    have hlen := c.len
    refine ⟨.ref a, ev, .ref s0, eb, .ref a, ev, a, xs, rfl, .inl (SqL.of ea), s0, l, n, xs.length, rfl, hs, hl, hn, by omega, by omega, fun l2 r hl2 h0 h1 => ?_⟩
    obtain ⟨j, rfl⟩ : ∃ j : Nat, r = (j : Int) := ⟨r.toNat, by omega⟩
    obtain ⟨u, hu, du⟩ := c.at_ (List.getElem?_eq_getElem (show j < ds.length by omega))
    refine ⟨a, xs, (j : Nat), u, rfl, rfl, SqL.of (by rw [upd_ne na]; exact ea), atI_nat hu, ?_⟩
    exact q _ u _ l2 Ch.src upd_same hl2 (List.getElem_mem _) (du.same (off_ch Ch.src))
end
end Ln


set_option Elab.async false
set_option linter.all false
set_option maxRecDepth 100000
set_option maxHeartbeats 2000000
namespace Ln
open PySem PySem.Spec PyProof.Rows L2 GxR
/-! ### data that may be shown -/
structure Gd (d : PyData) (dep wt : Nat) : Prop where
  lay : d.canLay0 = true
  dep : d.depth ≤ dep
  wt : d.weight ≤ wt
  iss : d.intsShort 13 = true
  sh : d.showable = true
  nd : d.hasDict = false
structure GdA (ds : List PyData) (dep wt : Nat) : Prop where
  lay : PyData.canLayAll0 ds = true
  dep : PyData.depthAll ds ≤ dep
  wt : PyData.weightAll ds ≤ wt
  iss : PyData.intsShortAll 13 ds = true
  sh : PyData.showableAll ds = true
  nd : PyData.hasDictAll ds = false
theorem GdA.nil {dep : Nat} : GdA [] dep 0 := ⟨rfl, Nat.zero_le _, Nat.le_refl _, rfl, rfl, rfl⟩
theorem GdA.cons {d : PyData} {ds : List PyData} {dep w1 w2 : Nat} (a : Gd d dep w1) (b : GdA ds dep w2) : GdA (d :: ds) dep (w1 + 1 + w2) := by
  refine ⟨?_, ?_, ?_, ?_, ?_, ?_⟩
  · rw [PyData.canLayAll0, a.lay, b.lay]
    rfl
  · have := a.dep
    have := b.dep
    rw [PyData.depthAll]
    omega
  · have := a.wt
    have := b.wt
    rw [PyData.weightAll]
    omega
  · rw [PyData.intsShortAll, a.iss, b.iss]
    rfl
  · rw [PyData.showableAll, a.sh, b.sh]
    rfl
  · rw [PyData.hasDictAll, a.nd, b.nd]
    rfl
theorem GdA.list {ds : List PyData} {dep w : Nat} (a : GdA ds dep w) : Gd (.list ds) (dep + 1) w :=
  ⟨by rw [PyData.canLay0]; exact a.lay, by rw [PyData.depth]; exact Nat.succ_le_succ a.dep, by rw [PyData.weight]; exact a.wt, by rw [PyData.intsShort]; exact a.iss, by rw [PyData.showable]; exact a.sh, by rw [PyData.hasDict]; exact a.nd⟩
theorem GdA.tuple {ds : List PyData} {dep w : Nat} (a : GdA ds dep w) : Gd (.tuple ds) (dep + 1) w :=
  ⟨by rw [PyData.canLay0]; exact a.lay, by rw [PyData.depth]; exact Nat.succ_le_succ a.dep, by rw [PyData.weight]; exact a.wt, by rw [PyData.intsShort]; exact a.iss, by rw [PyData.showable]; exact a.sh, by rw [PyData.hasDict]; exact a.nd⟩
theorem Gd.mono {d : PyData} {a b u v : Nat} (h : Gd d a u) (h1 : a ≤ b) (h2 : u ≤ v) : Gd d b v := ⟨h.lay, Nat.le_trans h.dep h1, Nat.le_trans h.wt h2, h.iss, h.sh, h.nd⟩
theorem GdA.map {α : Type} {f : α → PyData} {dep w : Nat} : ∀ (xs : List α), (∀ x ∈ xs, Gd (f x) dep w) → GdA (xs.map f) dep (xs.length * (w + 1))
  | [], _ => by
    rw [List.length_nil, Nat.zero_mul]
    exact .nil
  | x :: r, h => by
    have a := GdA.cons (h x List.mem_cons_self) (GdA.map r fun y hy => h y (List.mem_cons_of_mem _ hy))
    rw [List.length_cons, Nat.succ_mul, Nat.add_comm]
    exact a
theorem Gd.str {x : Str} (h1 : PyData.strOk x = true) (h2 : x.length ≤ 4) : Gd (.str x) 0 4 :=
  ⟨by rw [PyData.canLay0]; exact h1, by rw [PyData.depth]; exact Nat.le_refl _, by rw [PyData.weight]; exact h2, rfl, rfl, rfl⟩
set_option maxRecDepth 1000000 in
theorem shown_ints : ∀ n < 1001, decide ((PyData.shown (.int (n : Nat))).length ≤ 13) = true := by decide +kernel
theorem Gd.int {n : Nat} (h : n ≤ 1000) : Gd (.int (n : Nat)) 0 11 := by
  have hl : (if ((n : Nat) : Int) = 0 then 0 else ((n : Nat) : Int).natAbs.log2 + 1) ≤ 11 := by
    split
    · omega
    · have : ((n : Nat) : Int).natAbs.log2 < 10 := (Nat.log2_lt (by omega)).mpr (by show ((n : Nat) : Int).natAbs < 1024; omega)
      omega
  refine ⟨rfl, by rw [PyData.depth]; exact Nat.le_refl _, ?_, ?_, ?_, rfl⟩
  · rw [PyData.weight]
    simpa using hl
  · rw [PyData.intsShort]
    exact shown_ints n (by omega)
  · rw [PyData.showable]
    refine decide_eq_true ?_
    by_cases e : n = 0
    · subst e
      decide
    · have : ((n : Nat) : Int).natAbs.log2 < 10 := (Nat.log2_lt (by omega)).mpr (by show ((n : Nat) : Int).natAbs < 1024; omega)
      omega
theorem Gd.shaped {d : PyData} {dep w : Nat} (h : Gd d dep w) (hd : dep ≤ 60) : SeqAt.shaped d = true := by
  unfold SeqAt.shaped
  rw [Bool.and_eq_true]
  have := h.dep
  exact ⟨h.lay, decide_eq_true (by omega)⟩
theorem Gd.len {d : PyData} {dep w : Nat} (h : Gd d dep w) (hd : dep ≤ 60) (hw : w ≤ 1000000) : d.shown.length ≤ sizeLine := by
  have h1 := h.dep
  have h2 := h.wt
  have hl : PyData.layable0 d = true := by
    unfold PyData.layable0
    rw [Bool.and_eq_true, Bool.and_eq_true]
    exact ⟨⟨h.lay, decide_eq_true (by omega)⟩, decide_eq_true (by omega)⟩
  exact Nat.le_trans (shown_le13 hl h.iss) (by decide)
/-! ### repr, where nothing is being shown -/
def rRepr (K : PySem.W.Frag) : List V → Hp → VK → Prop := fun vs H Q => ∃ (a : Addr) (d : PyData) (dep w : Nat), vs = [.ref a] ∧ Dp K H (.ref a) d ∧ Gd d dep w ∧ dep ≤ 60 ∧ w ≤ 1000000 ∧ Q (.str d.shown) H
theorem cr_repr {X : Cx} (hg : X.A.guards = some []) (hu : X.A.units + 64 < cLine) : CallR X (.builtin "repr") (rRepr X.K) := by
  intro pins s σ H vs us Q I r h
  obtain ⟨a, d, dep, w, rfl, hd, hG, h60, hw, q⟩ := h
  obtain ⟨u, rfl, r1⟩ := vals1 r
  obtain ⟨as, hr⟩ := Dp.reads I d (.ref a) u hd r1
  obtain rfl : u = Value.ref a := r1
  have h1 := hG.dep
  exact repr_of_reads' hr hG.sh (PyData.noDict_hsm hG.nd) hg (by omega) (fun _ _ e => e) (fun h' t tk hk => ⟨.str d.shown, H, I.kept hk, ⟨_, rfl⟩, q⟩) (hG.len h60 hw)
/-! ### the data shown -/
def Ev.dat : Ev → PyData
  | .inn c => .tuple [.str "in", .str c]
  | .out => .tuple [.str "out"]
def strD (xs : List Str) : List PyData := xs.map PyData.str
def natD (ns : List Nat) : List PyData := ns.map fun n => PyData.int (n : Nat)
theorem dp_evs {K : PySem.W.Frag} {H : Hp} : ∀ {as : List Addr} {es : List Ev}, EvsAt K H as es → DpAll K H (as.map V.ref) (es.map Ev.dat)
  | _, _, .nil => .nil
  | _, .inn c :: r, .cons h t => .cons (.tup h (.cons (.str _) (.cons (.str _) .nil))) (dp_evs t)
  | _, .out :: r, .cons h t => .cons (.tup h (.cons (.str _) .nil)) (dp_evs t)
theorem gd_in : PyData.strOk "in" = true := by decide +kernel
theorem gd_out : PyData.strOk "out" = true := by decide +kernel
theorem gd_ev {e : Ev} (h : ∀ c, e = .inn c → carB c = true) : Gd e.dat 1 20 := by
  cases e with
  | inn c => exact (GdA.tuple (GdA.cons (Gd.str gd_in (by decide +kernel)) (GdA.cons (Gd.str (car_ok (h c rfl)) (carLen (h c rfl))) GdA.nil))).mono (Nat.le_refl _) (by decide)
  | out => exact (GdA.tuple (GdA.cons (Gd.str gd_out (by decide +kernel)) GdA.nil)).mono (Nat.le_refl _) (by decide)
theorem gd_strs {xs : List Str} (h : ∀ x ∈ xs, carB x = true) (hl : xs.length ≤ 1000) : GdA (strD xs) 0 5000 := by
  have a := GdA.map (f := PyData.str) (dep := 0) (w := 4) xs fun x hx => Gd.str (car_ok (h x hx)) (carLen (h x hx))
  exact ⟨a.lay, a.dep, Nat.le_trans a.wt (by omega), a.iss, a.sh, a.nd⟩
/-- a def's promise where nothing is being shown -/
structure FnG (P : Program) (w : World) (K : PySem.W.Frag) (mg : Str → Option Value) (base : Heap) (k : Nat) (f : Addr) (fd : FuncData) (ps : List Str) (sp : Sp) : Prop where
  len : ∀ vs H Q E, sp vs H Q E → vs.length = ps.length
  run : ∀ (A : Around) (outer : List Env) (s : Shared) (H : Hp) (args : Args) (us : List Value) (vs : List V) (Q : VK) (E : XK), Room k A → A.guards = some [] → Env0 P w K mg base A outer s H → BindsTo s fd args (ps.zip us) → Vals vs us → sp vs H Q E →
    codeAny (model P w) A (.call (.ref f) args) (CR CX0 outer P w H s Q E) s
theorem FnG.of {P : Program} {w : World} {K : PySem.W.Frag} {mg : Str → Option Value} {base : Heap} {k : Nat} {f : Addr} {fd : FuncData} {ps : List Str} {sp : Sp} (F : FnOk P w K mg base CX0 k f fd ps sp) : FnG P w K mg base k f fd ps sp := ⟨F.len, fun A outer s H args us vs Q E hr _ e0 hb r h => F.run A outer s H args us vs Q E hr e0 hb r h⟩
section
variable {P : Program} {w : World} {K : PySem.W.Frag} {mg : Str → Option Value} {base : Heap}
theorem Fun.okG {x qual : Str} {st : Stmt} {f : Addr} {fd : FuncData} {N ps : List Str} {k : Nat} {sp : Sp} (F : Fun K x qual st f fd) (S : FnScope N ps (defScope st)) (len : ∀ vs H Q E, sp vs H Q E → vs.length = ps.length)
    (hbody : ∀ (cdv : Value) (A : Around) (outer : List Env) (s : Shared) (H : Hp) (vs : List V) (Q : VK) (E : XK), Room k (A.deeper (envOfC qual (defScope st) s.heap.objs.size f cdv)) → A.guards = some [] → sp vs H Q E →
      ∃ t, PSs (cxOf CX0 P w K mg base N qual (defScope st) f cdv A outer s H E).nox (defBody st) t ∧ t { nx := fun _ H' => Q .non H', rt := Q } (start N vs) H) : FnG P w K mg base (k + 1) f fd ps sp := by
  obtain ⟨oc, od, kV, doc, pm, an, cdv, ct, osl, rfl, lk, hcd⟩ := F.ex
  refine ⟨len, fun A outer s H args us vs Q E hr hgd e0 hb r hsp => ?_⟩
  have KX : K.In s.heap := e0.mod.kin.keeps fun b o e => (e0.bs b o e).1
  have lim : s.heap.NoLimit := e0.mod.nolimit.keeps fun b o e => (e0.bs b o e).1
  have kinds : ∀ y ∈ ps.zip us, (defScope st).names.lookup y.1 = some .local ∨ ((defScope st).names.lookup y.1 = some .cell ∧ ((cellsFrom (s.heap.objs.size + 1) (defScope st).names []).lookup y.1).isSome = true) := by
    rintro ⟨n, v⟩ hy
    rcases S.par n (List.of_mem_zip hy).1 with q | q
    · exact .inl q
    · exact .inr ⟨q, PySem.W.cellsFrom_some _ _ _ (.inl q)⟩
  refine codeAny_call_function hr.depth (KX _ _ lk) rfl S.co S.gen rfl (PySem.W.codeRec_of KX hcd) (hb _ _ _ _ ?_)
  refine wpAny_newFunctionEnv_cells S.kind kinds fun env he s1 x1 => ?_
  subst he
  refine ⟨lim.keeps x1.toInCall.keep, codeAny_func ?_⟩
  obtain ⟨t, ht, hq⟩ := hbody cdv A outer s H vs Q E (hr.deeper _) hgd hsp
  have I : Inv (cxOf CX0 P w K mg base N qual (defScope st) f cdv A outer s H E) [] (start N vs) H s1 := inv_start S hr.hd e0 (len _ _ _ _ hsp) r x1
  refine wpAny_mono (ht.nox.run [] s1 (start N vs) H _ I hq) (fun fl s' hs => ?_) fun e s' hs => hs
  match fl, hs with
  | .ret u, ⟨v, σ', H', J, rv, q⟩ => exact ⟨v, H', J.os, J.bare, J.base, J.hok, rv, q⟩
  | .next, ⟨σ', H', J, q⟩ => exact ⟨.non, H', J.os, J.bare, J.base, J.hok, rfl, q⟩
  | .brk, ⟨_, _, _, q⟩ => exact False.elim q
  | .cont, ⟨_, _, _, q⟩ => exact False.elim q
end
section
variable {X : Cx} {k : Nat} {f : Addr} {fd : FuncData} {ps : List Str} {sp : Sp} {x : Str} {p pos : Pos} {e : Expr} {es : List Expr} {t : TA}
theorem pe_callG (F : FnG X.prog X.w X.K X.mg X.base k f fd ps sp) (hr : Room k X.A) (hgd : X.A.guards = some []) (hg : Gl X x) (hm : X.mg x = some (.ref f)) (hk : PySem.W.keepIn X.K (.ref f) = true) (hb : Binds X.K fd ps [])
    (ha : PA X (e :: es) t) (hdb : (x == ("__debug__" : Str)) = false := by decide) (he : starEach (e :: es) X.env = (false, eval e X.env) :: starEach es X.env := by rfl) (hpl : (backTo pos (starEach es X.env)).any (·.1) = false := by rfl) :
    PE X (.Call (.Name x p) (e :: es) [] pos) (tCall sp [] E0 t) := by
  refine ⟨fun pins s σ H Q I h => wpAny_Call_Name_kw (ld_glob I hg hm ?_ hdb)⟩
  refine PySem.W.callWith_K (h₀ := X.base) I.ok.mod.kin hk (thn (ha.run pos pins s σ H _ I h) fun us s1 ⟨vs, H1, I1, r, q⟩ => ⟨I1.kIn, ?_⟩) he hpl
  have q : sp (vs ++ []) H1 Q E0 := q
  rw [List.append_nil] at q
  have hl : (us ++ []).length = ps.length := by
    rw [List.append_nil, ← r.length]
    exact F.len _ _ _ _ q
  have hbt := hb s1 us I1.kIn hl
  rw [List.append_nil] at hbt
  refine wpAny_call (codeAny_mono (F.run X.A X.stack s1 H1 ⟨us, []⟩ us vs Q E0 hr hgd I1.env0 hbt r q) fun rr s' hq => ?_)
  match rr, hq with
  | .error e, hq => exact False.elim hq
  | .ok (.ret u), hq => exact I1.after hq
  | .ok .next, hq => exact False.elim hq
  | .ok .brk, hq => exact False.elim hq
  | .ok .cont, hq => exact False.elim hq
end
end Ln


set_option Elab.async false
set_option linter.all false
set_option maxRecDepth 100000
set_option maxHeartbeats 2000000
namespace Ln
open PySem
/-! ### what is no log -/
def outD : PyData := .tuple [.str "out"]
def innD (c : Str) : PyData := .tuple [.str "in", .str c]
theorem dep_inn (c : Str) : depBD (innD c) = false := rfl
theorem arr_inn (c : Str) : arrBD (innD c) = carB c := by
  show (decide (("in" : Str) = "in") && carB c) = carB c
  rw [decide_eq_true rfl, Bool.true_and]
theorem arr_out : arrBD outD = false := rfl
theorem dep_out : depBD outD = true := by
  show decide (("out" : Str) = "out") = true
  exact decide_eq_true rfl
theorem logW_inn {us : List Str} {m : Nat} {c : Str} {r : List PyData} (h : carB c = true) : logW us m (innD c :: r) = if ¬ c ∈ us then logW (c :: us) (m + 1) r else false := by
  rw [logW_cons, arr_inn, if_pos h]
  rfl
theorem logW_out {us : List Str} {m : Nat} {r : List PyData} : logW us m (outD :: r) = if 0 < m then logW us (m - 1) r else false := by
  rw [logW_cons, arr_out, if_neg Bool.false_ne_true, if_pos dep_out]
theorem logW_odd {us : List Str} {m : Nat} {d : PyData} {r : List PyData} (h1 : arrBD d = false) (h2 : depBD d = false) : logW us m (d :: r) = false := by
  rw [logW_cons, h1, h2, if_neg Bool.false_ne_true, if_neg Bool.false_ne_true]
/-- what is bad behind any start is bad behind a log -/
theorem logW_pre {r : List PyData} (h : ∀ us m, logW us m r = false) : ∀ (ds : List PyData) (us : List Str) (m : Nat), logW us m (ds ++ r) = false
  | [], us, m => h us m
  | d :: ds, us, m => by
    show logW us m (d :: (ds ++ r)) = false
    rw [logW_cons]
    split
    · cases carO d with
      | none => rfl
      | some c =>
        show (if ¬ c ∈ us then _ else false) = false
        split
        · exact logW_pre h ds _ _
        · rfl
    · split
      · split
        · exact logW_pre h ds _ _
        · rfl
      · rfl
theorem logW_outs {us : List Str} {r : List PyData} : ∀ n m : Nat, logW us (m + n) (List.replicate n outD ++ r) = logW us m r
  | 0, m => rfl
  | n + 1, m => by
    rw [List.replicate_succ]
    show logW us (m + (n + 1)) (outD :: (List.replicate n outD ++ r)) = _
    rw [logW_out, if_pos (by omega), show m + (n + 1) - 1 = m + n by omega]
    exact logW_outs n m
theorem bad_outs {us : List Str} {n : Nat} : logW us n (List.replicate (n + 1) outD) = false := by
  have h := logW_outs (us := us) (r := [outD]) n 0
  rw [Nat.zero_add, ← List.replicate_succ'] at h
  rw [h, logW_out, if_neg (by decide)]
theorem bad_back {us : List Str} {n : Nat} {c : Str} (hc : c ∈ us) (h : carB c = true) : logW us n (List.replicate n outD ++ [innD c]) = false := by
  have e := logW_outs (us := us) (r := [innD c]) n 0
  rw [Nat.zero_add] at e
  rw [e, logW_inn h, if_neg fun z => z hc]
theorem bad_twice {c : Str} (h : carB c = true) (us : List Str) (m : Nat) : logW us m [innD c, innD c] = false := by
  rw [logW_inn h]
  split
  · rw [logW_inn h, if_neg fun z => z List.mem_cons_self]
  · rfl
theorem bad_again {c : Str} (h : carB c = true) (us : List Str) (m : Nat) : logW us m [innD c, outD, innD c] = false := by
  rw [logW_inn h]
  split
  · rw [logW_out]
    split
    · rw [logW_inn h, if_neg fun z => z List.mem_cons_self]
    · rfl
  · rfl
theorem bad_car {c : Str} (h : carB c = false) (us : List Str) (m : Nat) (r : List PyData) : logW us m (innD c :: r) = false := logW_odd (by rw [arr_inn]; exact h) rfl
end Ln


set_option Elab.async false
set_option linter.all false
set_option maxRecDepth 100000
set_option maxHeartbeats 2000000
namespace Ln
open PySem PySem.Spec PyProof.Rows L2 GxR
/-! ### repr of values of any plain kind, an empty dict among them -/
structure Rp (d : PyData) (dep wt : Nat) : Prop where
  sh : d.showable = true
  dep : d.depth ≤ dep
  wt : d.weight ≤ wt
  lv : d.leavesShort 13 = true
structure RpA (ds : List PyData) (dep wt : Nat) : Prop where
  sh : PyData.showableAll ds = true
  dep : PyData.depthAll ds ≤ dep
  wt : PyData.weightAll ds ≤ wt
  lv : PyData.leavesShortAll 13 ds = true
def rpB (d : PyData) (dep wt : Nat) : Bool := d.showable && decide (d.depth ≤ dep) && decide (d.weight ≤ wt) && d.leavesShort 13
theorem Rp.dec {d : PyData} {dep wt : Nat} (h : rpB d dep wt = true) : Rp d dep wt := by
  unfold rpB at h
  simp only [Bool.and_eq_true, decide_eq_true_eq] at h
  exact ⟨h.1.1.1, h.1.1.2, h.1.2, h.2⟩
def rpaB (ds : List PyData) (dep wt : Nat) : Bool := PyData.showableAll ds && decide (PyData.depthAll ds ≤ dep) && decide (PyData.weightAll ds ≤ wt) && PyData.leavesShortAll 13 ds
theorem RpA.dec {ds : List PyData} {dep wt : Nat} (h : rpaB ds dep wt = true) : RpA ds dep wt := by
  unfold rpaB at h
  simp only [Bool.and_eq_true, decide_eq_true_eq] at h
  exact ⟨h.1.1.1, h.1.1.2, h.1.2, h.2⟩
theorem RpA.nil {dep : Nat} : RpA [] dep 0 := ⟨rfl, Nat.zero_le _, Nat.le_refl _, rfl⟩
theorem RpA.cons {d : PyData} {ds : List PyData} {dep w1 w2 : Nat} (a : Rp d dep w1) (b : RpA ds dep w2) : RpA (d :: ds) dep (w1 + 1 + w2) := by
  refine ⟨?_, ?_, ?_, ?_⟩
  · rw [PyData.showableAll, a.sh, b.sh]
    rfl
  · have := a.dep
    have := b.dep
    rw [PyData.depthAll]
    omega
  · have := a.wt
    have := b.wt
    rw [PyData.weightAll]
    omega
  · rw [PyData.leavesShortAll, a.lv, b.lv]
    rfl
theorem RpA.mono {ds : List PyData} {a b u v : Nat} (h : RpA ds a u) (h1 : a ≤ b) (h2 : u ≤ v) : RpA ds b v := ⟨h.sh, Nat.le_trans h.dep h1, Nat.le_trans h.wt h2, h.lv⟩
theorem Rp.mono {d : PyData} {a b u v : Nat} (h : Rp d a u) (h1 : a ≤ b) (h2 : u ≤ v) : Rp d b v := ⟨h.sh, Nat.le_trans h.dep h1, Nat.le_trans h.wt h2, h.lv⟩
theorem RpA.app {ds es : List PyData} {dep w1 w2 : Nat} (a : RpA ds dep w1) (b : RpA es dep w2) : RpA (ds ++ es) dep (w1 + w2) := by
  induction ds generalizing w1 with
  | nil => exact b.mono (Nat.le_refl _) (Nat.le_add_left _ _)
  | cons d r ih =>
    have s := a.sh
    have l := a.lv
    have dp := a.dep
    have w := a.wt
    rw [PyData.showableAll, Bool.and_eq_true] at s
    rw [PyData.leavesShortAll, Bool.and_eq_true] at l
    rw [PyData.depthAll] at dp
    rw [PyData.weightAll] at w
    have h := RpA.cons (dep := dep) (w1 := d.weight) ⟨s.1, by omega, Nat.le_refl _, l.1⟩ (ih (w1 := PyData.weightAll r) ⟨s.2, by omega, Nat.le_refl _, l.2⟩)
    exact h.mono (Nat.le_refl _) (by omega)
theorem RpA.list {ds : List PyData} {dep w : Nat} (a : RpA ds dep w) : Rp (.list ds) (dep + 1) w :=
  ⟨by rw [PyData.showable]; exact a.sh, by rw [PyData.depth]; exact Nat.succ_le_succ a.dep, by rw [PyData.weight]; exact a.wt, by rw [PyData.leavesShort]; exact a.lv⟩
theorem RpA.tuple {ds : List PyData} {dep w : Nat} (a : RpA ds dep w) : Rp (.tuple ds) (dep + 1) w :=
  ⟨by rw [PyData.showable]; exact a.sh, by rw [PyData.depth]; exact Nat.succ_le_succ a.dep, by rw [PyData.weight]; exact a.wt, by rw [PyData.leavesShort]; exact a.lv⟩
theorem Rp.gd {d : PyData} {dep w : Nat} (h : Gd d dep w) : Rp d dep w := ⟨h.sh, h.dep, h.wt, PyData.leavesShort_of_canLay0 13 d h.lay h.iss⟩
theorem RpA.map {α : Type} {f : α → PyData} {dep w : Nat} : ∀ (xs : List α), (∀ x ∈ xs, Rp (f x) dep w) → RpA (xs.map f) dep (xs.length * (w + 1))
  | [], _ => by
    rw [List.length_nil, Nat.zero_mul]
    exact .nil
  | x :: r, h => by
    have a := RpA.cons (h x List.mem_cons_self) (RpA.map r fun y hy => h y (List.mem_cons_of_mem _ hy))
    rw [List.length_cons, Nat.succ_mul, Nat.add_comm]
    exact a
theorem RpA.rep {d : PyData} {dep w : Nat} (h : Rp d dep w) : ∀ n : Nat, RpA (List.replicate n d) dep (n * (w + 1))
  | 0 => by
    rw [Nat.zero_mul]
    exact .nil
  | n + 1 => by
    have a := RpA.cons h (RpA.rep h n)
    rw [List.replicate_succ, Nat.succ_mul, Nat.add_comm]
    exact a
theorem Rp.len {d : PyData} {dep w : Nat} (h : Rp d dep w) (hw : w ≤ 1000000) : d.shown.length ≤ sizeLine := by
  have h1 := PyData.shown_le 13 (by decide) d h.lv
  have h2 := h.wt
  rw [sizeLine_eq]
  omega
theorem rp_str {x : Str} (h : carB x = true) : Rp (.str x) 0 4 := Rp.gd (Gd.str (car_ok h) (carLen h))
theorem rp_strs {xs : List Str} (h : ∀ x ∈ xs, carB x = true) (hl : xs.length ≤ 1000) : RpA (xs.map PyData.str) 4 5000 := (RpA.map xs fun x hx => rp_str (h x hx)).mono (by decide) (by omega)
theorem rp_evs {es : List Ev} (h : ∀ c, Ev.inn c ∈ es → carB c = true) (hl : es.length ≤ 200) : RpA (es.map Ev.dat) 4 5000 := (RpA.map es fun e he => Rp.gd (gd_ev fun c z => h c (z ▸ he))).mono (by decide) (by omega)
theorem rpT {X B : List PyData} (hX : RpA X 4 5000) (hB : RpA B 4 1000) : Rp (.tuple (X ++ B)) 5 10000 := (RpA.app hX hB).tuple.mono (by decide) (by decide)
theorem rpL {X B : List PyData} (hX : RpA X 4 5000) (hB : RpA B 4 1000) : Rp (.list (X ++ B)) 5 10000 := (RpA.app hX hB).list.mono (by decide) (by decide)
section
variable {X : Cx} {pins : List (Addr × Obj)} {σ : L2.St} {H : Hp} {s : Shared}
mutual
theorem Dv.repk (I : Inv X pins σ H s) : ∀ (d : PyData) (v : V) (u : Value), Dv X.K H v d → RelV v u → d.showable = true → d.shown.length ≤ sizeLine →
    (∃ as, Reads s.heap u d as) ∧ ∃ bs, ReadAtMost s.heap d.depth bs ∧ ReprK X.prog X.w bs s.heap d.depth u d.shown
  | .none, _, _, h, r, _, _ => by
    cases h
    cases r
    exact ⟨⟨_, Reads.none⟩, [], fun _ z => (nomatch z), by rw [PyData.shown]; exact .of_is ReprIs.none _ _ _⟩
  | .bool b, _, _, h, r, _, _ => by
    cases h
    cases r
    exact ⟨⟨_, Reads.bool b⟩, [], fun _ z => (nomatch z), by rw [PyData.shown]; exact .of_is (ReprIs.bool b) _ _ _⟩
  | .int i, _, _, h, r, hs, _ => by
    cases h
    obtain ⟨t, rfl⟩ := r
    exact ⟨⟨_, Reads.int i t⟩, [], fun _ z => (nomatch z), by rw [PyData.shown]; exact .of_is (ReprIs.int t (by rw [PyData.showable] at hs; exact of_decide_eq_true hs)) _ _ _⟩
  | .str x, _, _, h, r, _, hz => by
    cases h
    obtain ⟨t, rfl⟩ := r
    exact ⟨⟨_, Reads.str x t⟩, [], fun _ z => (nomatch z), by rw [PyData.shown] at hz ⊢; exact .of_is (ReprIs.str x t hz) _ _ _⟩
  | .list ds, _, _, h, r, hs, hz => by
    cases h with
    | lst hq ha =>
      cases r
      obtain ⟨its, rv, ⟨o, n, ho, hc, _, hd⟩, _⟩ := I.list hq
      rw [PyData.showable] at hs
      rw [PyData.shown] at hz
      obtain ⟨⟨as, hr⟩, bs, hb, hk⟩ := DvAll.repk I ds _ its ha rv hs fun t ht => Nat.le_trans (listText_mem_le ht) hz
      have rd := Reads.list ho hc hd hr
      have hna := not_mem_of_deeper rd (n := PyData.depthAll ds) (by rw [PyData.depth]; omega) hb
      refine ⟨⟨_, rd⟩, _ :: bs, ReadAtMost.cons rd (by rw [PyData.depth]; omega) hb, ?_⟩
      rw [PyData.depth, PyData.shown]
      cases its with
      | nil =>
        cases hr
        rw [PyData.shownAll, listText_nil]
        exact ReprK.listEmpty ho hc hd
      | cons y l => exact ReprK.list ho hc hd hna (by simpa using hk.length_eq) fun i y e => hk.item i y (by simpa using e)
  | .tuple ds, _, _, h, r, hs, hz => by
    cases h with
    | tup hq ha =>
      cases r
      obtain ⟨its, rv, ⟨o, ho, hc, n, hd⟩, _⟩ := I.tuple hq
      rw [PyData.showable] at hs
      rw [PyData.shown] at hz
      obtain ⟨⟨as, hr⟩, bs, hb, hk⟩ := DvAll.repk I ds _ its ha rv hs fun t ht => Nat.le_trans (tupleText_mem_le ht) hz
      have rd := Reads.tuple ho hc hd hr
      have hna := not_mem_of_deeper rd (n := PyData.depthAll ds) (by rw [PyData.depth]; omega) hb
      refine ⟨⟨_, rd⟩, _ :: bs, ReadAtMost.cons rd (by rw [PyData.depth]; omega) hb, ?_⟩
      rw [PyData.depth, PyData.shown]
      exact ReprK.tuple ho hc hd hna hk
  | .dict kvs, _, _, h, r, hs, hz => by
    cases h with
    | dic e =>
      cases r
      obtain ⟨_, hsys, vs, kv, o, es, ep, ho, hx, hd, _, hp, _⟩ := dk_of I.hok e
      have e0 : vs = [] := by cases kv; rfl
      subst e0
      have e1 : es.toList = [] := by
        cases q : es.toList with
        | nil => rfl
        | cons a b =>
          rw [q] at hp
          cases hp
      have rd : Reads s.heap (.ref _) (.dict []) _ := Reads.dict (es := es) ho hx.1 hd (by rw [e1]; exact .nil) (by rw [e1]; exact .nil)
      refine ⟨⟨_, rd⟩, [_], ReadAtMost.cons rd (Nat.le_refl _) (fun _ z => nomatch z), ?_⟩
      rw [PyData.depth, PyData.shown]
      exact ReprK.dict ho hx.1 hd hsys (fun z => nomatch z) (by rw [e1]; exact .nil)
theorem DvAll.repk (I : Inv X pins σ H s) : ∀ (ds : List PyData) (vs : List V) (us : List Value), DvAll X.K H vs ds → Vals vs us → PyData.showableAll ds = true → (∀ t ∈ PyData.shownAll ds, t.length ≤ sizeLine) →
    (∃ as, ReadsAll s.heap us ds as) ∧ ∃ bs, ReadAtMost s.heap (PyData.depthAll ds) bs ∧ ReprAllK X.prog X.w bs s.heap (PyData.depthAll ds) us (PyData.shownAll ds)
  | [], _, _, h, r, _, _ => by
    cases h
    cases r
    exact ⟨⟨_, ReadsAll.nil⟩, [], fun _ z => (nomatch z), by rw [PyData.shownAll]; exact .nil⟩
  | d :: ds, _, _, h, r, hs, hz => by
    cases h with
    | cons h1 h2 =>
      cases r with
      | cons r1 r2 =>
        rw [PyData.showableAll, Bool.and_eq_true] at hs
        rw [PyData.shownAll] at hz
        obtain ⟨⟨as, q1⟩, b1, hb1, k1⟩ := Dv.repk I d _ _ h1 r1 hs.1 (hz _ List.mem_cons_self)
        obtain ⟨⟨bs, q2⟩, b2, hb2, k2⟩ := DvAll.repk I ds _ _ h2 r2 hs.2 fun t ht => hz t (List.mem_cons_of_mem _ ht)
        refine ⟨⟨_, ReadsAll.cons q1 q2⟩, b1 ++ b2, fun b hm => ?_, ?_⟩
        · rw [PyData.depthAll]
          rcases List.mem_append.mp hm with hm | hm
          · obtain ⟨d', as', r', h'⟩ := hb1 b hm
            exact ⟨d', as', r', Nat.le_trans h' (Nat.le_max_left _ _)⟩
          · obtain ⟨d', as', r', h'⟩ := hb2 b hm
            exact ⟨d', as', r', Nat.le_trans h' (Nat.le_max_right _ _)⟩
        · rw [PyData.depthAll, PyData.shownAll]
          exact .cons ((k1.more fun b hb => List.mem_append_left _ hb).level_le (Nat.le_max_left _ _)) (k2.more_le (fun b hb => List.mem_append_right _ hb) (Nat.le_max_right _ _))
end
/-- repr of a list, where nothing is being shown -/
def rReprD (K : PySem.W.Frag) : List V → Hp → VK → Prop := fun vs H Q => ∃ (a : Addr) (ds : List PyData) (dep w : Nat), vs = [.ref a] ∧ Dv K H (.ref a) (.list ds) ∧ RpA ds dep w ∧ dep ≤ 50 ∧ w ≤ 1000000 ∧ Q (.str (PyData.shown (.list ds))) H
theorem cr_reprD (hg : X.A.guards = some []) (hu : X.A.units + 64 < cLine) : CallR X (.builtin "repr") (rReprD X.K) := by
  intro pins s σ H vs us Q I r h
  obtain ⟨a, ds, dep, w, rfl, hd, hG, h60, hw, q⟩ := h
  obtain ⟨u, rfl, r1⟩ := vals1 r
  obtain rfl : u = Value.ref a := r1
  have hL := hG.list
  have hz := hL.len hw
  have hdp := hG.dep
  rw [PyData.shown] at hz
  cases hd with
  | lst hq ha =>
    obtain ⟨its, rv, ⟨o, n, ho, hc, _, hd⟩, _⟩ := I.list hq
    obtain ⟨⟨as, hr⟩, bs, hb, hk⟩ := DvAll.repk I ds _ its ha rv hG.sh fun t ht => Nat.le_trans (listText_mem_le ht) hz
    have rd := Reads.list ho hc hd hr
    have hna := not_mem_of_deeper rd (n := PyData.depthAll ds) (by rw [PyData.depth]; omega) hb
    refine call_repr_slot (by omega) (show s.TypeIs (.ref a) "list" from ⟨o, ho, hc⟩) F.slot_list_repr.toG ?_
    have fin : ∀ (h' : Heap) (u : Tok) (tk : _), (∀ b o, s.heap.get? b = some o → h'.get? b = some o) → EP X pins σ Q (.str (PyData.shown (.list ds)) u) { s with heap := h', toks := tk } := fun h' u tk hk => ⟨.str _, H, I.kept hk, ⟨_, rfl⟩, q⟩
    rw [PyData.shown] at fin
    cases its with
    | nil =>
      cases hr
      rw [PyData.shownAll, listText_nil] at fin
      exact call_list_repr_empty ⟨o, ho, hc⟩ ho hd ⟨_, _, rfl, fin s.heap _ _ fun _ _ e => e⟩
    | cons y l =>
      exact call_list_reprK ho hc hd hna (by simpa using hk.length_eq) (fun i y e => hk.item i y (by simpa using e)) hg (fun b _ => Clear.nil b) (by show X.A.units + 1 + (PyData.depthAll ds + 1) < cLine; omega) (fun _ _ e => e) (fun h' u tk hk => ⟨_, _, rfl, fin h' u tk hk⟩) hz
end
end Ln


set_option Elab.async false
set_option linter.all false
set_option maxRecDepth 100000
set_option maxHeartbeats 4000000
namespace Ln
open PySem PySem.Spec PyProof.Rows L2 GxR
theorem scNoLane : FnScope ["bag", "line", "some"] ["bag", "line"] (defScope sNoLane) := ⟨rfl, rfl, rfl, by decide +kernel, rfl, by decide +kernel, by decide +kernel⟩
theorem scNoLog : FnScope ["bag", "initial", "entries", "some"] ["bag", "initial", "entries"] (defScope sNoLog) := ⟨rfl, rfl, rfl, by decide +kernel, rfl, by decide +kernel, by decide +kernel⟩
theorem le_add {a b n m : Nat} (h : a ≤ n) (k : decide (n + b ≤ m) = true) : a + b ≤ m := Nat.le_trans (Nat.add_le_add_right h b) (of_decide_eq_true k)
theorem fa_nil {α : Type} {P : α → Prop} : ∀ d ∈ ([] : List α), P d := fun _ h => nomatch h
theorem fa_cons {α : Type} {P : α → Prop} {a : α} {l : List α} (h : P a) (t : ∀ d ∈ l, P d) : ∀ d ∈ a :: l, P d := fun d hd => by
  rcases List.mem_cons.mp hd with rfl | hd
  · exact h
  · exact t d hd
theorem fa_app {α : Type} {P : α → Prop} {l m : List α} (h : ∀ d ∈ l, P d) (t : ∀ d ∈ m, P d) : ∀ d ∈ l ++ m, P d := fun d hd => (List.mem_append.mp hd).elim (h d) (t d)
theorem sz_flat {d : PyData} (h1 : isTup d = false) (h2 : isLst d = false) : SzA d := ⟨fun es e => (by rw [e] at h1; cases h1), fun es e => (by rw [e] at h2; cases h2)⟩
theorem sz_lst {ds : List PyData} (h : ds.length ≤ 1000) : SzA (.list ds) := ⟨fun _ e => (nomatch e), fun es e => by cases e; exact h⟩
theorem sz_tupL {ds : List PyData} (h : ds.length ≤ 400) : SzA (.tuple ds) := ⟨fun es e => (by cases e; exact h), fun _ e => (nomatch e)⟩
theorem dv_ev {K : PySem.W.Frag} {H : Hp} {a : Addr} {e : Ev} (h : H a = some (.tup e.vals)) (hz : ∀ c, e = .inn c → c.length ≤ sizeLine) : Dv K H (.ref a) (Ev.dat e) := by
  cases e with
  | inn c => exact .tup (SqT.of h) (.cons (.str "in" (by rw [sizeLine_eq]; decide)) (.cons (.str c (hz c rfl)) .nil))
  | out => exact .tup (SqT.of h) (.cons (.str "out" (by rw [sizeLine_eq]; decide)) .nil)
theorem dv_evs {K : PySem.W.Frag} {H : Hp} : ∀ {as : List Addr} {es : List Ev}, EvT H as es → (∀ c, Ev.inn c ∈ es → c.length ≤ sizeLine) → DvAll K H (as.map V.ref) (es.map Ev.dat)
  | _, _, .nil, _ => .nil
  | _, _, .cons h t, hz => .cons (dv_ev h fun c e => hz c (e ▸ List.mem_cons_self)) (dv_evs t fun c hc => hz c (List.mem_cons_of_mem _ hc))
theorem evt_off {H : Hp} {s0 : Addr} {l : List V} (hs : H s0 = some (.lst l)) : ∀ {as : List Addr} {es : List Ev}, EvT H as es → EvT (offH H s0) as es
  | _, _, .nil => .nil
  | _, _, .cons h t => .cons (by rw [off_at fun z => by rw [z, hs] at h; cases h]; exact h) (evt_off hs t)
theorem ix_first {α : Type} {X : List α} {x : α} : ixN (x :: X).length 0 = some 0 := by
  unfold ixN
  simp
theorem ix_last {α : Type} {X : List α} {x : α} : ixN (x :: X).length (-1) = some X.length := by
  unfold ixN
  rw [if_neg (by decide), if_pos (by simp; omega)]
  congr 1
  simp
  omega
/-- the menu of what is no lane -/
def menL1 (X : List PyData) : List PyData := [.none, .list X, .tuple (X ++ [.str "yy", .str "yy"]), .tuple (X ++ [.str "A"]), .tuple (X ++ [.str "abcde"]), .tuple (X ++ [.str ""]), .tuple (X ++ [.int 1]), .str "ab"]
def menL2 (X : List PyData) : List PyData := [.dict [], .int 5, .tuple (X ++ [.none]), .tuple (X ++ [.tuple [.str "a"]]), .tuple (X ++ [.str "a b"]), .bool true]
theorem last_at (x : Str) (r : List Str) : ((x :: r).map PyData.str)[r.length]? = some (.str ((x :: r).getLast (by simp))) := by
  rw [List.getElem?_map, List.getLast_eq_getElem]
  simp
theorem lenG {K : PySem.W.Frag} {s0 : Addr} {Γ : List (Nat × PyData)} {σ : L2.St} {H : Hp} {Q : VK} {i : Nat} {X : List PyData} (m : (i, .tuple X) ∈ Γ) (en : EnvD K s0 Γ σ H) (q : Q (.int (X.length : Nat)) H) :
    tCB (fun xs H Q => ∃ p ys, xs = [.ref p] ∧ (SqL K H p ys ∨ SqT K H p ys) ∧ Q (.int ys.length) H) (tCons (tVar i) tNil) σ H Q := by
  obtain ⟨v, ev, dt⟩ := en _ m
  cases dt.dv with
  | @tup a ys _ s1 c1 =>
    refine ⟨_, ev, a, ys, rfl, .inr (sqT_sm s1 off_sub), ?_⟩
    rw [c1.len]
    exact q
/-- the menu of what is no log -/
def menA (Es : List PyData) (n : Nat) : List PyData := [.none, .tuple Es, .list (List.replicate (n + 1) outD), .list (Es ++ [innD "yy", innD "yy"]), .list [.tuple [.str "out", .int 0]]]
def menB (Es : List PyData) : List PyData := [.list [.list [.str "out"]], .list [.str "out"], .list (Es ++ [innD "A"]), .list [.tuple [.str "off"]], .list [.tuple [.str "in"]], .dict [], .list [.tuple [.str "in", .str "yy", .int 1]], .list [.none], .int 3]
def menC : List PyData := [.list [.tuple [.str "in", .list [.str "a"]]], .list [.tuple [.str "in", .none]], .list [.tuple [.str "IN", .str "yy"]], .list [innD "yy", outD, innD "yy"], .list [.tuple []]]
def menD (x y : Str) (n : Nat) : List PyData := [.list [innD x], .list (List.replicate n outD ++ [innD y])]
theorem car_yy : carB "yy" = true := by decide +kernel
theorem car_A : carB "A" = false := by decide +kernel
theorem men_bad {xs : List Str} {Es : List PyData} (few : xs.length ≤ 100) (few2 : Es.length ≤ 200) (hR : RpA Es 4 5000) : ∀ d ∈ menA Es xs.length ++ menB Es ++ menC, logD xs d = false ∧ SzA d ∧ Rp d 5 10000 :=
  fa_app (fa_app
    (fa_cons ⟨rfl, sz_flat rfl rfl, .dec (by decide +kernel)⟩ (fa_cons ⟨rfl, sz_tupL (by omega), hR.tuple.mono (by decide) (by decide)⟩ (fa_cons ⟨bad_outs, sz_lst (by rw [List.length_replicate]; omega), (RpA.rep (d := outD) (dep := 1) (w := 10) (.dec (by decide +kernel)) _).list.mono (by decide) (by omega)⟩ (fa_cons ⟨logW_pre (fun us m => bad_twice car_yy us m) _ _ _, sz_lst (by rw [List.length_append]; exact le_add few2 (by decide)), rpL hR (.dec (by decide +kernel))⟩ (fa_cons ⟨logW_odd (by decide +kernel) (by decide +kernel), sz_lst (by decide), .dec (by decide +kernel)⟩ fa_nil)))))
    (fa_cons ⟨logW_odd (by decide +kernel) (by decide +kernel), sz_lst (by decide), .dec (by decide +kernel)⟩ (fa_cons ⟨logW_odd (by decide +kernel) (by decide +kernel), sz_lst (by decide), .dec (by decide +kernel)⟩ (fa_cons ⟨logW_pre (fun us m => bad_car car_A us m []) _ _ _, sz_lst (by rw [List.length_append]; exact le_add few2 (by decide)), rpL hR (.dec (by decide +kernel))⟩ (fa_cons ⟨logW_odd (by decide +kernel) (by decide +kernel), sz_lst (by decide), .dec (by decide +kernel)⟩ (fa_cons ⟨logW_odd (by decide +kernel) (by decide +kernel), sz_lst (by decide), .dec (by decide +kernel)⟩
      (fa_cons ⟨rfl, sz_flat rfl rfl, .dec (by decide +kernel)⟩ (fa_cons ⟨logW_odd (by decide +kernel) (by decide +kernel), sz_lst (by decide), .dec (by decide +kernel)⟩ (fa_cons ⟨logW_odd (by decide +kernel) (by decide +kernel), sz_lst (by decide), .dec (by decide +kernel)⟩ (fa_cons ⟨rfl, sz_flat rfl rfl, .dec (by decide +kernel)⟩ fa_nil))))))))))
    (fa_cons ⟨logW_odd (by decide +kernel) (by decide +kernel), sz_lst (by decide), .dec (by decide +kernel)⟩ (fa_cons ⟨logW_odd (by decide +kernel) (by decide +kernel), sz_lst (by decide), .dec (by decide +kernel)⟩ (fa_cons ⟨logW_odd (by decide +kernel) (by decide +kernel), sz_lst (by decide), .dec (by decide +kernel)⟩ (fa_cons ⟨bad_again car_yy _ _, sz_lst (by decide), .dec (by decide +kernel)⟩ (fa_cons ⟨logW_odd (by decide +kernel) (by decide +kernel), sz_lst (by decide), .dec (by decide +kernel)⟩ fa_nil)))))
theorem rp_inn {c : Str} (h : carB c = true) : Rp (innD c) 1 20 := Rp.gd (gd_ev (e := .inn c) fun d z => by cases z; exact h)
theorem men_bad2 {xs : List Str} {x y : Str} (few : xs.length ≤ 100) (hx : x ∈ xs) (hy : y ∈ xs) (hcx : ∀ x ∈ xs, carB x = true) : ∀ d ∈ menD x y xs.length, logD xs d = false ∧ SzA d ∧ Rp d 5 10000 :=
  fa_cons ⟨by show logW xs xs.length [innD x] = false; rw [logW_inn (hcx x hx), if_neg fun z => z hx], sz_lst (of_decide_eq_true (p := 1 ≤ 1000) rfl), (RpA.cons (rp_inn (hcx x hx)) .nil).list.mono (by decide) (by decide)⟩
    (fa_cons ⟨bad_back hy (hcx y hy), sz_lst (by rw [List.length_append, List.length_replicate]; exact le_add few (by exact rfl)), (RpA.app (RpA.rep (d := outD) (dep := 1) (w := 20) (.dec (by decide +kernel)) _) (RpA.cons (rp_inn (hcx y hy)) .nil)).list.mono (by decide) (by omega)⟩ fa_nil)
section
variable {P : Program} {w : World} {K : PySem.W.Frag} {mg : Str → Option Value} {base : Heap} {Ps : List Addr}
def spNoLane (K : PySem.W.Frag) : Sp := fun vs H Q _ => ∃ (s0 t : Addr) (l : List V) (n : Nat) (xs : List Str), vs = [.ref s0, .ref t] ∧ H s0 = some (.lst l) ∧ SrcV n l ∧ n + 10 ≤ 1000000 ∧ SqT K H t (xs.map V.str) ∧ xs.length ≤ 300 ∧ (∀ x ∈ xs, carB x = true) ∧
  ∀ (H' : Hp) (v : V) (d : PyData) (l' : List V), Ch s0 H H' → H' s0 = some (.lst l') → SrcV (n + 1) l' → Dv K (offH H' s0) v d → laneD d = false → SzA d → Rp d 5 10000 → Q v H'
theorem ok_noLane {f fT : Addr} {fd fdT : FuncData} (F : Fun K "_law_no_lane" "_law_no_lane" sNoLane f fd) (B : Bi mg)
    (GT : FnOk P w K mg base CX0 1 fT fdT ["bag", "limit"] spTake) (mgT : mg "_law_take" = some (.ref fT)) (kT : PySem.W.keepIn K (.ref fT) = true) (bT : Binds K fdT ["bag", "limit"] []) : FnOk P w K mg base CX0 2 f fd ["bag", "line"] (spNoLane K) := by
  refine F.ok scNoLane (fun vs H Q E h => ?_) (fun cdv A outer s H vs Q E hr h => ?_)
  · obtain ⟨s0, t, l, n, xs, rfl, _⟩ := h
    rfl
  · obtain ⟨s0, t, l, n, xs, rfl, hs, hl, hn, hT, few, hcx, q⟩ := h
    have hsz : ∀ x ∈ xs, x.length ≤ sizeLine := fun x hx => by have := carLen (hcx x hx); rw [sizeLine_eq]; omega
    have hR := rp_strs hcx (by omega)
    have hX : (xs.map PyData.str).length ≤ 300 := by rw [List.length_map]; exact few
    refine ⟨_, pss_cons (ps_set (i := 2) scNoLane.nd rfl (.inl rfl) (g_lst (s0 := s0) (Γ := [(1, .tuple (xs.map PyData.str))]) (ga_cons g_non (ga_cons (g_list (pe_callTy call_list_of (by rfl) B.lst (by decide +kernel) (pa_cons (g_var (pv 1) List.mem_cons_self) pa_nil)))
        (ga_cons (g_catT (g_var (pv 1) List.mem_cons_self) (g_tup (ga_cons g_str (ga_cons g_str ga_nil))) (le_add hX (by decide)))
        (ga_cons (g_catT (g_var (pv 1) List.mem_cons_self) (g_tup (ga_cons g_str ga_nil)) (le_add hX (by decide)))
        (ga_cons (g_catT (g_var (pv 1) List.mem_cons_self) (g_tup (ga_cons g_str ga_nil)) (le_add hX (by decide)))
        (ga_cons (g_catT (g_var (pv 1) List.mem_cons_self) (g_tup (ga_cons g_str ga_nil)) (le_add hX (by decide)))
        (ga_cons (g_catT (g_var (pv 1) List.mem_cons_self) (g_tup (ga_cons g_int ga_nil)) (le_add hX (by decide)))
        (ga_cons g_str ga_nil))))))))))
      (pss_cons (ps_set (i := 2) scNoLane.nd rfl (.inl rfl) (g_cat (s0 := s0) (Γ := [(2, .list (menL1 (xs.map PyData.str))), (1, .tuple (xs.map PyData.str))]) (g_var (pv 2) List.mem_cons_self) (g_lst (ga_cons g_dic (ga_cons g_int
        (ga_cons (g_catT (g_var (pv 1) (List.mem_cons_of_mem _ List.mem_cons_self)) (g_tup (ga_cons g_non ga_nil)) (le_add hX (by decide)))
        (ga_cons (g_catT (g_var (pv 1) (List.mem_cons_of_mem _ List.mem_cons_self)) (g_tup (ga_cons (g_tup (ga_cons g_str ga_nil)) ga_nil)) (le_add hX (by decide)))
        (ga_cons (g_catT (g_var (pv 1) (List.mem_cons_of_mem _ List.mem_cons_self)) (g_tup (ga_cons g_str ga_nil)) (le_add hX (by decide)))
        (ga_cons g_bl ga_nil))))))) (of_decide_eq_true (p := 14 ≤ 10000) (by decide))))
      (pss_one (ps_ret (g_pick (s0 := s0) (Γ := [(2, .list (menL1 (xs.map PyData.str) ++ menL2 (xs.map PyData.str)))]) (pe_ix ix_list (pv 2) (pe_call GT hr (by rfl) mgT kT bT .nil pass0 (pa_cons (pv 0) (pa_cons (pe_callB call_len_seq (by rfl) B.len PySem.boot_len (pa_cons (pv 2) pa_nil)) pa_nil))) (fun _ _ => rfl)) List.mem_cons_self)))), ?_⟩
    have dt : Dt K s0 H (.ref t) (.tuple (xs.map PyData.str)) := .of (.tup (off_seqT hT hs) (dv_strs xs hsz)) fun _ z => nomatch z
    refine ⟨⟨l, hs⟩, .cons rfl dt .nil, fun H1 v1 k1 d1 => ⟨⟨l, k1 _ _ hs⟩, .cons rfl d1 (.cons rfl (dt.same k1) .nil), fun H2 v2 k2 d2 => ?_⟩⟩
    have hs2 := k2 _ _ (k1 _ _ hs)
    refine ⟨l, n, rfl, hs2, hl, by omega, .cons rfl d2 .nil, by show 0 < 14; decide, by show 14 ≤ 1000; decide, fun H' v d l' ch e' sl hm dv => ?_⟩
    have bad := fa_app (l := menL1 (xs.map PyData.str)) (P := fun d => laneD d = false ∧ SzA d ∧ Rp d 5 10000)
      (fa_cons ⟨rfl, sz_flat rfl rfl, .dec (by decide +kernel)⟩ (fa_cons ⟨rfl, sz_lst (by omega), hR.list.mono (by decide) (by decide)⟩ (fa_cons ⟨lane_bad (.inr ⟨_, rfl, by decide +kernel⟩), sz_tup (le_add few (by decide)), rpT hR (.dec (by decide +kernel))⟩ (fa_cons ⟨lane_bad (.inr ⟨_, rfl, by decide +kernel⟩), sz_tup (le_add few (by decide)), rpT hR (.dec (by decide +kernel))⟩ (fa_cons ⟨lane_bad (.inr ⟨_, rfl, by decide +kernel⟩), sz_tup (le_add few (by decide)), rpT hR (.dec (by decide +kernel))⟩
        (fa_cons ⟨lane_bad (.inr ⟨_, rfl, by decide +kernel⟩), sz_tup (le_add few (by decide)), rpT hR (.dec (by decide +kernel))⟩ (fa_cons ⟨lane_bad (.inl rfl), sz_tup (le_add few (by decide)), rpT hR (.dec (by decide +kernel))⟩ (fa_cons ⟨rfl, sz_flat rfl rfl, .dec (by decide +kernel)⟩ fa_nil))))))))
      (m := menL2 (xs.map PyData.str))
      (fa_cons ⟨rfl, sz_flat rfl rfl, .dec (by decide +kernel)⟩ (fa_cons ⟨rfl, sz_flat rfl rfl, .dec (by decide +kernel)⟩ (fa_cons ⟨lane_bad (.inl rfl), sz_tup (le_add few (by decide)), rpT hR (.dec (by decide +kernel))⟩ (fa_cons ⟨lane_bad (.inl rfl), sz_tup (le_add few (by decide)), rpT hR (.dec (by decide +kernel))⟩ (fa_cons ⟨lane_bad (.inr ⟨_, rfl, by decide +kernel⟩), sz_tup (le_add few (by decide)), rpT hR (.dec (by decide +kernel))⟩ (fa_cons ⟨rfl, sz_flat rfl rfl, .dec (by decide +kernel)⟩ fa_nil)))))) d hm
    exact q H' v d l' (((Ch.refl.sm k1).sm k2).trans ch) e' sl dv bad.1 bad.2.1 bad.2.2
def spNoLog (K : PySem.W.Frag) : Sp := fun vs H Q _ => ∃ (s0 t o : Addr) (l : List V) (n : Nat) (xs : List Str) (as : List Addr) (es : List Ev), vs = [.ref s0, .ref t, .ref o] ∧ H s0 = some (.lst l) ∧ SrcV n l ∧ n + 10 ≤ 1000000 ∧ SqT K H t (xs.map V.str) ∧ H o = some (.lst (as.map V.ref)) ∧ o ≠ s0 ∧ EvT H as es ∧ xs.length ≤ 100 ∧ es.length ≤ 200 ∧ (∀ x ∈ xs, carB x = true) ∧ (∀ c, Ev.inn c ∈ es → carB c = true) ∧
  ∀ (H' : Hp) (v : V) (d : PyData) (l' : List V), Ch s0 H H' → H' s0 = some (.lst l') → SrcV (n + 1) l' → Dv K (offH H' s0) v d → logD xs d = false → SzA d → Rp d 5 10000 → Q v H'
theorem ok_noLog {f fT : Addr} {fd fdT : FuncData} (F : Fun K "_law_no_log" "_law_no_log" sNoLog f fd) (B : Bi mg)
    (GT : FnOk P w K mg base CX0 1 fT fdT ["bag", "limit"] spTake) (mgT : mg "_law_take" = some (.ref fT)) (kT : PySem.W.keepIn K (.ref fT) = true) (bT : Binds K fdT ["bag", "limit"] []) : FnOk P w K mg base CX0 2 f fd ["bag", "initial", "entries"] (spNoLog K) := by
  refine F.ok scNoLog (fun vs H Q E h => ?_) (fun cdv A outer s H vs Q E hr h => ?_)
  · obtain ⟨s0, t, o, l, n, xs, as, es, rfl, _⟩ := h
    rfl
  · obtain ⟨s0, t, o, l, n, xs, as, es, rfl, hs, hl, hn, hT, hO, no, hE, few, few2, hcx, hce, q⟩ := h
    have hu : A.units + 3 + 64 < cLine := hr.units
    have hE2 : (es.map Ev.dat).length ≤ 200 := by rw [List.length_map]; exact few2
    have hsz : ∀ x ∈ xs, x.length ≤ sizeLine := fun x hx => by have := carLen (hcx x hx); rw [sizeLine_eq]; omega
    have hE2 : (es.map Ev.dat).length ≤ 200 := by rw [List.length_map]; exact few2
    cases xs with
    | nil =>
      refine ⟨_, pss_cons (ps_set (i := 3) scNoLog.nd rfl (.inl rfl) (g_lst (s0 := s0) (Γ := [(1, .tuple (([] : List Str).map PyData.str)), (2, .list (es.map Ev.dat))]) (ga_cons g_non (ga_cons (g_tuple (pe_callTy call_tuple_of (by rfl) B.tup (by decide +kernel) (pa_cons (g_var (pv 2) (List.mem_cons_of_mem _ List.mem_cons_self)) pa_nil))) (ga_cons (g_rep (n := 0 + 1) (g_lst (ga_cons (g_tup (ga_cons g_str ga_nil)) ga_nil)) (pe_op op_add (pe_callB call_len_seq (by rfl) B.len PySem.boot_len (pa_cons (pv 1) pa_nil)) pe_int) (fun _ _ _ en q => lenG List.mem_cons_self en ⟨_, _, rfl, rfl, by rw [List.length_map]; exact q⟩) (by omega)) (ga_cons (g_cat (g_var (pv 2) (List.mem_cons_of_mem _ List.mem_cons_self)) (g_lst (ga_cons (g_tup (ga_cons g_str (ga_cons g_str ga_nil))) (ga_cons (g_tup (ga_cons g_str (ga_cons g_str ga_nil))) ga_nil))) (le_add hE2 (by decide))) (ga_cons (g_lst (ga_cons (g_tup (ga_cons g_str (ga_cons g_int ga_nil))) ga_nil)) ga_nil)))))))
      (pss_cons (ps_set (i := 3) scNoLog.nd rfl (.inl rfl) (g_cat (s0 := s0) (Γ := (3, .list (menA (es.map Ev.dat) 0)) :: [(1, .tuple (([] : List Str).map PyData.str)), (2, .list (es.map Ev.dat))]) (g_var (pv 3) List.mem_cons_self) (g_lst (ga_cons (g_lst (ga_cons (g_lst (ga_cons g_str ga_nil)) ga_nil)) (ga_cons (g_lst (ga_cons g_str ga_nil)) (ga_cons (g_cat (g_var (pv 2) (List.mem_cons_of_mem _ (List.mem_cons_of_mem _ List.mem_cons_self))) (g_lst (ga_cons (g_tup (ga_cons g_str (ga_cons g_str ga_nil))) ga_nil)) (le_add hE2 (by decide))) (ga_cons (g_lst (ga_cons (g_tup (ga_cons g_str ga_nil)) ga_nil)) (ga_cons (g_lst (ga_cons (g_tup (ga_cons g_str ga_nil)) ga_nil)) (ga_cons g_dic (ga_cons (g_lst (ga_cons (g_tup (ga_cons g_str (ga_cons g_str (ga_cons g_int ga_nil)))) ga_nil)) (ga_cons (g_lst (ga_cons g_non ga_nil)) (ga_cons g_int ga_nil)))))))))) (of_decide_eq_true (p := 14 ≤ 10000) (by decide))))
      (pss_cons (ps_set (i := 3) scNoLog.nd rfl (.inl rfl) (g_cat (s0 := s0) (Γ := [(3, .list (menA (es.map Ev.dat) 0 ++ menB (es.map Ev.dat)))]) (g_var (pv 3) List.mem_cons_self) (g_lst (ga_cons (g_lst (ga_cons (g_tup (ga_cons g_str (ga_cons (g_lst (ga_cons g_str ga_nil)) ga_nil))) ga_nil)) (ga_cons (g_lst (ga_cons (g_tup (ga_cons g_str (ga_cons g_non ga_nil))) ga_nil)) (ga_cons (g_lst (ga_cons (g_tup (ga_cons g_str (ga_cons g_str ga_nil))) ga_nil)) (ga_cons (g_lst (ga_cons (g_tup (ga_cons g_str (ga_cons g_str ga_nil))) (ga_cons (g_tup (ga_cons g_str ga_nil)) (ga_cons (g_tup (ga_cons g_str (ga_cons g_str ga_nil))) ga_nil)))) (ga_cons (g_lst (ga_cons (g_tup ga_nil) ga_nil)) ga_nil)))))) (of_decide_eq_true (p := 19 ≤ 10000) (by decide))))
      (pss_cons (ps_if (pt_cmpR (op_neD hu) (pv 1) (pe_tup pa_nil) (nomark _)) pss_dead pss_nil)
      (pss_one (ps_ret (g_pick (s0 := s0) (Γ := [(3, .list (menA (es.map Ev.dat) 0 ++ menB (es.map Ev.dat) ++ menC))]) (pe_ix ix_list (pv 3) (pe_call GT hr (by rfl) mgT kT bT .nil pass0 (pa_cons (pv 0) (pa_cons (pe_callB call_len_seq (by rfl) B.len PySem.boot_len (pa_cons (pv 3) pa_nil)) pa_nil))) (fun _ _ => rfl)) List.mem_cons_self)))))), ?_⟩
      have dT : ∀ {H' : Hp}, L2.Same H H' → Dt K s0 H' (.ref t) (.tuple (([] : List Str).map PyData.str)) := fun {H'} k => .of (.tup (off_seqT (sqT_sm hT k) (k _ _ hs)) (dv_strs _ hsz)) fun _ z => nomatch z
      have dO : Dt K s0 H (.ref o) (.list (es.map Ev.dat)) := by
        have dv := dv_evs (K := K) (evt_off hs hE) fun c hc => by have := carLen (hce c hc); rw [sizeLine_eq]; omega
        exact ⟨.lst (SqL.of (by rw [off_at no]; exact hO)) dv, fun ds e => by cases e; exact ⟨o, _, rfl, hO, no, dv⟩⟩
      refine ⟨⟨l, hs⟩, .cons rfl (dT sm_refl) (.cons rfl dO .nil), fun H1 v1 k1 d1 => ⟨⟨l, k1 _ _ hs⟩, .cons rfl d1 (.cons rfl (dT k1) (.cons rfl (dO.same k1) .nil)), fun H2 v2 k2 d2 => ⟨⟨l, k2 _ _ (k1 _ _ hs)⟩, .cons rfl d2 .nil, fun H3 v3 k3 d3 => ?_⟩⟩⟩
      have k3 := sm_trans k1 (sm_trans k2 k3)
      refine ⟨.ref t, rfl, by show 0 ≤ sizeLine; decide, fun e he => ⟨.tuple (([] : List Str).map PyData.str), .tuple [], .tup (sqT_sm hT (sm_trans k3 (sm_new sm_refl he))) (dp_str _), .tup (SqT.of (xs := []) upd_same) .nil, shapedT _ hcx, shapedT [] (fun _ h => nomatch h), _, rfl, ?_⟩⟩
      rw [eqv_nilT]
      have k4 : L2.Same H3 (upd H3 e (.tup [])) := sm_new sm_refl he
      generalize upd H3 e (.tup []) = H4 at k4 ⊢
      refine iteF ⟨l, n, rfl, k4 _ _ (k3 _ _ hs), hl, by omega, .cons rfl (d3.same k4) .nil, by show 0 < 19; decide, by show 19 ≤ 1000; decide, fun H' v d l' ch e' sl hm dv => ?_⟩
      have bad := men_bad (xs := []) (Es := es.map Ev.dat) few hE2 (rp_evs hce few2) d hm
      exact q H' v d l' (((Ch.refl.sm k3).sm k4).trans ch) e' sl dv bad.1 bad.2.1 bad.2.2
    | cons x0 r =>
      have hR : (List.replicate (x0 :: r).length outD).length ≤ 100 := by rw [List.length_replicate]; exact few
      have hlen : (x0 :: r).length ≤ 100 := few
      refine ⟨_, pss_cons (ps_set (i := 3) scNoLog.nd rfl (.inl rfl) (g_lst (s0 := s0) (Γ := [(1, .tuple ((x0 :: r).map PyData.str)), (2, .list (es.map Ev.dat))]) (ga_cons g_non (ga_cons (g_tuple (pe_callTy call_tuple_of (by rfl) B.tup (by decide +kernel) (pa_cons (g_var (pv 2) (List.mem_cons_of_mem _ List.mem_cons_self)) pa_nil))) (ga_cons (g_rep (n := (x0 :: r).length + 1) (g_lst (ga_cons (g_tup (ga_cons g_str ga_nil)) ga_nil)) (pe_op op_add (pe_callB call_len_seq (by rfl) B.len PySem.boot_len (pa_cons (pv 1) pa_nil)) pe_int) (fun _ _ _ en q => lenG List.mem_cons_self en ⟨_, _, rfl, rfl, by rw [List.length_map]; exact q⟩) (by omega)) (ga_cons (g_cat (g_var (pv 2) (List.mem_cons_of_mem _ List.mem_cons_self)) (g_lst (ga_cons (g_tup (ga_cons g_str (ga_cons g_str ga_nil))) (ga_cons (g_tup (ga_cons g_str (ga_cons g_str ga_nil))) ga_nil))) (le_add hE2 (by decide))) (ga_cons (g_lst (ga_cons (g_tup (ga_cons g_str (ga_cons g_int ga_nil))) ga_nil)) ga_nil)))))))
      (pss_cons (ps_set (i := 3) scNoLog.nd rfl (.inl rfl) (g_cat (s0 := s0) (Γ := (3, .list (menA (es.map Ev.dat) (x0 :: r).length)) :: [(1, .tuple ((x0 :: r).map PyData.str)), (2, .list (es.map Ev.dat))]) (g_var (pv 3) List.mem_cons_self) (g_lst (ga_cons (g_lst (ga_cons (g_lst (ga_cons g_str ga_nil)) ga_nil)) (ga_cons (g_lst (ga_cons g_str ga_nil)) (ga_cons (g_cat (g_var (pv 2) (List.mem_cons_of_mem _ (List.mem_cons_of_mem _ List.mem_cons_self))) (g_lst (ga_cons (g_tup (ga_cons g_str (ga_cons g_str ga_nil))) ga_nil)) (le_add hE2 (by decide))) (ga_cons (g_lst (ga_cons (g_tup (ga_cons g_str ga_nil)) ga_nil)) (ga_cons (g_lst (ga_cons (g_tup (ga_cons g_str ga_nil)) ga_nil)) (ga_cons g_dic (ga_cons (g_lst (ga_cons (g_tup (ga_cons g_str (ga_cons g_str (ga_cons g_int ga_nil)))) ga_nil)) (ga_cons (g_lst (ga_cons g_non ga_nil)) (ga_cons g_int ga_nil)))))))))) (of_decide_eq_true (p := 14 ≤ 10000) (by decide))))
      (pss_cons (ps_set (i := 3) scNoLog.nd rfl (.inl rfl) (g_cat (s0 := s0) (Γ := [(3, .list (menA (es.map Ev.dat) (x0 :: r).length ++ menB (es.map Ev.dat)))]) (g_var (pv 3) List.mem_cons_self) (g_lst (ga_cons (g_lst (ga_cons (g_tup (ga_cons g_str (ga_cons (g_lst (ga_cons g_str ga_nil)) ga_nil))) ga_nil)) (ga_cons (g_lst (ga_cons (g_tup (ga_cons g_str (ga_cons g_non ga_nil))) ga_nil)) (ga_cons (g_lst (ga_cons (g_tup (ga_cons g_str (ga_cons g_str ga_nil))) ga_nil)) (ga_cons (g_lst (ga_cons (g_tup (ga_cons g_str (ga_cons g_str ga_nil))) (ga_cons (g_tup (ga_cons g_str ga_nil)) (ga_cons (g_tup (ga_cons g_str (ga_cons g_str ga_nil))) ga_nil)))) (ga_cons (g_lst (ga_cons (g_tup ga_nil) ga_nil)) ga_nil)))))) (of_decide_eq_true (p := 19 ≤ 10000) (by decide))))
      (pss_cons (ps_if (pt_cmpR (op_neD hu) (pv 1) (pe_tup pa_nil) (nomark _)) (pss_one (ps_set (i := 3) scNoLog.nd rfl (.inl rfl) (g_cat (s0 := s0) (Γ := (3, .list (menA (es.map Ev.dat) (x0 :: r).length ++ menB (es.map Ev.dat) ++ menC)) :: [(1, .tuple ((x0 :: r).map PyData.str)), (2, .list (es.map Ev.dat))]) (g_var (pv 3) List.mem_cons_self) (g_lst (ga_cons (g_lst (ga_cons (g_tup (ga_cons g_str (ga_cons (g_ixT (i := 0) (k := 0) (g_var (pv 1) (List.mem_cons_of_mem _ List.mem_cons_self)) pe_int (fun _ _ _ q => q) ix_first rfl (fun _ z => nomatch z) (fun _ _ => rfl)) ga_nil))) ga_nil)) (ga_cons (g_cat (g_rep (n := (x0 :: r).length) (g_lst (ga_cons (g_tup (ga_cons g_str ga_nil)) ga_nil)) (pe_callB call_len_seq (by rfl) B.len PySem.boot_len (pa_cons (pv 1) pa_nil)) (fun _ _ _ en q => lenG (List.mem_cons_of_mem _ List.mem_cons_self) en (by rw [List.length_map]; exact q)) (by omega)) (g_lst (ga_cons (g_tup (ga_cons g_str (ga_cons (g_ixT (i := -1) (k := (r.map PyData.str).length) (d := .str ((x0 :: r).getLast (by simp))) (g_var (pv 1) (List.mem_cons_of_mem _ List.mem_cons_self)) (pe_un un_neg pe_int) (fun _ _ _ q => ⟨1, rfl, q⟩) ix_last (by rw [List.length_map]; exact last_at x0 r) (fun _ z => nomatch z) (fun _ _ => rfl)) ga_nil))) ga_nil)) (le_add hR (by exact rfl))) ga_nil))) (of_decide_eq_true (p := 21 ≤ 10000) (by decide))))) pss_nil)
      (pss_one (ps_ret (g_pick (s0 := s0) (Γ := [(3, .list (menA (es.map Ev.dat) (x0 :: r).length ++ menB (es.map Ev.dat) ++ menC ++ menD x0 ((x0 :: r).getLast (by simp)) (x0 :: r).length))]) (pe_ix ix_list (pv 3) (pe_call GT hr (by rfl) mgT kT bT .nil pass0 (pa_cons (pv 0) (pa_cons (pe_callB call_len_seq (by rfl) B.len PySem.boot_len (pa_cons (pv 3) pa_nil)) pa_nil))) (fun _ _ => rfl)) List.mem_cons_self)))))), ?_⟩
      have dT : ∀ {H' : Hp}, L2.Same H H' → Dt K s0 H' (.ref t) (.tuple ((x0 :: r).map PyData.str)) := fun {H'} k => .of (.tup (off_seqT (sqT_sm hT k) (k _ _ hs)) (dv_strs _ hsz)) fun _ z => nomatch z
      have dO : Dt K s0 H (.ref o) (.list (es.map Ev.dat)) := by
        have dv := dv_evs (K := K) (evt_off hs hE) fun c hc => by have := carLen (hce c hc); rw [sizeLine_eq]; omega
        exact ⟨.lst (SqL.of (by rw [off_at no]; exact hO)) dv, fun ds e => by cases e; exact ⟨o, _, rfl, hO, no, dv⟩⟩
      refine ⟨⟨l, hs⟩, .cons rfl (dT sm_refl) (.cons rfl dO .nil), fun H1 v1 k1 d1 => ⟨⟨l, k1 _ _ hs⟩, .cons rfl d1 (.cons rfl (dT k1) (.cons rfl (dO.same k1) .nil)), fun H2 v2 k2 d2 => ⟨⟨l, k2 _ _ (k1 _ _ hs)⟩, .cons rfl d2 .nil, fun H3 v3 k3 d3 => ?_⟩⟩⟩
      have k3 := sm_trans k1 (sm_trans k2 k3)
      refine ⟨.ref t, rfl, by show 0 ≤ sizeLine; decide, fun e he => ⟨.tuple ((x0 :: r).map PyData.str), .tuple [], .tup (sqT_sm hT (sm_trans k3 (sm_new sm_refl he))) (dp_str _), .tup (SqT.of (xs := []) upd_same) .nil, shapedT _ hcx, shapedT [] (fun _ h => nomatch h), _, rfl, ?_⟩⟩
      rw [eqv_nilT]
      have k4 : L2.Same H3 (upd H3 e (.tup [])) := sm_new sm_refl he
      generalize upd H3 e (.tup []) = H4 at k4 ⊢
      refine iteT ⟨⟨l, k4 _ _ (k3 _ _ hs)⟩, .cons rfl (d3.same k4) (.cons rfl (dT (sm_trans k3 k4)) (.cons rfl (dO.same (sm_trans k3 k4)) .nil)), fun H5 v5 k5 d5 => ?_⟩
      have k5 := sm_trans k3 (sm_trans k4 k5)
      refine ⟨l, n, rfl, k5 _ _ hs, hl, by omega, .cons rfl d5 .nil, by show 0 < 21; decide, by show 21 ≤ 1000; decide, fun H' v d l' ch e' sl hm dv => ?_⟩
      have bad := fa_app (men_bad (xs := x0 :: r) (Es := es.map Ev.dat) few hE2 (rp_evs hce few2)) (men_bad2 few List.mem_cons_self (List.getLast_mem (by simp)) hcx) d hm
      exact q H' v d l' ((Ch.refl.sm k5).trans ch) e' sl dv bad.1 bad.2.1 bad.2.2
end
end Ln


set_option Elab.async false
set_option linter.all false
set_option maxRecDepth 100000
set_option maxHeartbeats 2000000
namespace Ln
open PySem PySem.Spec PyProof.Rows L2 GxR
/-! ### the objects of a law that asks for errors -/
theorem laneO_no {d : PyData} (h : laneD d = false) : laneO d = none := by
  cases e : laneO d with
  | none => rfl
  | some xs =>
    have := (laneO_some e).2.2
    rw [h] at this
    cases this
theorem strsD_map (xs : List Str) : strsD (xs.map PyData.str) = some xs := by
  have := strsD_app (ds := []) xs
  rw [List.append_nil] at this
  rw [this]
  show some (xs ++ []) = some xs
  rw [List.append_nil]
theorem laneO_strs {xs : List Str} (h : laneB xs = true) : laneO (.tuple (xs.map PyData.str)) = some xs := by
  show (match strsD (xs.map PyData.str) with | some xs => if laneB xs = true then some xs else none | none => none) = some xs
  rw [strsD_map]
  exact if_pos h
theorem logW_evs : ∀ (es : List Ev) (us : List Str) (n : Nat), logB us n es = true → logW us n (es.map Ev.dat) = true
  | [], _, _, _ => rfl
  | .inn c :: r, us, n, h => by
    have h : (if carB c = true ∧ ¬ c ∈ us then logB (c :: us) (n + 1) r else false) = true := h
    split at h
    · rename_i z
      show logW us n (innD c :: r.map Ev.dat) = true
      rw [logW_inn z.1, if_pos z.2]
      exact logW_evs r _ _ h
    · cases h
  | .out :: r, us, n, h => by
    have h : (if 0 < n then logB us (n - 1) r else false) = true := h
    split at h
    · rename_i z
      show logW us n (outD :: r.map Ev.dat) = true
      rw [logW_out, if_pos z]
      exact logW_evs r _ _ h
    · cases h
theorem logD_evs {xs : List Str} {es : List Ev} (h : logB xs xs.length es = true) : logD xs (.list (es.map Ev.dat)) = true := logW_evs es xs xs.length h
theorem off_kp {Ps : List Addr} {s0 : Addr} {H H1 : Hp} {l : List V} (k : Kp Ps H H1) (hT : Tabs Ps H) (hs : H s0 = some (.lst l)) : Kp Ps (offH H s0) (offH H1 s0) ∧ Tabs Ps (offH H s0) := by
  have n : ∀ p ∈ Ps, p ≠ s0 := fun p hp z => by
    obtain ⟨q, e, _⟩ := hT p hp
    rw [z, hs] at e
    cases e
  refine ⟨⟨fun b o e nb => ?_, fun p hp => ?_⟩, fun p hp => ?_⟩
  · have nb0 : b ≠ s0 := fun z => by
      unfold offH at e
      rw [if_pos z] at e
      cases e
    rw [off_at nb0] at e ⊢
    exact k.at_ b o e nb
  · obtain ⟨q, e, r⟩ := k.tab p hp
    exact ⟨q, by rw [off_at (n p hp)]; exact e, r⟩
  · obtain ⟨q, e, r⟩ := hT p hp
    exact ⟨q, by rw [off_at (n p hp)]; exact e, r⟩
structure StE (K : PySem.W.Frag) (Ps : List Addr) (a s0 : Addr) (ns : List Int) (as : List Addr) (es : List Ev) (n : Nat) (Γ : List (V × PyData)) (T : List (Addr × List Str)) (Θ U : List (Addr × List V)) (H : Hp) : Prop where
  tabs : Tabs Ps H
  scr : SqL K H a (ns.map V.int)
  src : ∃ l, H s0 = some (.lst l) ∧ SrcV n l
  ev : EvT H as es
  a1 : Off K a s0 (ns.map V.int)
  dat : ∀ p ∈ Γ, Dv K (offH H s0) p.1 p.2
  tps : ∀ p ∈ T, TupD H p.1 (p.2.map V.str)
  kpl : ∀ p ∈ Θ, H p.1 = some (.lst p.2) ∧ p.1 ≠ s0
  kpt : ∀ p ∈ U, H p.1 = some (.tup p.2)
section
variable {K : PySem.W.Frag} {Ps : List Addr} {a s0 : Addr} {ns : List Int} {as : List Addr} {es : List Ev} {n m : Nat} {Γ : List (V × PyData)} {T : List (Addr × List Str)} {Θ U : List (Addr × List V)} {H H1 : Hp} {l' : List V}
theorem StE.kp (S : StE K Ps a s0 ns as es n Γ T Θ U H) (k : Kp Ps H H1) : StE K Ps a s0 ns as es n Γ T Θ U H1 := by
  obtain ⟨l, hl, hv⟩ := S.src
  obtain ⟨k2, t2⟩ := off_kp k S.tabs hl
  exact ⟨k.tab, k.seqL S.tabs S.scr, ⟨l, k.lst S.tabs hl, hv⟩, Paired.imp S.ev fun _ _ q => k.tup S.tabs q, S.a1, fun p hp => (S.dat p hp).kp k2 t2, fun p hp => (S.tps p hp).kp k S.tabs, fun p hp => ⟨k.lst S.tabs (S.kpl p hp).1, (S.kpl p hp).2⟩, fun p hp => k.tup S.tabs (S.kpt p hp)⟩
theorem StE.same (S : StE K Ps a s0 ns as es n Γ T Θ U H) (k : L2.Same H H1) : StE K Ps a s0 ns as es n Γ T Θ U H1 := by
  obtain ⟨l, hl, hv⟩ := S.src
  exact ⟨tabs_same S.tabs k, sq_same S.scr k, ⟨l, k _ _ hl, hv⟩, Paired.imp S.ev fun _ _ q => k _ _ q, S.a1, fun p hp => (S.dat p hp).same (off_sm k), fun p hp => (S.tps p hp).same k, fun p hp => ⟨k _ _ (S.kpl p hp).1, (S.kpl p hp).2⟩, fun p hp => k _ _ (S.kpt p hp)⟩
theorem StE.ch (S : StE K Ps a s0 ns as es n Γ T Θ U H) (k : Ch s0 H H1) (h1 : H1 s0 = some (.lst l')) (h2 : SrcV m l') : StE K Ps a s0 ns as es m Γ T Θ U H1 := by
  obtain ⟨l, hl, hv⟩ := S.src
  refine ⟨k.tabs hl S.tabs, ?_, ⟨l', h1, h2⟩, k.evT S.ev hl, S.a1, fun p hp => (S.dat p hp).same (off_ch k), fun p hp => k.tupD (S.tps p hp) hl, fun p hp => ⟨k _ _ (S.kpl p hp).1 (S.kpl p hp).2, (S.kpl p hp).2⟩, fun p hp => k _ _ (S.kpt p hp) fun z => by have e := S.kpt p hp; rw [z, hl] at e; cases e⟩
  rcases S.a1 with n | e
  · exact k.seqL S.scr n
  · exact .inr e
theorem StE.dcons {v : V} {d : PyData} (S : StE K Ps a s0 ns as es n Γ T Θ U H) (h : Dv K (offH H s0) v d) : StE K Ps a s0 ns as es n ((v, d) :: Γ) T Θ U H :=
  ⟨S.tabs, S.scr, S.src, S.ev, S.a1, fa_cons h S.dat, S.tps, S.kpl, S.kpt⟩
theorem StE.tcons {p : Addr} {L : List Str} (S : StE K Ps a s0 ns as es n Γ T Θ U H) (h : TupD H p (L.map V.str)) : StE K Ps a s0 ns as es n Γ ((p, L) :: T) Θ U H :=
  ⟨S.tabs, S.scr, S.src, S.ev, S.a1, S.dat, fa_cons h S.tps, S.kpl, S.kpt⟩
theorem StE.lcons {p : Addr} {xs : List V} (S : StE K Ps a s0 ns as es n Γ T Θ U H) (h : H p = some (.lst xs)) (ne : p ≠ s0) : StE K Ps a s0 ns as es n Γ T ((p, xs) :: Θ) U H :=
  ⟨S.tabs, S.scr, S.src, S.ev, S.a1, S.dat, S.tps, fa_cons ⟨h, ne⟩ S.kpl, S.kpt⟩
theorem StE.ucons {p : Addr} {xs : List V} (S : StE K Ps a s0 ns as es n Γ T Θ U H) (h : H p = some (.tup xs)) : StE K Ps a s0 ns as es n Γ T Θ ((p, xs) :: U) H :=
  ⟨S.tabs, S.scr, S.src, S.ev, S.a1, S.dat, S.tps, S.kpl, fa_cons h S.kpt⟩
theorem StE.mono {Γ' : List (V × PyData)} {T' : List (Addr × List Str)} {Θ' U' : List (Addr × List V)} (S : StE K Ps a s0 ns as es n Γ T Θ U H) (h1 : ∀ p ∈ Γ', p ∈ Γ) (h2 : ∀ p ∈ T', p ∈ T) (h3 : ∀ p ∈ Θ', p ∈ Θ) (h4 : ∀ p ∈ U', p ∈ U) : StE K Ps a s0 ns as es n Γ' T' Θ' U' H :=
  ⟨S.tabs, S.scr, S.src, S.ev, S.a1, fun p hp => S.dat p (h1 p hp), fun p hp => S.tps p (h2 p hp), fun p hp => S.kpl p (h3 p hp), fun p hp => S.kpt p (h4 p hp)⟩
/-- a new list, off the bag -/
theorem StE.nlst {p : Addr} {xs : List V} (S : StE K Ps a s0 ns as es n Γ T Θ U H) (hp : H p = none) : StE K Ps a s0 ns as es n Γ T ((p, xs) :: Θ) U (upd H p (.lst xs)) := by
  obtain ⟨l, hl, _⟩ := S.src
  exact (S.same (sm_new sm_refl hp)).lcons upd_same (ne_of_none hl hp).symm
theorem StE.ntup {p : Addr} {xs : List V} (S : StE K Ps a s0 ns as es n Γ T Θ U H) (hp : H p = none) : StE K Ps a s0 ns as es n Γ T Θ ((p, xs) :: U) (upd H p (.tup xs)) := (S.same (sm_new sm_refl hp)).ucons upd_same
theorem StE.ntpD {p : Addr} {ob : Obj} {L : List Str} {xs : List V} (S : StE K Ps a s0 ns as es n Γ T Θ U H) (e : L.map V.str = xs) (hd : ob.dict = none) (hp : H p = none) : StE K Ps a s0 ns as es n Γ ((p, L) :: T) Θ U (upd H p (.frz ob (.tup xs))) := by
  subst e
  exact (S.same (sm_new sm_refl hp)).tcons (.of hd)
/-- the bag's draw -/
theorem StE.draw {l : List V} (S : StE K Ps a s0 ns as es n Γ T Θ U H) (hv : SrcV m l) : StE K Ps a s0 ns as es m Γ T Θ U (upd H s0 (.lst l)) := S.ch Ch.src upd_same hv
theorem StE.full {v : V} {d : PyData} (S : StE K Ps a s0 ns as es n Γ T Θ U H) (h : (v, d) ∈ Γ) : Dv K H v d := (S.dat _ h).same off_sub
theorem StE.tp {p : Addr} {L : List Str} (S : StE K Ps a s0 ns as es n Γ T Θ U H) (h : (p, L) ∈ T) : TupD H p (L.map V.str) := S.tps _ h
theorem StE.ls {p : Addr} {xs : List V} (S : StE K Ps a s0 ns as es n Γ T Θ U H) (h : (p, xs) ∈ Θ) : H p = some (.lst xs) := (S.kpl _ h).1
theorem StE.us {p : Addr} {xs : List V} (S : StE K Ps a s0 ns as es n Γ T Θ U H) (h : (p, xs) ∈ U) : H p = some (.tup xs) := S.kpt _ h
theorem tup_dv {p : Addr} {L : List Str} (h : TupD H p (L.map V.str)) (hc : ∀ x ∈ L, carB x = true) : Dv K H (.ref p) (.tuple (L.map PyData.str)) := .tup h.sq (dv_strs _ fun x hx => by have := carLen (hc x hx); rw [sizeLine_eq]; omega)
theorem evs_dv {o : Addr} (h : H o = some (.lst (as.map V.ref))) (he : EvT H as es) (hc : ∀ c, Ev.inn c ∈ es → carB c = true) : Dv K H (.ref o) (.list (es.map Ev.dat)) := .lst (SqL.of h) (dv_evs he fun c z => by have := carLen (hc c z); rw [sizeLine_eq]; omega)
end
theorem catDV {K : PySem.W.Frag} {H : Hp} {x y : Addr} {A B : List V} {Q : VK} (hx : TupD H x A) (hy : TupD H y B) (few : A.length + B.length ≤ 900) (h : ∀ H' p, L2.Same H H' → TupD H' p (A ++ B) → Q (.ref p) H') : rCatD K (.ref x) (.ref y) H Q := by
  refine ⟨x, y, A, B, rfl, rfl, hx.sq, hy.sq, by rw [sizeLine_eq]; omega, fun e => ?_, fun _ e => ?_, fun _ _ p ob hd hp => ?_⟩
  · subst e
    exact h H y sm_refl hy
  · subst e
    exact h H x sm_refl (by rw [List.append_nil]; exact hx)
  · exact h _ p (sm_new sm_refl hp) (.of hd)
end Ln


set_option Elab.async false
set_option linter.all false
set_option maxRecDepth 100000
set_option maxHeartbeats 4000000
namespace Ln
open PySem PySem.Spec PyProof.Rows L2 GxR
/-! ### point 12: which sets can stay -/
def gapF (xs S : List Str) : Option Str := (cutN xs (brg xs S)).find? fun c => !decide (c ∈ S)
def depB4 (S : List Str) : Nat → List Ev → Option Nat
  | _, [] => none
  | n, .out :: r => depB4 S (n + 1) r
  | n, .inn c :: r => if c ∈ S then some n else depB4 S n r
def sideF (xs S : List Str) (es : List Ev) : Option (Nat × Nat × Nat) :=
  match depB4 S 0 es with
  | none => none
  | some d => if (brg xs S).2 = 0 then none else if d < min (brg xs S).1 (xs.length - (brg xs S).2) then some ((brg xs S).1, xs.length - (brg xs S).2, d) else none
inductive WS where
  | ok
  | size (n : Int)
  | moment (t : Nat)
  | block (c : Str)
  | sides (l r d : Nat)
def whyS (xs : List Str) (es : List Ev) (S : List Str) : WS :=
  if (S.length : Int) ≠ endI xs.length es then .size (endI xs.length es) else
  match fneg (ext0 xs S es) with
  | some t => .moment t
  | none => match gapF xs S with
    | some c => .block c
    | none => match sideF xs S es with
      | some p => .sides p.1 p.2.1 p.2.2
      | none => .ok
def wsT : WS → Option (List V)
  | .ok => none
  | .size n => some [.str "size", .int n]
  | .moment t => some [.str "moment", .int (t : Nat)]
  | .block c => some [.str "block", .str c]
  | .sides l r d => some [.str "sides", .int (l : Nat), .int (r : Nat), .int (d : Nat)]
def RsV (H H' : Hp) (v : V) : Option (List V) → Prop
  | none => v = .non
  | some l => ∃ p, v = .ref p ∧ H p = none ∧ H' p = some (.tup l)
theorem scReqCars : FnScope ["start", "log", "cars", "known", "car"] ["start", "log", "cars"] (defScope sReqCars) := ⟨rfl, rfl, rfl, by decide +kernel, rfl, by decide +kernel, by decide +kernel⟩
theorem scFirstGap : FnScope ["start", "cars", "low", "high", "car"] ["start", "cars"] (defScope sFirstGap) := ⟨rfl, rfl, rfl, by decide +kernel, rfl, by decide +kernel, by decide +kernel⟩
theorem scDepB4 : FnScope ["log", "cars", "departures", "event"] ["log", "cars"] (defScope sDepB4) := ⟨rfl, rfl, rfl, by decide +kernel, rfl, by decide +kernel, by decide +kernel⟩
theorem scSideC : FnScope ["start", "log", "cars", "low", "high", "departures", "left", "right"] ["start", "log", "cars"] (defScope sSideC) := ⟨rfl, rfl, rfl, by decide +kernel, rfl, by decide +kernel, by decide +kernel⟩
theorem scWhyNS : FnScope ["start", "log", "cars", "final", "moment", "gap"] ["start", "log", "cars"] (defScope sWhyNotStay) := ⟨rfl, rfl, rfl, by decide +kernel, rfl, by decide +kernel, by decide +kernel⟩
theorem scCanStay : FnScope ["start", "log", "cars"] ["start", "log", "cars"] (defScope sCanStay) := ⟨rfl, rfl, rfl, by decide +kernel, rfl, by decide +kernel, by decide +kernel⟩
theorem cutK {K : PySem.W.Frag} {Ps : List Addr} {H H1 : Hp} {a : Addr} {xs : List Str} {p : Nat × Nat} {Q : VK} (hT : Tabs Ps H) (k1 : Kp Ps H H1) (hA : SqT K H1 a (xs.map V.str)) (h1 : p.1 ≤ xs.length) (h2 : p.2 ≤ xs.length)
    (q : ∀ H' z, Kp Ps H H' → SqT K H' z ((cutN xs p).map V.str) → Q (.ref z) H') : rSlA K (.ref a) (some ((p.1 : Nat) : Int)) (some ((p.2 : Nat) : Int)) H1 Q := by
  have hcut : cutV (xs.map V.str) (some ((p.1 : Nat) : Int)) (some ((p.2 : Nat) : Int)) = (cutN xs p).map V.str := by
    rw [cutV_nat (by rw [List.length_map]; exact h1) (by rw [List.length_map]; exact h2)]
    unfold cutN
    rw [← List.map_take, ← List.map_drop]
  refine ⟨a, _, rfl, hA, fun hw => ?_, fun _ z hz => ?_⟩
  · refine q H1 a k1 ?_
    rw [HT.sIx_nat, HT.sIx_nat, List.length_map, Nat.min_eq_left h1, Nat.min_eq_left h2] at hw
    have e : cutN xs p = xs := by
      unfold cutN
      rw [hw.1, hw.2, List.take_length]
      rfl
    rw [e]
    exact hA
  · rw [hcut]
    exact q _ z (k1.upd hT (k1.free hT hz)) (SqT.of upd_same)
section
variable {P : Program} {w : World} {K : PySem.W.Frag} {mg : Str → Option Value} {base : Heap} {Ps : List Addr}
def spReqCars (K : PySem.W.Frag) (Ps : List Addr) : Sp := fun vs H Q _ => ∃ (a l f : Addr) (xs : List Str) (as : List Addr) (es : List Ev) (S : List Str), vs = [.ref a, .ref l, .ref f] ∧ LaneAt K H a xs ∧ laneB xs = true ∧ LogAt K H l as es ∧ logB xs xs.length es = true ∧ LaneAt K H f S ∧ laneB S = true ∧ (∀ c ∈ S, c ∈ xs ++ arrs es) ∧ Tabs Ps H ∧ ∀ H', Kp Ps H H' → Q .non H'
theorem ok_reqCars {f fL fI fN : Addr} {fd fdL fdI fdN : FuncData} (F : Fun K "require_cars" "require_cars" sReqCars f fd)
    (GL : FnOk P w K mg base CX0 7 fL fdL ["start", "log"] (spReqLog K Ps)) (mgL : mg "require_log" = some (.ref fL)) (kL : PySem.W.keepIn K (.ref fL) = true) (bL : Binds K fdL ["start", "log"] [])
    (GI : FnOk P w K mg base CX0 4 fI fdI ["value"] (spLane K Ps)) (mgI : mg "is_lane" = some (.ref fI)) (kI : PySem.W.keepIn K (.ref fI) = true) (bI : Binds K fdI ["value"] [])
    (GN : FnOk P w K mg base CX0 8 fN fdN ["start", "log"] (spNumbers K Ps)) (mgN : mg "numbers" = some (.ref fN)) (kN : PySem.W.keepIn K (.ref fN) = true) (bN : Binds K fdN ["start", "log"] []) : FnOk P w K mg base CX0 9 f fd ["start", "log", "cars"] (spReqCars K Ps) := by
  refine F.ok scReqCars (fun vs H Q E h => ?_) (fun cdv A outer s H vs Q E hr h => ?_)
  · obtain ⟨a, l, f, xs, as, es, S, rfl, _⟩ := h
    rfl
  · obtain ⟨a, l, f, xs, as, es, S, rfl, hL, hB, hE, hB2, hF, hFB, hk, hT, q⟩ := h
    refine ⟨_, pss_cons (ps_expr (pe_call GL (hr.mono (by decide)) (by rfl) mgL kL bL .nil pass0 (pa_cons (pv 0) (pa_cons (pv 1) pa_nil))))
      (pss_cons (ps_if (pt_not (pt_val (pe_call GI (hr.mono (by decide)) (by rfl) mgI kI bI .nil pass0 (pa_cons (pv 2) pa_nil)))) (pss_one ps_dead) pss_nil)
      (pss_cons (ps_set (i := 3) scReqCars.nd rfl (.inl rfl) (pe_call GN hr (by rfl) mgN kN bN .nil pass0 (pa_cons (pv 0) (pa_cons (pv 1) pa_nil))))
      (pss_one (ps_for PassesOwn.never rfl (pi_tup (pv 2)) (pg_name (i := 4) scReqCars.nd rfl (.inl rfl)) (pss_one (ps_if (pt_cmpR op_notIn_seq (pv 4) (pv 3) (by rfl)) (pss_one ps_dead) pss_nil)))))), ?_⟩
    refine ⟨.ref a, rfl, .ref l, rfl, a, l, xs, as, es, rfl, hL, hB, hE, hB2, hT, fun H1 k1 => ?_⟩
    have hF1 := hF.kp k1 hT
    refine ⟨.ref f, rfl, f, S, rfl, hF1.at_, by have := hF1.few; omega, hF1.sz, k1.tab, fun H2 k2' => ⟨_, rfl, ?_⟩⟩
    rw [hFB]
    have k2 := k1.trans k2'
    refine iteF ⟨.ref a, rfl, .ref l, rfl, a, l, xs, as, es, rfl, hL.kp k2 hT, hB, hE.kp k2 hT, hB2, k2.tab, fun H3 u k3' hu hu3 => ?_⟩
    have k3 := k2.trans k3'
    refine ⟨.ref f, rfl, f, rfl, ⟨_, (hF.kp k3 hT).at_⟩, for_tup (K := K) (a := f) (xs := S.map V.str) (fun i σ H' => ∃ v4 : Option V, σ = [some (.ref a), some (.ref l), some (.ref f), some (.ref u), v4] ∧ Kp Ps H H' ∧ H' u = some (.lst ((xs ++ arrs es).map V.str))) ?_ ?_ ?_ ?_⟩
    · exact ⟨none, rfl, k3, hu3⟩
    · rintro i σ H' _ ⟨_, _, kp, _⟩
      exact (hF.kp kp hT).at_
    · rintro i x σ H' hi ⟨v4, rfl, kp, hu'⟩
      have hlt : i < S.length := by
        have h1 := (List.getElem?_eq_some_iff.mp hi).1
        rw [List.length_map] at h1
        omega
      rw [List.getElem?_map, List.getElem?_eq_getElem hlt] at hi
      obtain rfl := Option.some.inj hi
      refine ⟨_, rfl, .ref u, rfl, u, _, rfl, .inl (SqL.of hu'), rfl, flat_strs _, _, rfl, ?_⟩
      show if (!inV (.str S[i]) ((xs ++ arrs es).map V.str)) = true then _ else _
      rw [inV_strs, decide_eq_true (hk _ (List.getElem_mem hlt))]
      exact iteF ⟨_, rfl, kp, hu'⟩
    · rintro σ H' ⟨v4, rfl, kp, hu'⟩
      exact q H' kp
def spFirstGap (K : PySem.W.Frag) (Ps : List Addr) : Sp := fun vs H Q _ => ∃ (a f : Addr) (xs S : List Str), vs = [.ref a, .ref f] ∧ SqT K H a (xs.map V.str) ∧ SqT K H f (S.map V.str) ∧ xs.length ≤ 400 ∧ Tabs Ps H ∧
  ∀ H', Kp Ps H H' → Q (match gapF xs S with | none => .non | some c => .str c) H'
theorem ok_firstGap {f fB : Addr} {fd fdB : FuncData} (F : Fun K "first_gap" "first_gap" sFirstGap f fd)
    (GB : FnOk P w K mg base CX0 1 fB fdB ["start", "cars"] (spBlockR K Ps)) (mgB : mg "block_range" = some (.ref fB)) (kB : PySem.W.keepIn K (.ref fB) = true) (bB : Binds K fdB ["start", "cars"] []) : FnOk P w K mg base CX0 2 f fd ["start", "cars"] (spFirstGap K Ps) := by
  refine F.ok scFirstGap (fun vs H Q E h => ?_) (fun cdv A outer s H vs Q E hr h => ?_)
  · obtain ⟨a, f, xs, S, rfl, _⟩ := h
    rfl
  · obtain ⟨a, f, xs, S, rfl, hA, hF, few, hT, q⟩ := h
    refine ⟨_, pss_cons (ps_asg (pe_call GB hr (by rfl) mgB kB bB .nil pass0 (pa_cons (pv 0) (pa_cons (pv 1) pa_nil))) (pg_tup (by rfl) (pgs_cons (pg_name (i := 2) scFirstGap.nd rfl (.inl rfl)) (pgs_cons (pg_name (i := 3) scFirstGap.nd rfl (.inl rfl)) pgs_nil))))
      (pss_cons (ps_for PassesOwn.never rfl (pi_tup (pe_slice sl_tupA (pv 0) (po_some (pv 2)) (po_some (pv 3)))) (pg_name (i := 4) scFirstGap.nd rfl (.inl rfl))
        (pss_one (ps_if (pt_cmpR op_notIn_seq (pv 4) (pv 1) (by rfl)) (pss_one (ps_ret (pv 4))) pss_nil)))
      (pss_one (ps_ret pe_non))), ?_⟩
    refine ⟨.ref a, rfl, .ref f, rfl, a, f, xs, S, rfl, hA, hF, few, hT, fun H1 p1 k1 hp1 hp1' => ⟨p1, _, rfl, SqT.of hp1', rfl, _, _, rfl, _, _, rfl, rfl, ?_⟩⟩
    have b1 := brg_le xs S
    refine ⟨.ref a, rfl, _, rfl, _, rfl, _, rfl, _, rfl, cutK hT k1 (k1.seqT hT hA) b1.1 b1.2 fun H2 z k2 hz => ?_⟩
    refine ⟨z, rfl, ⟨_, hz⟩, for_tup (K := K) (a := z) (xs := (cutN xs (brg xs S)).map V.str) (fun i σ H' => ∃ v4 : Option V, σ = [some (.ref a), some (.ref f), some (.int (brg xs S).1), some (.int (brg xs S).2), v4] ∧ Kp Ps H2 H' ∧ ∀ c ∈ (cutN xs (brg xs S)).take i, c ∈ S) ?_ ?_ ?_ ?_⟩
    · exact ⟨none, rfl, Kp.refl k2.tab, fun c hc => by simp at hc⟩
    · rintro i σ H' _ ⟨_, _, kp, _⟩
      exact kp.seqT k2.tab hz
    · rintro i x σ H' hi ⟨v4, rfl, kp, hall⟩
      have hlt : i < (cutN xs (brg xs S)).length := by
        have h1 := (List.getElem?_eq_some_iff.mp hi).1
        rw [List.length_map] at h1
        omega
      have hg : (cutN xs (brg xs S))[i]? = some (cutN xs (brg xs S))[i] := List.getElem?_eq_getElem hlt
      rw [List.getElem?_map, hg] at hi
      obtain rfl := Option.some.inj hi
      have kH := k2.trans kp
      refine ⟨_, rfl, .ref f, rfl, f, _, rfl, .inr (kH.seqT hT hF), rfl, flat_strs _, _, rfl, ?_⟩
      show if (!inV (.str (cutN xs (brg xs S))[i]) (S.map V.str)) = true then _ else _
      rw [inV_strs]
      refine ite2 (fun hz => ?_) (fun hz => ?_)
      · have hf : gapF xs S = some (cutN xs (brg xs S))[i] := by
          unfold gapF
          rw [List.find?_eq_some_iff_getElem]
          refine ⟨hz, i, hlt, rfl, fun j hj => ?_⟩
          have := hall (cutN xs (brg xs S))[j] (List.mem_take_iff_getElem.mpr ⟨j, by omega, rfl⟩)
          simpa using this
        have := q H' kH
        rw [hf] at this
        exact ⟨_, rfl, this⟩
      · refine ⟨_, rfl, kp, fun c hc => ?_⟩
        rw [List.take_add_one, hg] at hc
        rcases List.mem_append.mp hc with w | w
        · exact hall c w
        · rw [List.mem_singleton.mp w]
          simpa using hz
    · rintro σ H' ⟨v4, rfl, kp, hall⟩
      rw [List.length_map, List.take_length] at hall
      have hf : gapF xs S = none := by
        unfold gapF
        rw [List.find?_eq_none]
        intro c hc
        simpa using hall c hc
      have := q H' (k2.trans kp)
      rw [hf] at this
      exact this
def spDepB4 (K : PySem.W.Frag) (Ps : List Addr) : Sp := fun vs H Q _ => ∃ (l f : Addr) (as : List Addr) (es : List Ev) (S : List Str), vs = [.ref l, .ref f] ∧ LogAt K H l as es ∧ SqT K H f (S.map V.str) ∧ Tabs Ps H ∧
  ∀ H', Kp Ps H H' → Q (match depB4 S 0 es with | none => .non | some d => .int (d : Nat)) H'
theorem ok_depB4 {f : Addr} {fd : FuncData} (F : Fun K "departures_before_first" "departures_before_first" sDepB4 f fd) : FnOk P w K mg base CX0 1 f fd ["log", "cars"] (spDepB4 K Ps) := by
  refine F.ok scDepB4 (fun vs H Q E h => ?_) (fun cdv A outer s H vs Q E hr h => ?_)
  · obtain ⟨l, f, as, es, S, rfl, _⟩ := h
    rfl
  · obtain ⟨l, f, as, es, S, rfl, hE, hF, hT, q⟩ := h
    refine ⟨_, pss_cons (ps_set (i := 2) scDepB4.nd rfl (.inl rfl) pe_int)
      (pss_cons (ps_for PassesOwn.never rfl (pi_list (pv 0)) (pg_name (i := 3) scDepB4.nd rfl (.inl rfl))
        (pss_one (ps_if (pt_cmpR op_eq (pe_ix ix_tup (pv 3) pe_int (fun _ _ => rfl)) pe_str (nomark _)) (pss_one (ps_aug (i := 2) scDepB4.nd rfl (.inl rfl) pe_int ip_add))
          (pss_one (ps_if (pt_cmpR op_in_seq (pe_ix ix_tup (pv 3) pe_int (fun _ _ => rfl)) (pv 1) (by rfl)) (pss_one (ps_ret (pv 2))) pss_nil)))))
      (pss_one (ps_ret pe_non))), ?_⟩
    have hlen := Paired.length hE.evs
    refine ⟨.ref l, rfl, l, rfl, ⟨_, hE.at_⟩, for_list (K := K) (a := l) (xs := as.map V.ref) (fun i σ H' => ∃ (v3 : Option V) (n : Nat), σ = [some (.ref l), some (.ref f), some (.int (n : Nat)), v3] ∧ Kp Ps H H' ∧ i ≤ es.length ∧ depB4 S 0 es = depB4 S n (es.drop i)) ?_ ?_ ?_ ?_⟩
    · exact ⟨none, 0, rfl, Kp.refl hT, Nat.zero_le _, rfl⟩
    · rintro i σ H' _ ⟨_, _, _, kp, _⟩
      exact (hE.kp kp hT).at_
    · rintro i y σ H' hi ⟨v3, n, rfl, kp, hie, heq⟩
      have hlt : i < es.length := by
        have h1 := (List.getElem?_eq_some_iff.mp hi).1
        rw [List.length_map] at h1
        omega
      have hev : es[i]? = some es[i] := List.getElem?_eq_getElem hlt
      obtain ⟨b, hb, hbt⟩ := pair_at (hE.kp kp hT).evs i _ hev
      have hy : y = .ref b := by
        rw [List.getElem?_map, hb] at hi
        exact (Option.some.inj hi).symm
      subst hy
      rw [List.drop_eq_getElem_cons hlt] at heq
      cases he : es[i] with
      | out =>
        rw [he] at hbt heq
        refine ⟨.ref b, rfl, b, _, 0, .str "out", rfl, rfl, hbt, atI_nat (j := 0) rfl, rfl, _, rfl, ?_⟩
        rw [decide_eq_true (rfl : V.str "out" = V.str "out")]
        refine iteT ⟨_, rfl, _, _, rfl, rfl, ?_⟩
        exact ⟨_, n + 1, rfl, kp, hlt, heq⟩
      | inn c =>
        rw [he] at hbt heq
        have heq : depB4 S 0 es = if c ∈ S then some n else depB4 S n (es.drop (i + 1)) := heq
        refine ⟨.ref b, rfl, b, _, 0, .str "in", rfl, rfl, hbt, atI_nat (j := 0) rfl, rfl, _, rfl, ?_⟩
        rw [decide_eq_false (fun z => ne_io (V.str.inj z))]
        refine iteF ⟨.ref b, rfl, b, _, 1, .str c, rfl, rfl, hbt, atI_nat (j := 1) rfl, .ref f, rfl, f, _, rfl, .inr (kp.seqT hT hF), rfl, flat_strs S, _, rfl, ?_⟩
        show if inV (.str c) (S.map V.str) = true then _ else _
        rw [inV_strs]
        by_cases hc : c ∈ S
        · rw [decide_eq_true hc]
          rw [if_pos hc] at heq
          have := q H' kp
          rw [heq] at this
          exact iteT ⟨_, rfl, this⟩
        · rw [decide_eq_false hc]
          rw [if_neg hc] at heq
          exact iteF ⟨_, n, rfl, kp, hlt, heq⟩
    · rintro σ H' ⟨v3, n, rfl, kp, hie, heq⟩
      rw [List.length_map, hlen, List.drop_length] at heq
      have := q H' kp
      rw [heq] at this
      exact this
end
end Ln


set_option Elab.async false
set_option linter.all false
set_option maxRecDepth 100000
set_option maxHeartbeats 4000000
namespace Ln
open PySem PySem.Spec PyProof.Rows L2 GxR
def sideV (p : Nat × Nat × Nat) : List V := [.str "sides", .int (p.1 : Nat), .int (p.2.1 : Nat), .int (p.2.2 : Nat)]
section
variable {P : Program} {w : World} {K : PySem.W.Frag} {mg : Str → Option Value} {base : Heap} {Ps : List Addr}
def spSideC (K : PySem.W.Frag) (Ps : List Addr) : Sp := fun vs H Q _ => ∃ (a l f : Addr) (xs : List Str) (as : List Addr) (es : List Ev) (S : List Str), vs = [.ref a, .ref l, .ref f] ∧ SqT K H a (xs.map V.str) ∧ LogAt K H l as es ∧ SqT K H f (S.map V.str) ∧ xs.length ≤ 400 ∧ Tabs Ps H ∧
  ∀ H' v, Kp Ps H H' → RsV H H' v ((sideF xs S es).map sideV) → Q v H'
theorem ok_sideC {f fB fD : Addr} {fd fdB fdD : FuncData} (F : Fun K "side_conflict" "side_conflict" sSideC f fd) (B : Bi mg) (hmin : mg "min" = none)
    (GB : FnOk P w K mg base CX0 1 fB fdB ["start", "cars"] (spBlockR K Ps)) (mgB : mg "block_range" = some (.ref fB)) (kB : PySem.W.keepIn K (.ref fB) = true) (bB : Binds K fdB ["start", "cars"] [])
    (GD : FnOk P w K mg base CX0 1 fD fdD ["log", "cars"] (spDepB4 K Ps)) (mgD : mg "departures_before_first" = some (.ref fD)) (kD : PySem.W.keepIn K (.ref fD) = true) (bD : Binds K fdD ["log", "cars"] []) : FnOk P w K mg base CX0 2 f fd ["start", "log", "cars"] (spSideC K Ps) := by
  refine F.ok scSideC (fun vs H Q E h => ?_) (fun cdv A outer s H vs Q E hr h => ?_)
  · obtain ⟨a, l, f, xs, as, es, S, rfl, _⟩ := h
    rfl
  · obtain ⟨a, l, f, xs, as, es, S, rfl, hA, hE, hF, few, hT, q⟩ := h
    refine ⟨_, pss_cons (ps_asg (pe_call GB hr (by rfl) mgB kB bB .nil pass0 (pa_cons (pv 0) (pa_cons (pv 2) pa_nil))) (pg_tup (by rfl) (pgs_cons (pg_name (i := 3) scSideC.nd rfl (.inl rfl)) (pgs_cons (pg_name (i := 4) scSideC.nd rfl (.inl rfl)) pgs_nil))))
      (pss_cons (ps_set (i := 5) scSideC.nd rfl (.inl rfl) (pe_call GD hr (by rfl) mgD kD bD .nil pass0 (pa_cons (pv 1) (pa_cons (pv 2) pa_nil))))
      (pss_cons (ps_if (PW.pt (pw_or (pt_cmpR op_eq (pv 4) pe_int (nomark _)) (pw_or1 (pt_cmpR op_isN (pv 5) pe_non (nomark _))))) (pss_one (ps_ret pe_non)) pss_nil)
      (pss_cons (ps_set (i := 6) scSideC.nd rfl (.inl rfl) (pv 3))
      (pss_cons (ps_set (i := 7) scSideC.nd rfl (.inl rfl) (pe_op op_sub (pe_callB call_len_seq (by rfl) B.len PySem.boot_len (pa_cons (pv 0) pa_nil)) (pv 4)))
      (pss_one (ps_ret (pe_ifExp (pt_cmpR op_lt (pv 5) (pe_callB (call_min2 rfl) (by rfl) hmin (by decide +kernel) (pa_cons (pv 6) (pa_cons (pv 7) pa_nil))) (nomark _)) (pe_tup (pa_cons pe_str (pa_cons (pv 6) (pa_cons (pv 7) (pa_cons (pv 5) pa_nil))))) pe_non))))))), ?_⟩
    refine ⟨.ref a, rfl, .ref f, rfl, a, f, xs, S, rfl, hA, hF, few, hT, fun H1 p1 k1 hp1 hp1' => ⟨p1, _, rfl, SqT.of hp1', rfl, _, _, rfl, _, _, rfl, rfl, ?_⟩⟩
    refine ⟨.ref l, rfl, .ref f, rfl, l, f, as, es, S, rfl, hE.kp k1 hT, k1.seqT hT hF, k1.tab, fun H2 k2' => ?_⟩
    have k2 := k1.trans k2'
    have b1 := brg_le xs S
    have non : sideF xs S es = none → Q .non H2 := fun e => q H2 _ k2 (by rw [e]; rfl)
    cases hd : depB4 S 0 es with
    | none =>
      have hn : sideF xs S es = none := by unfold sideF; rw [hd]
      by_cases hh : (brg xs S).2 = 0
      · refine ⟨_, rfl, rfl, _, rfl, ?_⟩
        rw [hh, decide_eq_true (show V.int ((0 : Nat) : Int) = V.int 0 from rfl)]
        exact iteT (iteT (non hn))
      · refine ⟨_, rfl, rfl, _, rfl, ?_⟩
        rw [decide_eq_false (fun z => hh (by have := V.int.inj z; omega))]
        refine iteF ⟨_, rfl, rfl, _, rfl, ?_⟩
        rw [decide_eq_true rfl]
        exact iteT (non hn)
    | some d =>
      by_cases hh : (brg xs S).2 = 0
      · have hn : sideF xs S es = none := by unfold sideF; rw [hd]; show (if (brg xs S).2 = 0 then none else _) = none; rw [if_pos hh]
        refine ⟨_, rfl, rfl, _, rfl, ?_⟩
        rw [hh, decide_eq_true (show V.int ((0 : Nat) : Int) = V.int 0 from rfl)]
        exact iteT (iteT (non hn))
      · have hs : sideF xs S es = if d < min (brg xs S).1 (xs.length - (brg xs S).2) then some ((brg xs S).1, xs.length - (brg xs S).2, d) else none := by
          unfold sideF; rw [hd]; show (if (brg xs S).2 = 0 then none else _) = _; rw [if_neg hh]
        refine ⟨_, rfl, rfl, _, rfl, ?_⟩
        rw [decide_eq_false (fun z => hh (by have := V.int.inj z; omega))]
        refine iteF ⟨_, rfl, rfl, _, rfl, ?_⟩
        rw [decide_eq_false (show ¬ V.int ((d : Nat) : Int) = V.non from fun z => nomatch z)]
        refine iteF ?_
        refine ⟨_, rfl, .ref a, rfl, a, _, rfl, .inr (k2.seqT hT hA), _, rfl, _, _, rfl, rfl, ?_⟩
        refine ⟨_, rfl, _, rfl, _, rfl, _, _, rfl, ?_⟩
        rw [List.length_map]
        have hr : (xs.length : Int) - ((brg xs S).2 : Nat) = ((xs.length - (brg xs S).2 : Nat) : Int) := by omega
        refine ⟨((d : Nat) : Int), _, rfl, rfl, _, rfl, ite2 (fun hz => ?_) (fun hz => ?_)⟩
        · have hz : ((d : Nat) : Int) < (if (xs.length : Int) - ((brg xs S).2 : Nat) < ((brg xs S).1 : Nat) then (xs.length : Int) - ((brg xs S).2 : Nat) else ((brg xs S).1 : Nat)) := of_decide_eq_true hz
          have hlt : d < min (brg xs S).1 (xs.length - (brg xs S).2) := by
            split at hz <;> omega
          rw [if_pos hlt] at hs
          refine ⟨_, rfl, _, rfl, _, rfl, by show 4 ≤ sizeLine; decide, fun p hp => ?_⟩
          have hp0 : H p = none := k2.free hT hp
          refine q _ _ (k2.upd hT hp0) ?_
          rw [hs]
          refine ⟨p, rfl, hp0, ?_⟩
          rw [upd_same]
          show some (HO.tup [V.str "sides", .int (brg xs S).1, .int ((xs.length : Int) - ((brg xs S).2 : Nat)), .int (d : Nat)]) = some (HO.tup [V.str "sides", .int (brg xs S).1, .int ((xs.length - (brg xs S).2 : Nat) : Int), .int (d : Nat)])
          rw [hr]
        · have hz : ¬ ((d : Nat) : Int) < (if (xs.length : Int) - ((brg xs S).2 : Nat) < ((brg xs S).1 : Nat) then (xs.length : Int) - ((brg xs S).2 : Nat) else ((brg xs S).1 : Nat)) := fun w => hz (decide_eq_true w)
          have hlt : ¬ d < min (brg xs S).1 (xs.length - (brg xs S).2) := by
            split at hz <;> omega
          rw [if_neg hlt] at hs
          exact non hs
def spWhyNS (K : PySem.W.Frag) (Ps : List Addr) : Sp := fun vs H Q _ => ∃ (a l f : Addr) (xs : List Str) (as : List Addr) (es : List Ev) (S : List Str), vs = [.ref a, .ref l, .ref f] ∧ LaneAt K H a xs ∧ laneB xs = true ∧ LogAt K H l as es ∧ logB xs xs.length es = true ∧ LaneAt K H f S ∧ laneB S = true ∧ (∀ c ∈ S, c ∈ xs ++ arrs es) ∧ Tabs Ps H ∧
  ∀ H' v, Kp Ps H H' → RsV H H' v (wsT (whyS xs es S)) → Q v H'
theorem ok_whyNS {f fR fZ fM fX fG fC : Addr} {fd fdR fdZ fdM fdX fdG fdC : FuncData} (F : Fun K "why_cannot_stay" "why_cannot_stay" sWhyNotStay f fd) (B : Bi mg)
    (GR : FnOk P w K mg base CX0 9 fR fdR ["start", "log", "cars"] (spReqCars K Ps)) (mgR : mg "require_cars" = some (.ref fR)) (kR : PySem.W.keepIn K (.ref fR) = true) (bR : Binds K fdR ["start", "log", "cars"] [])
    (GZ : FnOk P w K mg base CX0 8 fZ fdZ ["start", "log"] (spSizes K Ps)) (mgZ : mg "sizes" = some (.ref fZ)) (kZ : PySem.W.keepIn K (.ref fZ) = true) (bZ : Binds K fdZ ["start", "log"] [])
    (GM : FnOk P w K mg base CX0 1 fM fdM ["counts"] (spFirstNeg K Ps)) (mgM : mg "first_negative" = some (.ref fM)) (kM : PySem.W.keepIn K (.ref fM) = true) (bM : Binds K fdM ["counts"] [])
    (GX : FnOk P w K mg base CX0 9 fX fdX ["start", "log", "cars"] (spExtras K Ps)) (mgX : mg "extras" = some (.ref fX)) (kX : PySem.W.keepIn K (.ref fX) = true) (bX : Binds K fdX ["start", "log", "cars"] [])
    (GG : FnOk P w K mg base CX0 2 fG fdG ["start", "cars"] (spFirstGap K Ps)) (mgG : mg "first_gap" = some (.ref fG)) (kG : PySem.W.keepIn K (.ref fG) = true) (bG : Binds K fdG ["start", "cars"] [])
    (GC : FnOk P w K mg base CX0 2 fC fdC ["start", "log", "cars"] (spSideC K Ps)) (mgC : mg "side_conflict" = some (.ref fC)) (kC : PySem.W.keepIn K (.ref fC) = true) (bC : Binds K fdC ["start", "log", "cars"] []) :
    FnOk P w K mg base CX0 10 f fd ["start", "log", "cars"] (spWhyNS K Ps) := by
  refine F.ok scWhyNS (fun vs H Q E h => ?_) (fun cdv A outer s H vs Q E hr h => ?_)
  · obtain ⟨a, l, f, xs, as, es, S, rfl, _⟩ := h
    rfl
  · obtain ⟨a, l, f, xs, as, es, S, rfl, hL, hB, hE, hB2, hF, hFB, hk, hT, q⟩ := h
    refine ⟨_, pss_cons (ps_expr (pe_call GR hr (by rfl) mgR kR bR .nil pass0 (pa_cons (pv 0) (pa_cons (pv 1) (pa_cons (pv 2) pa_nil)))))
      (pss_cons (ps_set (i := 3) scWhyNS.nd rfl (.inl rfl) (pe_ix ix_list (pe_call GZ (hr.mono (by decide)) (by rfl) mgZ kZ bZ .nil pass0 (pa_cons (pv 0) (pa_cons (pv 1) pa_nil))) (pe_un un_neg pe_int) (fun _ _ => rfl)))
      (pss_cons (ps_if (pt_cmpR op_ne (pe_callB call_len_seq (by rfl) B.len PySem.boot_len (pa_cons (pv 2) pa_nil)) (pv 3) (nomark _)) (pss_one (ps_ret (pe_tup (pa_cons pe_str (pa_cons (pv 3) pa_nil))))) pss_nil)
      (pss_cons (ps_set (i := 4) scWhyNS.nd rfl (.inl rfl) (pe_call GM (hr.mono (by decide)) (by rfl) mgM kM bM .nil pass0 (pa_cons (pe_call GX hr (by rfl) mgX kX bX .nil pass0 (pa_cons (pv 0) (pa_cons (pv 1) (pa_cons (pv 2) pa_nil)))) pa_nil)))
      (pss_cons (ps_if (pt_cmpR op_notN (pv 4) pe_non (nomark _)) (pss_one (ps_ret (pe_tup (pa_cons pe_str (pa_cons (pv 4) pa_nil))))) pss_nil)
      (pss_cons (ps_set (i := 5) scWhyNS.nd rfl (.inl rfl) (pe_call GG (hr.mono (by decide)) (by rfl) mgG kG bG .nil pass0 (pa_cons (pv 0) (pa_cons (pv 2) pa_nil))))
      (pss_cons (ps_if (pt_cmpR op_notN (pv 5) pe_non (nomark _)) (pss_one (ps_ret (pe_tup (pa_cons pe_str (pa_cons (pv 5) pa_nil))))) pss_nil)
      (pss_one (ps_ret (pe_call GC (hr.mono (by decide)) (by rfl) mgC kC bC .nil pass0 (pa_cons (pv 0) (pa_cons (pv 1) (pa_cons (pv 2) pa_nil)))))))))))), ?_⟩
    have new : ∀ {H1 : Hp} {p : Addr} {ys : List V}, Kp Ps H H1 → H1 p = none → wsT (whyS xs es S) = some ys → Q (.ref p) (L2.upd H1 p (.tup ys)) := fun {H1 p ys} k hp e => by
      have hp0 : H p = none := k.free hT hp
      refine q _ _ (k.upd hT hp0) ?_
      rw [e]
      exact ⟨p, rfl, hp0, upd_same⟩
    refine ⟨.ref a, rfl, .ref l, rfl, .ref f, rfl, a, l, f, xs, as, es, S, rfl, hL, hB, hE, hB2, hF, hFB, hk, hT, fun H1 k1 => ?_⟩
    refine ⟨.ref a, rfl, .ref l, rfl, a, l, xs, as, es, rfl, hL.kp k1 hT, hB, hE.kp k1 hT, hB2, k1.tab, fun H2 z k2' hz hz2 => ?_⟩
    have k2 := k1.trans k2'
    obtain ⟨r0, hr0⟩ := szs_last xs.length es
    have hlastZ : atI ((szs xs.length es).map V.int) (-1) = some (V.int (endI xs.length es)) := by
      rw [hr0, List.map_append]
      exact atI_last _ _
    refine ⟨1, rfl, z, _, -1, _, rfl, rfl, SqL.of hz2, hlastZ, ?_⟩
    refine ⟨.ref f, rfl, f, _, rfl, .inr (hF.kp k2 hT).at_, _, rfl, rfl, _, rfl, ?_⟩
    have e1 : decide (V.int (((S.map V.str).length : Nat) : Int) = V.int (endI xs.length es)) = decide ((S.length : Int) = endI xs.length es) := by
      rw [List.length_map]
      exact decide_eq_decide.mpr ⟨fun h => V.int.inj h, fun h => by rw [h]⟩
    rw [e1]
    by_cases hn : (S.length : Int) = endI xs.length es
    case neg =>
      rw [decide_eq_false hn]
      refine iteT ⟨_, rfl, by show 2 ≤ sizeLine; decide, fun p hp => new k2 hp ?_⟩
      unfold whyS
      rw [if_pos hn]
      rfl
    rw [decide_eq_true hn]
    have w1 : whyS xs es S = match fneg (ext0 xs S es) with
        | some t => .moment t
        | none => match gapF xs S with
          | some c => .block c
          | none => match sideF xs S es with
            | some p => .sides p.1 p.2.1 p.2.2
            | none => .ok := by
      unfold whyS
      rw [if_neg (fun z => z hn)]
      try rfl
    refine iteF ?_
    -- moment
    refine ⟨.ref a, rfl, .ref l, rfl, .ref f, rfl, a, l, f, xs, as, es, S, rfl, hL.kp k2 hT, hB, hE.kp k2 hT, hB2, (hF.kp k2 hT).at_, k2.tab, fun H3 x k3' _ hx => ?_⟩
    have k3 := k2.trans k3'
    refine ⟨x, ext0 xs S es, rfl, SqL.of hx, k3.tab, fun H4 k4' => ?_⟩
    have k4 := k3.trans k4'
    cases hm : fneg (ext0 xs S es) with
    | some t =>
      rw [hm] at w1
      refine ⟨_, rfl, rfl, _, rfl, ?_⟩
      rw [decide_eq_false (show ¬ (V.int ((t : Nat) : Int) = V.non) from fun z => by cases z)]
      refine iteT ⟨_, rfl, by show 2 ≤ sizeLine; decide, fun p hp => new k4 hp ?_⟩
      rw [w1]
      rfl
    | none =>
    rw [hm] at w1
    refine ⟨_, rfl, rfl, _, rfl, iteF ?_⟩
    -- block
    refine ⟨.ref a, rfl, .ref f, rfl, a, f, xs, S, rfl, (hL.kp k4 hT).at_, (hF.kp k4 hT).at_, hL.few, k4.tab, fun H5 k5' => ?_⟩
    have k5 := k4.trans k5'
    cases hg : gapF xs S with
    | some c =>
      have w1 : whyS xs es S = .block c := by rw [w1]; show (match gapF xs S with | some c => WS.block c | none => match sideF xs S es with | some p => .sides p.1 p.2.1 p.2.2 | none => .ok) = _; rw [hg]
      refine ⟨_, rfl, rfl, _, rfl, ?_⟩
      rw [decide_eq_false (show ¬ (V.str c = V.non) from fun z => by cases z)]
      refine iteT ⟨_, rfl, by show 2 ≤ sizeLine; decide, fun p hp => new k5 hp ?_⟩
      rw [w1]
      rfl
    | none =>
    have w1 : whyS xs es S = match sideF xs S es with | some p => WS.sides p.1 p.2.1 p.2.2 | none => .ok := by rw [w1]; show (match gapF xs S with | some c => WS.block c | none => match sideF xs S es with | some p => .sides p.1 p.2.1 p.2.2 | none => .ok) = _; rw [hg]
    refine ⟨_, rfl, rfl, _, rfl, iteF ?_⟩
    -- sides
    refine ⟨.ref a, rfl, .ref l, rfl, .ref f, rfl, a, l, f, xs, as, es, S, rfl, (hL.kp k5 hT).at_, hE.kp k5 hT, (hF.kp k5 hT).at_, hL.few, k5.tab, fun H6 v k6' hv => ?_⟩
    refine q H6 v (k5.trans k6') ?_
    rw [w1]
    cases hs : sideF xs S es with
    | none =>
      rw [hs] at hv
      exact hv
    | some p =>
      rw [hs] at hv
      obtain ⟨p', e, hp0, hp1⟩ := hv
      exact ⟨p', e, k5.free hT hp0, hp1⟩
def canS : WS → Bool
  | .ok => true
  | _ => false
theorem rsV_non {H H' : Hp} {v : V} {y : WS} (h : RsV H H' v (wsT y)) : decide (v = .non) = canS y := by
  cases y with
  | ok => exact decide_eq_true h
  | size i => obtain ⟨p, rfl, _⟩ := h; rfl
  | moment t => obtain ⟨p, rfl, _⟩ := h; rfl
  | block c => obtain ⟨p, rfl, _⟩ := h; rfl
  | sides l r d => obtain ⟨p, rfl, _⟩ := h; rfl
def spCanStay (K : PySem.W.Frag) (Ps : List Addr) : Sp := fun vs H Q _ => ∃ (a l f : Addr) (xs : List Str) (as : List Addr) (es : List Ev) (S : List Str), vs = [.ref a, .ref l, .ref f] ∧ LaneAt K H a xs ∧ laneB xs = true ∧ LogAt K H l as es ∧ logB xs xs.length es = true ∧ LaneAt K H f S ∧ laneB S = true ∧ (∀ c ∈ S, c ∈ xs ++ arrs es) ∧ Tabs Ps H ∧
  ∀ H', Kp Ps H H' → Q (.bl (canS (whyS xs es S))) H'
theorem ok_canStay {f fY : Addr} {fd fdY : FuncData} (F : Fun K "can_stay" "can_stay" sCanStay f fd)
    (GY : FnOk P w K mg base CX0 10 fY fdY ["start", "log", "cars"] (spWhyNS K Ps)) (mgY : mg "why_cannot_stay" = some (.ref fY)) (kY : PySem.W.keepIn K (.ref fY) = true) (bY : Binds K fdY ["start", "log", "cars"] []) :
    FnOk P w K mg base CX0 11 f fd ["start", "log", "cars"] (spCanStay K Ps) := by
  refine F.ok scCanStay (fun vs H Q E h => ?_) (fun cdv A outer s H vs Q E hr h => ?_)
  · obtain ⟨a, l, f, xs, as, es, S, rfl, _⟩ := h
    rfl
  · obtain ⟨a, l, f, xs, as, es, S, rfl, hL, hB, hE, hB2, hF, hFB, hk, hT, q⟩ := h
    refine ⟨_, pss_one (ps_ret (pe_cmpR op_isN (pe_call GY hr (by rfl) mgY kY bY .nil pass0 (pa_cons (pv 0) (pa_cons (pv 1) (pa_cons (pv 2) pa_nil)))) pe_non (nomark _))), ?_⟩
    refine ⟨.ref a, rfl, .ref l, rfl, .ref f, rfl, a, l, f, xs, as, es, S, rfl, hL, hB, hE, hB2, hF, hFB, hk, hT, fun H' v k hv => ⟨rfl, ?_⟩⟩
    rw [rsV_non hv]
    exact q H' k
end
end Ln


set_option Elab.async false
set_option linter.all false
set_option maxRecDepth 100000
set_option maxHeartbeats 4000000
namespace Ln
open PySem PySem.Spec PyProof.Rows L2 GxR
/-! ### require_cars of any values -/
theorem dep_of {d : PyData} (h : depBD d = true) : d = outD := by
  match d, h with
  | .tuple [.str y], h =>
    have h : decide (y = "out") = true := h
    rw [of_decide_eq_true h]
    rfl
/-- what is a log is a log of events -/
theorem evs_of : ∀ {ds : List PyData} {us : List Str} {n : Nat}, logW us n ds = true → ∃ es : List Ev, ds = es.map Ev.dat ∧ logB us n es = true
  | [], _, _, _ => ⟨[], rfl, rfl⟩
  | d :: r, us, n, h => by
    rw [logW_cons] at h
    split at h
    · rename_i ha
      obtain ⟨c, rfl, hc⟩ := arr_of ha
      have h : (if ¬ c ∈ us then logW (c :: us) (n + 1) r else false) = true := h
      split at h
      · rename_i hn
        obtain ⟨es, rfl, hB⟩ := evs_of h
        exact ⟨.inn c :: es, rfl, by show (if carB c = true ∧ ¬ c ∈ us then logB (c :: us) (n + 1) es else false) = true; rw [if_pos ⟨hc, hn⟩]; exact hB⟩
      · cases h
    · split at h
      · rename_i hd
        have := dep_of hd
        subst this
        split at h
        · rename_i hn
          obtain ⟨es, rfl, hB⟩ := evs_of h
          exact ⟨.out :: es, rfl, by show (if 0 < n then logB us (n - 1) es else false) = true; rw [if_pos hn]; exact hB⟩
        · cases h
      · cases h
theorem dv_evsAt {K : PySem.W.Frag} {H : Hp} : ∀ {es : List Ev} {vs : List V}, DvAll K H vs (es.map Ev.dat) → ∃ as : List Addr, vs = as.map V.ref ∧ EvsAt K H as es
  | [], _, h => by
    cases h
    exact ⟨[], rfl, .nil⟩
  | e :: r, _, h => by
    cases h with
    | cons a b =>
      obtain ⟨as, rfl, hE⟩ := dv_evsAt b
      cases e with
      | inn c =>
        cases a with
        | @tup x xs _ s al =>
          cases al with
          | cons a1 t1 =>
            cases a1
            cases t1 with
            | cons a2 t2 =>
              cases a2
              cases t2
              exact ⟨x :: as, rfl, .cons s hE⟩
      | out =>
        cases a with
        | @tup x xs _ s al =>
          cases al with
          | cons a1 t1 =>
            cases a1
            cases t1
            exact ⟨x :: as, rfl, .cons s hE⟩
theorem dat_inj : ∀ {es es' : List Ev}, es.map Ev.dat = es'.map Ev.dat → es = es'
  | [], [], _ => rfl
  | [], _ :: _, h => by cases h
  | _ :: _, [], h => by cases h
  | a :: r, b :: t, h => by
    have h := List.cons.inj h
    have e : a = b := by
      cases a <;> cases b
      · have := h.1
        injection this with this
        injection this with _ this
        injection this with this
        injection this with this
        rw [this]
      · have := h.1
        injection this with this
        injection this with this _
        injection this with this
        exact absurd this (by decide +kernel)
      · have := h.1
        injection this with this
        injection this with this _
        injection this with this
        exact absurd this (by decide +kernel)
      · rfl
    rw [e, dat_inj h.2]
/-- a valid lane and log among the data -/
theorem good_log {K : PySem.W.Frag} {H : Hp} {v u : V} {d e : PyData} {xs : List Str} (hv : Dv K H v d) (hu : Dv K H u e) (zd : SzA d) (hl : laneO d = some xs) (hg : logD xs e = true) (few : ∀ ds, e = .list ds → ds.length ≤ 400) : ∃ (a l : Addr) (as : List Addr) (es : List Ev), v = .ref a ∧ u = .ref l ∧ LaneAt K H a xs ∧ laneB xs = true ∧ LogAt K H l as es ∧ logB xs xs.length es = true ∧ e = .list (es.map Ev.dat) := by
  obtain ⟨⟨ds, rfl, hs⟩, hB, _⟩ := laneO_some hl
  cases hv with
  | @tup a vs _ hS hA =>
    obtain ⟨e1, e2, e3⟩ := hA.strs hs
    subst e1
    have hlen := zd.1 ds rfl
    rw [e2, List.length_map] at hlen
    cases hu with
    | @lst l us es0 hSL hAL =>
      obtain ⟨es, rfl, hB2⟩ := evs_of (show logW xs xs.length es0 = true from hg)
      obtain ⟨as, rfl, hE⟩ := dv_evsAt hAL
      have h4 := few _ rfl
      rw [List.length_map] at h4
      refine ⟨a, l, as, es, rfl, rfl, ⟨hS, hlen, e3⟩, hB, ⟨hSL, hE, h4, fun c hc => ?_⟩, hB2, rfl⟩
      exact car_sz (logB_cars _ _ _ hB2 c (mem_arrs hc))
    | _ => cases hg
/-- what is due of a lane, a log, a set of cars -/
def DueC (CL CG CC CU : Addr) (d e g : PyData) (C : Addr) : Prop := reqLogO CL CG d e = some C ∨ (reqLogO CL CG d e = none ∧ laneD g = false ∧ C = CC) ∨
  ∃ (xs : List Str) (es : List Ev) (S : List Str), d = .tuple (xs.map PyData.str) ∧ e = .list (es.map Ev.dat) ∧ g = .tuple (S.map PyData.str) ∧ laneB xs = true ∧ logB xs xs.length es = true ∧ laneB S = true ∧ es.length ≤ 400 ∧ (∃ c ∈ S, ¬ c ∈ xs ++ arrs es) ∧ C = CU
def BadC (K : PySem.W.Frag) (Ps : List Addr) (CL CG CC CU : Addr) (vs : List V) (H : Hp) (C : Addr) : Prop := ∃ (v u y : V) (d e g : PyData), vs = [v, u, y] ∧ Dv K H v d ∧ Dv K H u e ∧ Dv K H y g ∧ SzA d ∧ SzA e ∧ SzA g ∧ Tabs Ps H ∧ DueC CL CG CC CU d e g C
def spCarsX (K : PySem.W.Frag) (Ps : List Addr) (CL CG CC CU : Addr) : Sp := fun vs H _ E => ∃ C, BadC K Ps CL CG CC CU vs H C ∧ ∀ H', Kp Ps H H' → E (.ref C) none H'
theorem BadC.kp {K : PySem.W.Frag} {Ps : List Addr} {CL CG CC CU C : Addr} {vs : List V} {H H1 : Hp} (h : BadC K Ps CL CG CC CU vs H C) (k : Kp Ps H H1) : BadC K Ps CL CG CC CU vs H1 C := by
  obtain ⟨v, u, y, d, e, g, e1, h1, h2, h3, h4, h5, h6, h7, h8⟩ := h
  exact ⟨v, u, y, d, e, g, e1, h1.kp k h7, h2.kp k h7, h3.kp k h7, h4, h5, h6, k.tab, h8⟩
section
variable {P : Program} {w : World} {K : PySem.W.Frag} {mg : Str → Option Value} {base : Heap} {Ps : List Addr}
theorem ok_reqCarsX {f fL fI fN CL CG CC CU : Addr} {fd fdL fdI fdN : FuncData} (F : Fun K "require_cars" "require_cars" sReqCars f fd) (XC : Xc K mg "InvalidCars" CC) (XU : Xc K mg "UnknownCar" CU)
    (GL : FnOk P w K mg base (L2.CX P w) 7 fL fdL ["start", "log"] (spReqLogX K Ps CL CG)) (mgL : mg "require_log" = some (.ref fL)) (kL : PySem.W.keepIn K (.ref fL) = true) (bL : Binds K fdL ["start", "log"] [])
    (GI : FnOk P w K mg base CX0 4 fI fdI ["value"] (spLaneA K Ps)) (mgI : mg "is_lane" = some (.ref fI)) (kI : PySem.W.keepIn K (.ref fI) = true) (bI : Binds K fdI ["value"] [])
    (GN : FnOk P w K mg base CX0 8 fN fdN ["start", "log"] (spNumbers K Ps)) (mgN : mg "numbers" = some (.ref fN)) (kN : PySem.W.keepIn K (.ref fN) = true) (bN : Binds K fdN ["start", "log"] []) : FnOk P w K mg base (L2.CX P w) 9 f fd ["start", "log", "cars"] (spCarsX K Ps CL CG CC CU) := by
  refine F.okX scReqCars (fun vs H Q E h => ?_) (fun cdv A outer s H vs Q E hr h => ?_)
  · obtain ⟨C, ⟨v, u, y, d, e, g, rfl, _⟩, _⟩ := h
    rfl
  · obtain ⟨C, ⟨v, u, y, d, e, g, rfl, hd, he, hg, zd, ze, zg, hT, due⟩, q⟩ := h
    refine ⟨_, pss_cons (ps_expr (pe_call GL (hr.mono (by decide)) (by rfl) mgL kL bL .nil (passes_call (takes_of rfl rfl rfl rfl) fun _ _ _ _ h => h) (pa_cons (pv 0) (pa_cons (pv 1) pa_nil))))
      (pss_cons (ps_if (pt_not (pt_val (pe_call GI (hr.mono (by decide)) (by rfl) mgI kI bI .nil pass0 (pa_cons (pv 2) pa_nil)))) (pss_one (ps_raise rfl (takes_of rfl rfl rfl rfl) (pmk_own PySem.F.excBase_ValueError XC.x XC.g XC.k (raises_own XC.b XC.t) rfl))) pss_nil)
      (pss_cons (ps_set (i := 3) scReqCars.nd rfl (.inl rfl) (pe_call GN hr (by rfl) mgN kN bN .nil pass0 (pa_cons (pv 0) (pa_cons (pv 1) pa_nil))))
      (pss_one (ps_for (passes_of rfl) rfl (pi_tup (pv 2)) (pg_name (i := 4) scReqCars.nd rfl (.inl rfl)) (pss_one (ps_if (pt_cmpR op_notIn_seq (pv 4) (pv 3) (by rfl)) (pss_one (ps_raise rfl (takes_of rfl rfl rfl rfl) (SkE.pmk_own1 PySem.F.excBase_ValueError XU.x XU.g XU.k (raises_own XU.b XU.t) rfl (pe_joined (.cons (pe_fmt (pv 4)) (.cons pe_str .nil)))))) pss_nil)))))), ?_⟩
    refine ⟨v, rfl, u, rfl, v, u, d, e, rfl, hd, he, zd, ze, hT, ?_⟩
    rcases due with h | ⟨h1, h2, rfl⟩ | ⟨xs, es, S, rfl, rfl, rfl, hB, hB2, hSB, few, hno, rfl⟩
    · rw [h]
      exact q
    · rw [h1]
      intro H1 k1
      refine ⟨y, rfl, y, g, rfl, hg.kp k1 hT, (fun ds e => by have := zg.1 ds e; omega), k1.tab, fun H2 k2 => ⟨_, rfl, ?_⟩⟩
      rw [h2]
      exact iteT (q H2 (k1.trans k2))
    · have r1 : reqLogO CL CG (.tuple (xs.map PyData.str)) (.list (es.map Ev.dat)) = none := by
        unfold reqLogO
        rw [laneO_strs hB]
        exact if_pos (logD_evs hB2)
      rw [r1]
      intro H1 k1
      have hl : laneD (.tuple (S.map PyData.str)) = true := (laneO_some (laneO_strs hSB)).2.2
      refine ⟨y, rfl, y, _, rfl, hg.kp k1 hT, (fun ds e => by have := zg.1 ds e; omega), k1.tab, fun H2 k2 => ⟨_, rfl, ?_⟩⟩
      rw [hl]
      have k02 := k1.trans k2
      have scar := carsOf hSB
      obtain ⟨a, l, as, es', rfl, rfl, hA, _, hLg, _, ee⟩ := good_log (hd.kp k02 hT) (he.kp k02 hT) zd (laneO_strs hB) (logD_evs hB2) (fun ds z => by cases z; rw [List.length_map]; exact few)
      have ee : es = es' := dat_inj (PyData.list.inj ee)
      subst ee
      refine iteF ⟨_, rfl, _, rfl, a, l, xs, as, es, rfl, hA, hB, hLg, hB2, k02.tab, fun H3 p k3 hp hp3 => ?_⟩
      have k03 := k02.trans k3
      cases hg.kp k03 hT with
      | @tup fS vs _ hS al =>
        obtain ⟨e1, _, _⟩ := al.strs (strsD_map S)
        subst e1
        refine ⟨_, rfl, fS, rfl, ⟨_, hS⟩, for_tup (K := K) (a := fS) (xs := S.map V.str) (fun i σ H' => ∃ v4 : Option V, σ = [some (.ref a), some (.ref l), some (.ref fS), some (.ref p), v4] ∧ H' = H3 ∧ ∀ c ∈ S.take i, c ∈ xs ++ arrs es) ?_ ?_ ?_ ?_⟩
        · exact ⟨none, rfl, rfl, fun c hc => by rw [List.take_zero] at hc; cases hc⟩
        · rintro i σ H' _ ⟨_, _, rfl, _⟩
          exact hS
        · rintro i x σ H' hi ⟨v4, rfl, rfl, hall⟩
          have hlt : i < S.length := by
            have h1 := (List.getElem?_eq_some_iff.mp hi).1
            rw [List.length_map] at h1
            omega
          rw [List.getElem?_map, List.getElem?_eq_getElem hlt] at hi
          obtain rfl := Option.some.inj hi
          refine ⟨_, rfl, .ref p, rfl, p, _, rfl, .inl (SqL.of hp3), rfl, flat_strs _, _, rfl, ?_⟩
          show if (!inV (.str S[i]) ((xs ++ arrs es).map V.str)) = true then _ else _
          rw [inV_strs]
          by_cases hc : S[i] ∈ xs ++ arrs es
          · rw [decide_eq_true hc]
            refine iteF ⟨_, rfl, rfl, fun c hm => ?_⟩
            rw [List.take_add_one, List.getElem?_eq_getElem hlt] at hm
            rcases List.mem_append.mp hm with h | h
            · exact hall c h
            · rw [List.mem_singleton.mp (show c ∈ [S[i]] from h)]
              exact hc
          · rw [decide_eq_false hc]
            have h4 := carLen (scar _ (List.getElem_mem hlt))
            refine iteT ⟨_, rfl, .inl ⟨S[i], rfl, by rw [sizeLine_eq]; omega, _, rfl, ?_, _, rfl, ?_, q _ k03⟩⟩
            · rw [sizeLine_eq]
              show (Str.empty ++ S[i]).length ≤ _
              rw [strLen_append]
              show 0 + _ ≤ _
              omega
            · rw [sizeLine_eq, strLen_append, strLen_append]
              have : (" is not in the first lane and does not arrive" : Str).length ≤ 100 := by decide +kernel
              show 0 + _ + _ ≤ _
              omega
        · rintro σ H' ⟨v4, rfl, rfl, hall⟩
          obtain ⟨c, hc, hn⟩ := hno
          rw [List.length_map, List.take_length] at hall
          exact absurd (hall c hc) hn
theorem ok_whyNSX {f fR CL CG CC CU : Addr} {fd fdR : FuncData} (F : Fun K "why_cannot_stay" "why_cannot_stay" sWhyNotStay f fd)
    (GR : FnOk P w K mg base (L2.CX P w) 9 fR fdR ["start", "log", "cars"] (spCarsX K Ps CL CG CC CU)) (mgR : mg "require_cars" = some (.ref fR)) (kR : PySem.W.keepIn K (.ref fR) = true) (bR : Binds K fdR ["start", "log", "cars"] []) : FnOk P w K mg base (L2.CX P w) 10 f fd ["start", "log", "cars"] (spCarsX K Ps CL CG CC CU) := by
  refine F.okX scWhyNS (fun vs H Q E h => ?_) (fun cdv A outer s H vs Q E hr h => ?_)
  · obtain ⟨C, ⟨v, u, y, d, e, g, rfl, _⟩, _⟩ := h
    rfl
  · obtain ⟨C, bd, q⟩ := h
    obtain ⟨v, u, y, d, e, g, rfl, _⟩ := id bd
    refine ⟨_, pss_cons (ps_expr (pe_call GR hr (by rfl) mgR kR bR .nil (passes_call (takes_of rfl rfl rfl rfl) fun _ _ _ _ h => h) (pa_cons (pv 0) (pa_cons (pv 1) (pa_cons (pv 2) pa_nil))))) pss_dead, ?_⟩
    exact ⟨v, rfl, u, rfl, y, rfl, C, bd, q⟩
theorem ok_canStayX {f fY CL CG CC CU : Addr} {fd fdY : FuncData} (F : Fun K "can_stay" "can_stay" sCanStay f fd)
    (GY : FnOk P w K mg base (L2.CX P w) 10 fY fdY ["start", "log", "cars"] (spCarsX K Ps CL CG CC CU)) (mgY : mg "why_cannot_stay" = some (.ref fY)) (kY : PySem.W.keepIn K (.ref fY) = true) (bY : Binds K fdY ["start", "log", "cars"] []) : FnOk P w K mg base (L2.CX P w) 11 f fd ["start", "log", "cars"] (spCarsX K Ps CL CG CC CU) := by
  refine F.okX scCanStay (fun vs H Q E h => ?_) (fun cdv A outer s H vs Q E hr h => ?_)
  · obtain ⟨C, ⟨v, u, y, d, e, g, rfl, _⟩, _⟩ := h
    rfl
  · obtain ⟨C, bd, q⟩ := h
    obtain ⟨v, u, y, d, e, g, rfl, _⟩ := id bd
    refine ⟨_, pss_one (ps_ret (pe_cmpR op_isN (pe_call GY hr (by rfl) mgY kY bY .nil (passes_call (takes_of rfl rfl rfl rfl) fun _ _ _ _ h => h) (pa_cons (pv 0) (pa_cons (pv 1) (pa_cons (pv 2) pa_nil)))) pe_non (nomark _))), ?_⟩
    exact ⟨v, rfl, u, rfl, y, rfl, C, bd, q⟩
end
end Ln


set_option Elab.async false
set_option linter.all false
set_option maxRecDepth 100000
set_option maxHeartbeats 4000000
namespace Ln
open PySem
/-! ### point 12: the conditions of a set, and two of its lanes -/
section
variable {S T : List Str} (h : ∀ c, c ∈ S ↔ c ∈ T)
include h
theorem plcs_mem : ∀ (xs : List Str) (i : Nat), plcs S i xs = plcs T i xs
  | [], _ => rfl
  | c :: r, i => by
    show (if c ∈ S then _ else _) = (if c ∈ T then _ else _)
    rw [plcs_mem r (i + 1)]
    by_cases q : c ∈ S
    · rw [if_pos q, if_pos ((h c).mp q)]
    · rw [if_neg q, if_neg fun z => q ((h c).mpr z)]
theorem brg_mem (xs : List Str) : brg xs S = brg xs T := by
  show brgL (plcs S 0 xs) = brgL (plcs T 0 xs)
  rw [plcs_mem h]
theorem ext_mem : ∀ (es : List Ev) (x : Int), extL S x es = extL T x es
  | [], _ => rfl
  | .out :: r, x => by
    show x :: extL S (x - 1) r = x :: extL T (x - 1) r
    rw [ext_mem r]
  | .inn c :: r, x => by
    show x :: extL S (if c ∈ S then x else x + 1) r = x :: extL T (if c ∈ T then x else x + 1) r
    rw [ext_mem r]
    by_cases q : c ∈ S
    · rw [if_pos q, if_pos ((h c).mp q)]
    · rw [if_neg q, if_neg fun z => q ((h c).mpr z)]
theorem filt_mem (xs : List Str) : (xs.filter fun c => decide (c ∈ S)) = xs.filter fun c => decide (c ∈ T) := List.filter_congr fun c _ => decide_eq_decide.mpr (h c)
theorem ext0_mem (xs : List Str) (es : List Ev) : ext0 xs S es = ext0 xs T es := by
  show extL S ((xs.length : Int) - stayN xs S) es = extL T ((xs.length : Int) - stayN xs T) es
  have : stayN xs S = stayN xs T := by
    unfold stayN
    rw [filt_mem h]
  rw [this, ext_mem h]
theorem dep_mem : ∀ (es : List Ev) (n : Nat), depB4 S n es = depB4 T n es
  | [], _ => rfl
  | .out :: r, n => dep_mem r (n + 1)
  | .inn c :: r, n => by
    show (if c ∈ S then some n else depB4 S n r) = (if c ∈ T then some n else depB4 T n r)
    rw [dep_mem r n]
    by_cases q : c ∈ S
    · rw [if_pos q, if_pos ((h c).mp q)]
    · rw [if_neg q, if_neg fun z => q ((h c).mpr z)]
end
theorem why_ok_iff {xs F : List Str} {es : List Ev} : why xs es F = .ok ↔ carsOk xs es F = true ∧ hasBlk xs F = true ∧ fpk (F.map fun c => (xs ++ arrs es).idxOf c) = none ∧ fneg (ext0 xs F es) = none ∧ swC xs es F = none := by
  refine ⟨why_ok_parts, fun ⟨h1, h2, h3, h4, h5⟩ => ?_⟩
  unfold why
  rw [if_neg (by rw [h1]; decide), if_neg (by rw [h2]; decide), h3]
  show (match fneg (ext0 xs F es) with | some t => Why.moment t | none => match swC xs es F with | some (b, c) => .switch b c | none => .ok) = _
  rw [h4]
  show (match swC xs es F with | some (b, c) => Why.switch b c | none => .ok) = _
  rw [h5]
end Ln
namespace Ln
open PySem
theorem sw_r0 {F : List Str} : ∀ (r : List Ev) (l : Nat) (nL nR x : Int) (b : Option Str), (∀ c ∈ arrs r, c ∈ F → ¬ F.idxOf c < l) → nR ≤ 0 → swG F (some l) nL nR x b r = none
  | [], _, _, _, _, _, _, _ => rfl
  | .out :: r, l, nL, nR, x, b, h, h0 => sw_r0 r l (nL - 1) (nR - 1) (x - 1) b h (by omega)
  | .inn c :: r, l, nL, nR, x, b, h, h0 => by
    have h' : ∀ c ∈ arrs r, c ∈ F → ¬ F.idxOf c < l := fun d hd => h d (by rw [arrs_cons]; exact List.mem_append_right _ hd)
    show (if c ∈ F then (if F.idxOf c < l then (if 0 < nL then some (b, c) else swG F (some l) 0 x x (some c) r) else (if 0 < nR then some (b, c) else swG F (some l) x 0 x (some c) r)) else swG F (some l) nL nR (x + 1) b r) = none
    by_cases hc : c ∈ F
    · rw [if_pos hc, if_neg (h c (by rw [arrs_cons]; exact List.mem_append_left _ List.mem_cons_self) hc), if_neg (by omega)]
      exact sw_r0 r l x 0 x _ h' (Int.le_refl _)
    · rw [if_neg hc]
      exact sw_r0 r l nL nR _ b h' h0
theorem sw_l0 {F : List Str} : ∀ (r : List Ev) (l : Nat) (nL nR x : Int) (b : Option Str), (∀ c ∈ arrs r, c ∈ F → F.idxOf c < l) → nL ≤ 0 → swG F (some l) nL nR x b r = none
  | [], _, _, _, _, _, _, _ => rfl
  | .out :: r, l, nL, nR, x, b, h, h0 => sw_l0 r l (nL - 1) (nR - 1) (x - 1) b h (by omega)
  | .inn c :: r, l, nL, nR, x, b, h, h0 => by
    have h' : ∀ c ∈ arrs r, c ∈ F → F.idxOf c < l := fun d hd => h d (by rw [arrs_cons]; exact List.mem_append_right _ hd)
    show (if c ∈ F then (if F.idxOf c < l then (if 0 < nL then some (b, c) else swG F (some l) 0 x x (some c) r) else (if 0 < nR then some (b, c) else swG F (some l) x 0 x (some c) r)) else swG F (some l) nL nR (x + 1) b r) = none
    by_cases hc : c ∈ F
    · rw [if_pos hc, if_pos (h c (by rw [arrs_cons]; exact List.mem_append_left _ List.mem_cons_self) hc), if_neg (by omega)]
      exact sw_l0 r l 0 x x _ h' (Int.le_refl _)
    · rw [if_neg hc]
      exact sw_l0 r l nL nR _ b h' h0
/-- all arriving stayers on the right -/
theorem sw_r {F : List Str} : ∀ (r : List Ev) (l : Nat) (nL nR x : Int) (b : Option Str) (n : Nat), (∀ c ∈ arrs r, c ∈ F → ¬ F.idxOf c < l) → (swG F (some l) nL nR x b r = none ↔ ∀ d, depB4 F n r = some d → nR + n ≤ d)
  | [], _, _, _, _, _, _, _ => ⟨(fun _ d hd => nomatch hd), fun _ => rfl⟩
  | .out :: r, l, nL, nR, x, b, n, h => by
    have := sw_r r l (nL - 1) (nR - 1) (x - 1) b (n + 1) h
    show swG F (some l) (nL - 1) (nR - 1) (x - 1) b r = none ↔ ∀ d, depB4 F (n + 1) r = some d → nR + n ≤ d
    rw [this]
    exact ⟨fun z d hd => by have := z d hd; omega, fun z d hd => by have := z d hd; omega⟩
  | .inn c :: r, l, nL, nR, x, b, n, h => by
    have h' : ∀ c ∈ arrs r, c ∈ F → ¬ F.idxOf c < l := fun d hd => h d (by rw [arrs_cons]; exact List.mem_append_right _ hd)
    show (if c ∈ F then (if F.idxOf c < l then (if 0 < nL then some (b, c) else swG F (some l) 0 x x (some c) r) else (if 0 < nR then some (b, c) else swG F (some l) x 0 x (some c) r)) else swG F (some l) nL nR (x + 1) b r) = none ↔ ∀ d, (if c ∈ F then some n else depB4 F n r) = some d → nR + n ≤ d
    by_cases hc : c ∈ F
    · rw [if_pos hc, if_neg (h c (by rw [arrs_cons]; exact List.mem_append_left _ List.mem_cons_self) hc), if_pos hc]
      by_cases q : 0 < nR
      · rw [if_pos q]
        exact ⟨(fun z => nomatch z), fun z => absurd (z n rfl) (by omega)⟩
      · rw [if_neg q]
        exact ⟨(fun _ d hd => by have := Option.some.inj hd; omega), fun _ => sw_r0 r l x 0 x _ h' (Int.le_refl _)⟩
    · rw [if_neg hc, if_neg hc]
      exact sw_r r l nL nR _ b n h'
theorem sw_l {F : List Str} : ∀ (r : List Ev) (l : Nat) (nL nR x : Int) (b : Option Str) (n : Nat), (∀ c ∈ arrs r, c ∈ F → F.idxOf c < l) → (swG F (some l) nL nR x b r = none ↔ ∀ d, depB4 F n r = some d → nL + n ≤ d)
  | [], _, _, _, _, _, _, _ => ⟨(fun _ d hd => nomatch hd), fun _ => rfl⟩
  | .out :: r, l, nL, nR, x, b, n, h => by
    have := sw_l r l (nL - 1) (nR - 1) (x - 1) b (n + 1) h
    show swG F (some l) (nL - 1) (nR - 1) (x - 1) b r = none ↔ ∀ d, depB4 F (n + 1) r = some d → nL + n ≤ d
    rw [this]
    exact ⟨fun z d hd => by have := z d hd; omega, fun z d hd => by have := z d hd; omega⟩
  | .inn c :: r, l, nL, nR, x, b, n, h => by
    have h' : ∀ c ∈ arrs r, c ∈ F → F.idxOf c < l := fun d hd => h d (by rw [arrs_cons]; exact List.mem_append_right _ hd)
    show (if c ∈ F then (if F.idxOf c < l then (if 0 < nL then some (b, c) else swG F (some l) 0 x x (some c) r) else (if 0 < nR then some (b, c) else swG F (some l) x 0 x (some c) r)) else swG F (some l) nL nR (x + 1) b r) = none ↔ ∀ d, (if c ∈ F then some n else depB4 F n r) = some d → nL + n ≤ d
    by_cases hc : c ∈ F
    · rw [if_pos hc, if_pos (h c (by rw [arrs_cons]; exact List.mem_append_left _ List.mem_cons_self) hc), if_pos hc]
      by_cases q : 0 < nL
      · rw [if_pos q]
        exact ⟨(fun z => nomatch z), fun z => absurd (z n rfl) (by omega)⟩
      · rw [if_neg q]
        exact ⟨(fun _ d hd => by have := Option.some.inj hd; omega), fun _ => sw_l0 r l 0 x x _ h' (Int.le_refl _)⟩
    · rw [if_neg hc, if_neg hc]
      exact sw_l r l nL nR _ b n h'
/-- all stayers arrive, and all on the right -/
theorem sw_n {F : List Str} : ∀ (r : List Ev) (nL nR x : Int) (b : Option Str), (arrs r).filter (fun c => decide (c ∈ F)) = F → swG F none nL nR x b r = none
  | [], _, _, _, _, _ => rfl
  | .out :: r, nL, nR, x, b, h => sw_n r (nL - 1) (nR - 1) (x - 1) b h
  | .inn c :: r, nL, nR, x, b, h => by
    have e : arrs (.inn c :: r) = c :: arrs r := rfl
    rw [e] at h
    show (if c ∈ F then swG F (some (F.idxOf c)) 0 0 x (some c) r else swG F none nL nR (x + 1) b r) = none
    by_cases hc : c ∈ F
    · rw [if_pos hc]
      rw [List.filter_cons_of_pos (by simpa using hc)] at h
      have h0 : F.idxOf c = 0 := by
        rw [← h]
        simp
      rw [h0]
      exact sw_r0 r 0 0 0 x _ (fun d _ _ => Nat.not_lt_zero _) (Int.le_refl _)
    · rw [if_neg hc]
      rw [List.filter_cons_of_neg (by simpa using hc)] at h
      exact sw_n r nL nR _ b h
end Ln
namespace Ln
open PySem
theorem fpk_asc {kn F : List Str} (hn : kn.Nodup) (h : F.Sublist kn) : (F.map fun c => kn.idxOf c).Pairwise (fun a b => a < b) := by
  have h1 := (mid_asc (A := []) (B := kn) (C := []) (R := []) (by simpa using hn)).1
  simp only [List.nil_append, List.append_nil] at h1
  exact List.pairwise_map.mpr (h1.sublist h)
theorem stay_iff {xs S : List Str} {es : List Ev} (hn : (xs ++ arrs es).Nodup) (hS : S.Nodup) (hk : ∀ c ∈ S, c ∈ xs ++ arrs es) (hsz : (S.length : Int) = endI xs.length es) :
    whyS xs es S = .ok ↔ Run xs es ((xs.filter fun c => decide (c ∈ S)) ++ (arrs es).filter fun c => decide (c ∈ S)) ∨ Run xs es (((arrs es).filter fun c => decide (c ∈ S)).reverse ++ xs.filter fun c => decide (c ∈ S)) := by
  generalize hrun : (xs.filter fun c => decide (c ∈ S)) = run
  generalize hlate : ((arrs es).filter fun c => decide (c ∈ S)) = late
  have nx := (List.nodup_append.mp hn).1
  have ne := (List.nodup_append.mp hn).2.1
  have dis := (List.nodup_append.mp hn).2.2
  have rs : run.Sublist xs := by rw [← hrun]; exact List.filter_sublist
  have ls : late.Sublist (arrs es) := by rw [← hlate]; exact List.filter_sublist
  have rm : ∀ c, c ∈ run ↔ c ∈ xs ∧ c ∈ S := fun c => by rw [← hrun, List.mem_filter, decide_eq_true_iff]
  have lm : ∀ c, c ∈ late ↔ c ∈ arrs es ∧ c ∈ S := fun c => by rw [← hlate, List.mem_filter, decide_eq_true_iff]
  have m1 : ∀ c, c ∈ run ++ late ↔ c ∈ S := fun c => by
    rw [List.mem_append, rm, lm]
    refine ⟨fun z => z.elim (·.2) (·.2), fun z => ?_⟩
    rcases List.mem_append.mp (hk c z) with w | w
    · exact .inl ⟨w, z⟩
    · exact .inr ⟨w, z⟩
  have m2 : ∀ c, c ∈ late.reverse ++ run ↔ c ∈ S := fun c => by
    rw [← m1 c, List.mem_append, List.mem_append, List.mem_reverse]
    exact Or.comm
  have n1 : (run ++ late).Nodup := hn.sublist (rs.append ls)
  have p12 : (late.reverse ++ run).Perm (run ++ late) := (List.perm_append_comm).trans ((List.reverse_perm late).append_left run)
  have n2 : (late.reverse ++ run).Nodup := p12.nodup_iff.mpr n1
  have pS : (run ++ late).Perm S := (List.perm_ext_iff_of_nodup n1 hS).mpr m1
  have l1 : (run ++ late).length = S.length := pS.length_eq
  have l2 : (late.reverse ++ run).length = S.length := (p12.trans pS).length_eq
  have c1 : carsOk xs es (run ++ late) = true := by
    unfold carsOk
    rw [Bool.and_eq_true]
    exact ⟨decide_eq_true (by rw [l1]; exact hsz), List.all_eq_true.mpr fun c hc => decide_eq_true (hk c ((m1 c).mp hc))⟩
  have c2 : carsOk xs es (late.reverse ++ run) = true := by
    unfold carsOk
    rw [Bool.and_eq_true]
    exact ⟨decide_eq_true (by rw [l2]; exact hsz), List.all_eq_true.mpr fun c hc => decide_eq_true (hk c ((m2 c).mp hc))⟩
  have lx : ∀ c ∈ late, c ∉ xs := fun c hc z => dis c z c ((lm c).mp hc).1 rfl
  have rx : ∀ c ∈ run, c ∈ xs := fun c hc => ((rm c).mp hc).1
  have b1 : brg (run ++ late) xs = if run = [] then (0, 0) else (0, run.length) := by
    have := brg_mid (A := []) (B := run) (C := late) (S := xs) (fun x hx => nomatch hx) rx lx
    simpa using this
  have b2 : brg (late.reverse ++ run) xs = if run = [] then (0, 0) else (late.reverse.length, late.reverse.length + run.length) := by
    have := brg_mid (A := late.reverse) (B := run) (C := []) (S := xs) (fun x hx => lx x (List.mem_reverse.mp hx)) rx (fun x hx => nomatch hx)
    simpa using this
  have k1 : cutN (run ++ late) (brg (run ++ late) xs) = run := by
    rw [b1]
    by_cases q : run = []
    · rw [if_pos q, q]; rfl
    · rw [if_neg q]
      have := cut_mid [] run late
      simpa using this
  have k2 : cutN (late.reverse ++ run) (brg (late.reverse ++ run) xs) = run := by
    rw [b2]
    by_cases q : run = []
    · rw [if_pos q, q]; rfl
    · rw [if_neg q]
      have := cut_mid late.reverse run []
      simpa using this
  have hb1 : hasBlk xs (run ++ late) = decide (cutN xs (brg xs S) = run) := by
    unfold hasBlk
    rw [k1, brg_mem m1]
  have hb2 : hasBlk xs (late.reverse ++ run) = decide (cutN xs (brg xs S) = run) := by
    unfold hasBlk
    rw [k2, brg_mem m2]
  obtain ⟨A, M, C, e, hA, hC, hcut, hbrg⟩ := brg_cut xs S
  have hMr : M.filter (fun c => decide (c ∈ S)) = run := by
    have e1 : A.filter (fun c => decide (c ∈ S)) = [] := List.filter_eq_nil_iff.mpr fun x hx => by simpa using hA x hx
    have e2 : C.filter (fun c => decide (c ∈ S)) = [] := List.filter_eq_nil_iff.mpr fun x hx => by simpa using hC x hx
    rw [← hrun, e, List.filter_append, List.filter_append, e1, e2]
    simp
  have hgap : gapF xs S = none ↔ cutN xs (brg xs S) = run := by
    unfold gapF
    rw [hcut, List.find?_eq_none, ← hMr]
    constructor
    · intro z
      symm
      exact List.filter_eq_self.mpr fun c hc => by simpa using z c hc
    · intro z c hc
      have := List.filter_eq_self.mp z.symm c hc
      simpa using this
  have f1 : fpk ((run ++ late).map fun c => (xs ++ arrs es).idxOf c) = none := by
    have := fpk_valley (d := []) (u := (run ++ late).map fun c => (xs ++ arrs es).idxOf c) (by simp) (fpk_asc hn (rs.append ls))
    simpa using this
  have f2 : fpk ((late.reverse ++ run).map fun c => (xs ++ arrs es).idxOf c) = none := by
    rw [List.map_append, List.map_reverse]
    refine fpk_valley ?_ (fpk_asc hn (rs.trans (List.sublist_append_left _ _)))
    exact List.pairwise_reverse.mpr (fpk_asc hn (ls.trans (List.sublist_append_right _ _)))
  have w1 := why_ok_iff (xs := xs) (F := run ++ late) (es := es)
  have w2 := why_ok_iff (xs := xs) (F := late.reverse ++ run) (es := es)
  rw [why_iff hn n1] at w1
  rw [why_iff hn n2] at w2
  rw [w1, w2, hb1, hb2, ext0_mem m1, ext0_mem m2]
  have sw1 : swC xs es (run ++ late) = swG (run ++ late) (lo0 (brg (run ++ late) xs)) ((brg xs S).1 : Int) ((xs.length : Int) - (brg xs S).2) ((xs.length : Int) - stayN xs (run ++ late)) none es := by
    unfold swC
    rw [swF_G es (lo0 (brg (run ++ late) xs)) _ _ none 0 0 0 ((xs.length : Int) - stayN xs (run ++ late)) rfl rfl, brg_mem m1]
    have : (depL 0 es).getD 0 0 = 0 := by
      cases es with
      | nil => rfl
      | cons e r => cases e <;> rfl
    rw [this]
    congr 1 <;> omega
  have sw2 : swC xs es (late.reverse ++ run) = swG (late.reverse ++ run) (lo0 (brg (late.reverse ++ run) xs)) ((brg xs S).1 : Int) ((xs.length : Int) - (brg xs S).2) ((xs.length : Int) - stayN xs (late.reverse ++ run)) none es := by
    unfold swC
    rw [swF_G es (lo0 (brg (late.reverse ++ run) xs)) _ _ none 0 0 0 ((xs.length : Int) - stayN xs (late.reverse ++ run)) rfl rfl, brg_mem m2]
    have : (depL 0 es).getD 0 0 = 0 := by
      cases es with
      | nil => rfl
      | cons e r => cases e <;> rfl
    rw [this]
    congr 1 <;> omega
  have hw : whyS xs es S = .ok ↔ cutN xs (brg xs S) = run ∧ fneg (ext0 xs S es) = none ∧ sideF xs S es = none := by
    unfold whyS
    rw [if_neg (fun z => z hsz), ← hgap]
    cases hf : fneg (ext0 xs S es) with
    | some t => exact ⟨(fun z => nomatch z), fun z => nomatch z.2.1⟩
    | none =>
      show (match gapF xs S with | some c => WS.block c | none => match sideF xs S es with | some p => .sides p.1 p.2.1 p.2.2 | none => .ok) = .ok ↔ _
      cases hg : gapF xs S with
      | some c => exact ⟨(fun z => nomatch z), fun z => nomatch z.1⟩
      | none =>
        show (match sideF xs S es with | some p => WS.sides p.1 p.2.1 p.2.2 | none => .ok) = .ok ↔ _
        cases hs : sideF xs S es with
        | some p => exact ⟨(fun z => nomatch z), fun z => nomatch z.2.2⟩
        | none => exact ⟨fun _ => ⟨rfl, rfl, rfl⟩, fun _ => rfl⟩
  rw [hw]
  have dec : decide (cutN xs (brg xs S) = run) = true ↔ cutN xs (brg xs S) = run := decide_eq_true_iff
  by_cases hr0 : run = []
  · have s1 : swC xs es (run ++ late) = none := by
      rw [sw1, b1, if_pos hr0]
      refine sw_n es _ _ _ _ ?_
      rw [filt_mem m1, hlate, hr0]
      rfl
    constructor
    · rintro ⟨h1, h2, _⟩
      exact .inl ⟨c1, dec.mpr h1, f1, h2, s1⟩
    · intro z
      have h12 : cutN xs (brg xs S) = run ∧ fneg (ext0 xs S es) = none := by
        rcases z with ⟨_, h1, _, h2, _⟩ | ⟨_, h1, _, h2, _⟩
        · exact ⟨dec.mp h1, h2⟩
        · exact ⟨dec.mp h1, h2⟩
      refine ⟨h12.1, h12.2, ?_⟩
      have hM : M = [] := by rw [← hcut, h12.1]; exact hr0
      have h0 : (brg xs S).2 = 0 := by rw [hbrg, if_pos hM]
      unfold sideF
      cases depB4 S 0 es with
      | none => rfl
      | some d => show (if (brg xs S).2 = 0 then none else _) = none; rw [if_pos h0]
  · have hlr : run.length ≠ 0 := fun z => hr0 (List.eq_nil_of_length_eq_zero z)
    have o1 : lo0 (brg (run ++ late) xs) = some 0 := by
      rw [b1, if_neg hr0]
      show (if run.length = 0 then none else some 0) = _
      rw [if_neg hlr]
    have o2 : lo0 (brg (late.reverse ++ run) xs) = some late.reverse.length := by
      rw [b2, if_neg hr0]
      show (if late.reverse.length + run.length = 0 then none else some late.reverse.length) = _
      rw [if_neg (by omega)]
    have s1 : swC xs es (run ++ late) = none ↔ ∀ d, depB4 S 0 es = some d → ((xs.length : Int) - (brg xs S).2) ≤ d := by
      rw [sw1, o1, sw_r es 0 _ _ _ _ 0 (fun c _ _ => Nat.not_lt_zero _), dep_mem m1]
      exact ⟨fun z d hd => by have := z d hd; omega, fun z d hd => by have := z d hd; omega⟩
    have s2 : swC xs es (late.reverse ++ run) = none ↔ ∀ d, depB4 S 0 es = some d → ((brg xs S).1 : Int) ≤ d := by
      rw [sw2, o2, sw_l es _ _ _ _ _ 0 (fun c hc hcF => ?_), dep_mem m2]
      · exact ⟨fun z d hd => by have := z d hd; omega, fun z d hd => by have := z d hd; omega⟩
      · have hl : c ∈ late.reverse := List.mem_reverse.mpr ((lm c).mpr ⟨hc, (m2 c).mp hcF⟩)
        rw [List.idxOf_append, if_pos hl]
        exact List.idxOf_lt_length_of_mem hl
    have b := brg_le xs S
    have side : cutN xs (brg xs S) = run → (sideF xs S es = none ↔ ((∀ d, depB4 S 0 es = some d → ((xs.length : Int) - (brg xs S).2) ≤ d) ∨ ∀ d, depB4 S 0 es = some d → ((brg xs S).1 : Int) ≤ d)) := fun hc => by
      have hM : M = run := by rw [← hcut, hc]
      have h0 : (brg xs S).2 ≠ 0 := by
        rw [hbrg, if_neg (by rw [hM]; exact hr0)]
        show A.length + M.length ≠ 0
        rw [hM]
        omega
      unfold sideF
      cases hd : depB4 S 0 es with
      | none => exact ⟨fun _ => .inl (fun d h => nomatch h), fun _ => rfl⟩
      | some d =>
        show (if (brg xs S).2 = 0 then none else if d < min (brg xs S).1 (xs.length - (brg xs S).2) then some ((brg xs S).1, xs.length - (brg xs S).2, d) else none) = none ↔ _
        rw [if_neg h0]
        by_cases q : d < min (brg xs S).1 (xs.length - (brg xs S).2)
        · rw [if_pos q]
          refine ⟨(fun z => nomatch z), fun z => ?_⟩
          rcases z with z | z
          · have := z d rfl
            omega
          · have := z d rfl
            omega
        · rw [if_neg q]
          refine ⟨fun _ => ?_, fun _ => rfl⟩
          by_cases q2 : (brg xs S).1 ≤ d
          · exact .inr fun d' hd' => by have := Option.some.inj hd'; omega
          · exact .inl fun d' hd' => by have := Option.some.inj hd'; omega
    rw [s1, s2, dec]
    constructor
    · rintro ⟨h1, h2, h3⟩
      rcases (side h1).mp h3 with w | w
      · exact .inl ⟨c1, h1, f1, h2, w⟩
      · exact .inr ⟨c2, h1, f2, h2, w⟩
    · rintro (⟨_, h1, _, h2, w⟩ | ⟨_, h1, _, h2, w⟩)
      · exact ⟨h1, h2, (side h1).mpr (.inl w)⟩
      · exact ⟨h1, h2, (side h1).mpr (.inr w)⟩
end Ln


set_option Elab.async false
set_option linter.all false
set_option maxRecDepth 100000
set_option maxHeartbeats 4000000
namespace Ln
open PySem PySem.Spec PyProof.Rows L2 GxR
/-! ### point 12, from the lanes: a set can stay exactly if some lane of its cars is reached -/
theorem sw_min {F : List Str} : ∀ (r : List Ev) (l : Nat) (nL nR x : Int) (b : Option Str) (n d : Nat), swG F (some l) nL nR x b r = none → depB4 F n r = some d → nL + n ≤ d ∨ nR + n ≤ d
  | [], _, _, _, _, _, _, _, _, h => nomatch h
  | .out :: r, l, nL, nR, x, b, n, d, h, k => by
    have h : swG F (some l) (nL - 1) (nR - 1) (x - 1) b r = none := h
    have k : depB4 F (n + 1) r = some d := k
    rcases sw_min r l (nL - 1) (nR - 1) (x - 1) b (n + 1) d h k with z | z
    · exact .inl (by omega)
    · exact .inr (by omega)
  | .inn c :: r, l, nL, nR, x, b, n, d, h, k => by
    have h : (if c ∈ F then (if F.idxOf c < l then (if 0 < nL then some (b, c) else swG F (some l) 0 x x (some c) r) else (if 0 < nR then some (b, c) else swG F (some l) x 0 x (some c) r)) else swG F (some l) nL nR (x + 1) b r) = none := h
    have k : (if c ∈ F then some n else depB4 F n r) = some d := k
    by_cases hc : c ∈ F
    · rw [if_pos hc] at h k
      have k := Option.some.inj k
      by_cases q : F.idxOf c < l
      · rw [if_pos q] at h
        by_cases w : 0 < nL
        · rw [if_pos w] at h
          cases h
        · exact .inl (by omega)
      · rw [if_neg q] at h
        by_cases w : 0 < nR
        · rw [if_pos w] at h
          cases h
        · exact .inr (by omega)
    · rw [if_neg hc] at h k
      exact sw_min r l nL nR (x + 1) b n d h k
theorem plcs_nil {S : List Str} : ∀ (xs : List Str) (i : Nat), plcs S i xs = [] ↔ ∀ c ∈ xs, c ∉ S
  | [], _ => ⟨(fun _ c h => nomatch h), fun _ => rfl⟩
  | x :: r, i => by
    show (if x ∈ S then i :: plcs S (i + 1) r else plcs S (i + 1) r) = [] ↔ _
    by_cases h : x ∈ S
    · rw [if_pos h]
      exact ⟨fun z => (List.cons_ne_nil _ _ z).elim, fun z => absurd h (z x List.mem_cons_self)⟩
    · rw [if_neg h, plcs_nil r (i + 1)]
      refine ⟨fun z c hc => ?_, fun z c hc => z c (List.mem_cons_of_mem _ hc)⟩
      rcases List.mem_cons.mp hc with e | e
      · rw [e]
        exact h
      · exact z c e
theorem brg_zero {xs S : List Str} : (brg xs S).2 = 0 ↔ ∀ c ∈ xs, c ∉ S := by
  rw [← plcs_nil xs 0]
  show (brgL (plcs S 0 xs)).2 = 0 ↔ _
  cases plcs S 0 xs with
  | nil => exact ⟨fun _ => rfl, fun _ => rfl⟩
  | cons a r => exact ⟨fun z => absurd (show (a :: r).getLast (List.cons_ne_nil a r) + 1 = 0 from z) (by omega), fun z => absurd z (List.cons_ne_nil a r)⟩
theorem cutN_sub {xs : List Str} {p : Nat × Nat} : ∀ c ∈ cutN xs p, c ∈ xs := fun c hc => List.mem_of_mem_take (List.mem_of_mem_drop hc)
theorem set_iff {xs S : List Str} {es : List Ev} (hn : (xs ++ arrs es).Nodup) (hS : S.Nodup) (hk : ∀ c ∈ S, c ∈ xs ++ arrs es) : whyS xs es S = .ok ↔ ∃ L, Run xs es L ∧ L.Perm S := by
  have nx := (List.nodup_append.mp hn).1
  have ne := (List.nodup_append.mp hn).2.1
  have dis := (List.nodup_append.mp hn).2.2
  constructor
  · intro h
    have hsz : (S.length : Int) = endI xs.length es := by
      by_cases q : (S.length : Int) ≠ endI xs.length es
      · unfold whyS at h
        rw [if_pos q] at h
        cases h
      · exact Classical.not_not.mp q
    have fs : ((xs ++ arrs es).filter fun c => decide (c ∈ S)).Perm S := by
      refine (List.perm_ext_iff_of_nodup (hn.sublist List.filter_sublist) hS).mpr fun c => ?_
      rw [List.mem_filter, decide_eq_true_iff]
      exact ⟨fun z => z.2, fun z => ⟨hk c z, z⟩⟩
    rw [List.filter_append] at fs
    rcases (stay_iff hn hS hk hsz).mp h with r | r
    · exact ⟨_, r, fs⟩
    · exact ⟨_, r, ((List.perm_append_comm).trans ((List.reverse_perm _).append_left _)).trans fs⟩
  · rintro ⟨L, hr, hp⟩
    have m : ∀ c, c ∈ L ↔ c ∈ S := fun c => hp.mem_iff
    obtain ⟨w1, w2, w3, w4, w5⟩ := why_ok_iff.mp (why_run hr hn)
    have hl := hr.len
    unfold whyS
    rw [if_neg (fun z => z (by rw [← hp.length_eq]; exact hl)), ← ext0_mem m, w4]
    have hb : cutN xs (brg xs L) = cutN L (brg L xs) := of_decide_eq_true w2
    have hg : gapF xs S = none := by
      unfold gapF
      rw [List.find?_eq_none]
      intro c hc
      rw [← brg_mem m, hb] at hc
      simpa using (m c).mp (cutN_sub c hc)
    rw [hg]
    have hs : sideF xs S es = none := by
      unfold sideF
      rw [← dep_mem m es 0, ← brg_mem m]
      cases hd : depB4 L 0 es with
      | none => rfl
      | some d =>
        show (if (brg xs L).2 = 0 then none else if d < min (brg xs L).1 (xs.length - (brg xs L).2) then _ else none) = none
        by_cases q : (brg xs L).2 = 0
        · rw [if_pos q]
        · rw [if_neg q]
          have q2 : (brg L xs).2 ≠ 0 := fun z => q (brg_zero.mpr fun c hc hL => brg_zero.mp z c hL hc)
          have sw : swC xs es L = swG L (lo0 (brg L xs)) ((brg xs L).1 : Int) ((xs.length : Int) - (brg xs L).2) ((xs.length : Int) - stayN xs L) none es := by
            unfold swC
            rw [swF_G es (lo0 (brg L xs)) _ _ none 0 0 0 ((xs.length : Int) - stayN xs L) rfl rfl]
            have : (depL 0 es).getD 0 0 = 0 := by
              cases es with
              | nil => rfl
              | cons e r => cases e <;> rfl
            rw [this]
            congr 1 <;> omega
          rw [sw] at w5
          have e0 : lo0 (brg L xs) = some (brg L xs).1 := by
            unfold lo0
            rw [if_neg q2]
          rw [e0] at w5
          rcases sw_min es _ _ _ _ _ 0 d w5 hd with z | z
          · rw [if_neg (by omega)]
          · rw [if_neg (by omega)]
    rw [hs]
end Ln


set_option Elab.async false
set_option linter.all false
set_option maxRecDepth 100000
set_option maxHeartbeats 4000000
namespace Ln
open PySem PySem.Spec PyProof.Rows L2 GxR
/-! ### point 14: the greedy choice -/
def leastF : List Int → List Int
  | [] => []
  | x :: r => (if r = [] then x else if (leastF r).headD 0 < x then (leastF r).headD 0 else x) :: leastF r
def mn (L : List Int) : Int := (leastF L).headD 0
theorem least_len : ∀ L : List Int, (leastF L).length = L.length
  | [] => rfl
  | x :: r => by
    show (leastF r).length + 1 = r.length + 1
    rw [least_len r]
theorem le_mn : ∀ {L : List Int} {k : Int}, L ≠ [] → (k ≤ mn L ↔ ∀ y ∈ L, k ≤ y)
  | [], k, h => absurd rfl h
  | x :: r, k, _ => by
    show k ≤ (if r = [] then x else if mn r < x then mn r else x) ↔ _
    by_cases q : r = []
    · subst q
      rw [if_pos rfl]
      simp
    · rw [if_neg q]
      have ih := le_mn (L := r) (k := k) q
      rw [List.forall_mem_cons, ← ih]
      split <;> omega
theorem least_get : ∀ (L : List Int) (i : Nat), (leastF L).getD i 0 = mn (L.drop i)
  | [], i => by
    rw [List.drop_nil]
    rfl
  | x :: r, 0 => rfl
  | x :: r, i + 1 => by
    show (leastF r).getD i 0 = mn (r.drop i)
    exact least_get r i
theorem ext_ne (S : List Str) (x : Int) (es : List Ev) : extL S x es ≠ [] := by
  cases es with
  | nil => exact List.cons_ne_nil _ _
  | cons e r => cases e <;> exact List.cons_ne_nil _ _
theorem ext_congr {S T : List Str} : ∀ (es : List Ev) (x : Int), (∀ c ∈ arrs es, (c ∈ S ↔ c ∈ T)) → extL S x es = extL T x es
  | [], x, _ => rfl
  | .inn c :: r, x, h => by
    show x :: extL S (if c ∈ S then x else x + 1) r = x :: extL T (if c ∈ T then x else x + 1) r
    have hc : c ∈ S ↔ c ∈ T := h c List.mem_cons_self
    have e : (if c ∈ S then x else x + 1) = if c ∈ T then x else x + 1 := by
      by_cases q : c ∈ S
      · rw [if_pos q, if_pos (hc.mp q)]
      · rw [if_neg q, if_neg fun z => q (hc.mpr z)]
    rw [e, ext_congr r _ fun d hd => h d (List.mem_cons_of_mem _ hd)]
  | .out :: r, x, h => by
    show x :: extL S (x - 1) r = x :: extL T (x - 1) r
    rw [ext_congr r _ h]
/-- more stayers leave less room -/
theorem ext_le {g p : List Str} : ∀ (es : List Ev) (x z : Int), z ≤ x → (∀ c ∈ arrs es, c ∈ g → c ∈ p) → (∀ y ∈ extL p z es, 0 ≤ y) → ∀ y ∈ extL g x es, x - z ≤ y
  | [], x, z, hz, _, h, y, hy => by
    have hy : y ∈ [x] := hy
    have := h z List.mem_cons_self
    rw [List.mem_singleton.mp hy]
    omega
  | .inn c :: r, x, z, hz, hg, h, y, hy => by
    have hy : y ∈ x :: extL g (if c ∈ g then x else x + 1) r := hy
    have h : ∀ y ∈ z :: extL p (if c ∈ p then z else z + 1) r, 0 ≤ y := h
    have h0 := h z List.mem_cons_self
    have h1 : ∀ y ∈ extL p (if c ∈ p then z else z + 1) r, 0 ≤ y := fun y hy => h y (List.mem_cons_of_mem _ hy)
    have hg' : ∀ d ∈ arrs r, d ∈ g → d ∈ p := fun d hd => hg d (List.mem_cons_of_mem _ hd)
    rcases List.mem_cons.mp hy with e | hy
    · omega
    · by_cases q : c ∈ g
      · rw [if_pos q] at hy
        rw [if_pos (hg c List.mem_cons_self q)] at h1
        exact ext_le r x z hz hg' h1 y hy
      · rw [if_neg q] at hy
        by_cases w : c ∈ p
        · rw [if_pos w] at h1
          have := ext_le r (x + 1) z (by omega) hg' h1 y hy
          omega
        · rw [if_neg w] at h1
          have := ext_le r (x + 1) (z + 1) (by omega) hg' h1 y hy
          omega
  | .out :: r, x, z, hz, hg, h, y, hy => by
    have hy : y ∈ x :: extL g (x - 1) r := hy
    have h : ∀ y ∈ z :: extL p (z - 1) r, 0 ≤ y := h
    have h0 := h z List.mem_cons_self
    rcases List.mem_cons.mp hy with e | hy
    · omega
    · have := ext_le r (x - 1) (z - 1) (by omega) hg (fun y hy => h y (List.mem_cons_of_mem _ hy)) y hy
      omega
theorem mn_ge {g p : List Str} {es : List Ev} {x k : Int} (hk : 0 ≤ k) (hg : ∀ c ∈ arrs es, c ∈ g → c ∈ p) (h : ∀ y ∈ extL p (x - k) es, 0 ≤ y) : k ≤ mn (extL g x es) :=
  (le_mn (ext_ne g x es)).mpr fun y hy => by
    have := ext_le es x (x - k) (by omega) hg h y hy
    omega
theorem mn_tail {g : List Str} {x k : Int} {c : Str} {r : List Ev} (h : k ≤ mn (extL g x (.inn c :: r))) : k ≤ x ∧ k ≤ mn (extL g (if c ∈ g then x else x + 1) r) := by
  have h := (le_mn (ext_ne g x (.inn c :: r))).mp h
  have h : ∀ y ∈ x :: extL g (if c ∈ g then x else x + 1) r, k ≤ y := h
  exact ⟨h x List.mem_cons_self, (le_mn (ext_ne _ _ r)).mpr fun y hy => h y (List.mem_cons_of_mem _ hy)⟩
theorem mn_tailO {g : List Str} {x k : Int} {r : List Ev} (h : k ≤ mn (extL g x (.out :: r))) : k ≤ x ∧ k ≤ mn (extL g (x - 1) r) := by
  have h := (le_mn (ext_ne g x (.out :: r))).mp h
  have h : ∀ y ∈ x :: extL g (x - 1) r, k ≤ y := h
  exact ⟨h x List.mem_cons_self, (le_mn (ext_ne _ _ r)).mpr fun y hy => h y (List.mem_cons_of_mem _ hy)⟩
/-- the choice: d departures and x extras so far, a cars added -/
def gr (g : List Str) (len : Int) (need : Nat) : Nat → Int → Nat → List Ev → Option (List Str)
  | _, _, _, [] => some []
  | d, x, a, .out :: r => gr g len need (d + 1) (x - 1) a r
  | d, x, a, .inn c :: r => if c ∈ g then (if d < need then none else (gr g len need d x a r).map (c :: ·)) else
      if need ≤ d ∧ (a : Int) < mn (extL g (x + 1) r) - len then (gr g len need d (x + 1) (a + 1) r).map (c :: ·) else gr g len need d (x + 1) a r
theorem gr_sub {g : List Str} {len : Int} {need : Nat} : ∀ (es : List Ev) (d : Nat) (x : Int) (a : Nat) (A : List Str), gr g len need d x a es = some A → A.Sublist (arrs es) ∧ (∀ c ∈ arrs es, c ∈ g → c ∈ A)
  | [], d, x, a, A, h => by
    cases h
    exact ⟨List.Sublist.refl _, fun c hc => nomatch hc⟩
  | .out :: r, d, x, a, A, h => gr_sub r (d + 1) (x - 1) a A h
  | .inn c :: r, d, x, a, A, h => by
    have h : (if c ∈ g then (if d < need then none else (gr g len need d x a r).map (c :: ·)) else if need ≤ d ∧ (a : Int) < mn (extL g (x + 1) r) - len then (gr g len need d (x + 1) (a + 1) r).map (c :: ·) else gr g len need d (x + 1) a r) = some A := h
    have take : ∀ {d x a}, (gr g len need d x a r).map (c :: ·) = some A → A.Sublist (c :: arrs r) ∧ (∀ z ∈ c :: arrs r, z ∈ g → z ∈ A) := fun {d x a} h => by
      cases q : gr g len need d x a r with
      | none => rw [q] at h; cases h
      | some B =>
        rw [q] at h
        obtain rfl : c :: B = A := Option.some.inj h
        obtain ⟨h1, h2⟩ := gr_sub r d x a B q
        refine ⟨h1.cons_cons c, fun z hz hg => ?_⟩
        rcases List.mem_cons.mp hz with e | e
        · rw [e]; exact List.mem_cons_self
        · exact List.mem_cons_of_mem _ (h2 z e hg)
    show A.Sublist (c :: arrs r) ∧ ∀ z ∈ c :: arrs r, z ∈ g → z ∈ A
    by_cases q : c ∈ g
    · rw [if_pos q] at h
      by_cases w : d < need
      · rw [if_pos w] at h
        cases h
      · rw [if_neg w] at h
        exact take h
    · rw [if_neg q] at h
      by_cases w : need ≤ d ∧ (a : Int) < mn (extL g (x + 1) r) - len
      · rw [if_pos w] at h
        exact take h
      · rw [if_neg w] at h
        obtain ⟨h1, h2⟩ := gr_sub r d (x + 1) a A h
        refine ⟨h1.cons c, fun z hz hg => ?_⟩
        rcases List.mem_cons.mp hz with e | e
        · rw [e] at hg
          exact absurd hg q
        · exact h2 z e hg
/-- what is chosen has room -/
theorem gr_room {g : List Str} {len : Int} {need : Nat} : ∀ (es : List Ev) (d : Nat) (x : Int) (a : Nat) (A : List Str), (arrs es).Nodup → gr g len need d x a es = some A → (a : Int) + len ≤ mn (extL g x es) → ∀ y ∈ extL A (x - len - a) es, 0 ≤ y
  | [], d, x, a, A, _, h, hm, y, hy => by
    have hm := (le_mn (ext_ne g x [])).mp hm x List.mem_cons_self
    have hy : y ∈ [x - len - a] := hy
    rw [List.mem_singleton.mp hy]
    omega
  | .out :: r, d, x, a, A, hn, h, hm, y, hy => by
    have hy : y ∈ (x - len - a) :: extL A (x - len - a - 1) r := hy
    obtain ⟨m1, m2⟩ := mn_tailO hm
    rcases List.mem_cons.mp hy with e | hy
    · omega
    · exact gr_room r (d + 1) (x - 1) a A hn h m2 y (by rw [show x - 1 - len - (a : Int) = x - len - a - 1 by omega]; exact hy)
  | .inn c :: r, d, x, a, A, hn, h, hm, y, hy => by
    have h0 := h
    have h : (if c ∈ g then (if d < need then none else (gr g len need d x a r).map (c :: ·)) else if need ≤ d ∧ (a : Int) < mn (extL g (x + 1) r) - len then (gr g len need d (x + 1) (a + 1) r).map (c :: ·) else gr g len need d (x + 1) a r) = some A := h
    have hy : y ∈ (x - len - a) :: extL A (if c ∈ A then x - len - a else x - len - a + 1) r := hy
    obtain ⟨m1, m2⟩ := mn_tail hm
    have hc : c ∉ arrs r := (List.nodup_cons.mp (show (c :: arrs r).Nodup from hn)).1
    have hr : (arrs r).Nodup := (List.nodup_cons.mp (show (c :: arrs r).Nodup from hn)).2
    rcases List.mem_cons.mp hy with e | hy
    · omega
    · have take : ∀ {d' x' a'}, (gr g len need d' x' a' r).map (c :: ·) = some A → x' - len - a' = x - len - a → (a' : Int) + len ≤ mn (extL g x' r) → 0 ≤ y := fun {d' x' a'} h e hm => by
        cases q : gr g len need d' x' a' r with
        | none => rw [q] at h; cases h
        | some B =>
          rw [q] at h
          obtain rfl : c :: B = A := Option.some.inj h
          rw [if_pos List.mem_cons_self, ← e, ext_congr (T := B) r _ fun z hz => ?_] at hy
          · exact gr_room r d' x' a' B hr q hm y hy
          · rw [List.mem_cons]
            exact ⟨fun k => k.elim (fun k => absurd hz (by rw [k]; exact hc)) id, .inr⟩
      by_cases q : c ∈ g
      · rw [if_pos q] at h m2
        by_cases w : d < need
        · rw [if_pos w] at h
          cases h
        · rw [if_neg w] at h
          exact take h rfl m2
      · rw [if_neg q] at h m2
        by_cases w : need ≤ d ∧ (a : Int) < mn (extL g (x + 1) r) - len
        · rw [if_pos w] at h
          exact take h (by omega) (by omega)
        · rw [if_neg w] at h
          have hcA : c ∉ A := fun z => hc ((gr_sub r d (x + 1) a A h).1.subset z)
          rw [if_neg hcA] at hy
          exact gr_room r d (x + 1) a A hr h m2 y (by rw [show x + 1 - len - (a : Int) = x - len - a + 1 by omega]; exact hy)
/-- and comes behind enough departures -/
theorem gr_dep {g : List Str} {len : Int} {need : Nat} : ∀ (es : List Ev) (d : Nat) (x : Int) (a : Nat) (A : List Str) (S : List Str), (arrs es).Nodup → gr g len need d x a es = some A → (∀ c ∈ arrs es, (c ∈ S ↔ c ∈ A)) → ∀ n, depB4 S d es = some n → need ≤ n
  | [], d, x, a, A, S, _, h, _, n, hn => nomatch hn
  | .out :: r, d, x, a, A, S, hnd, h, hS, n, hn => gr_dep r (d + 1) (x - 1) a A S hnd h hS n hn
  | .inn c :: r, d, x, a, A, S, hnd, h, hS, n, hn => by
    have h : (if c ∈ g then (if d < need then none else (gr g len need d x a r).map (c :: ·)) else if need ≤ d ∧ (a : Int) < mn (extL g (x + 1) r) - len then (gr g len need d (x + 1) (a + 1) r).map (c :: ·) else gr g len need d (x + 1) a r) = some A := h
    have hn : (if c ∈ S then some d else depB4 S d r) = some n := hn
    have hc : c ∉ arrs r := (List.nodup_cons.mp (show (c :: arrs r).Nodup from hnd)).1
    have hr : (arrs r).Nodup := (List.nodup_cons.mp (show (c :: arrs r).Nodup from hnd)).2
    have hcS := hS c List.mem_cons_self
    have take : ∀ {d' x' a'}, (gr g len need d' x' a' r).map (c :: ·) = some A → c ∈ A := fun {d' x' a'} h => by
      cases q : gr g len need d' x' a' r with
      | none => rw [q] at h; cases h
      | some B =>
        rw [q] at h
        obtain rfl : c :: B = A := Option.some.inj h
        exact List.mem_cons_self
    by_cases q : c ∈ g
    · rw [if_pos q] at h
      by_cases w : d < need
      · rw [if_pos w] at h
        cases h
      · rw [if_neg w] at h
        rw [if_pos (hcS.mpr (take h))] at hn
        have := Option.some.inj hn
        omega
    · rw [if_neg q] at h
      by_cases w : need ≤ d ∧ (a : Int) < mn (extL g (x + 1) r) - len
      · rw [if_pos w] at h
        rw [if_pos (hcS.mpr (take h))] at hn
        have := Option.some.inj hn
        omega
      · rw [if_neg w] at h
        have hcA : c ∉ A := fun z => hc ((gr_sub r d (x + 1) a A h).1.subset z)
        rw [if_neg fun z => hcA (hcS.mp z)] at hn
        exact gr_dep r d (x + 1) a A S hr h (fun z hz => hS z (List.mem_cons_of_mem _ hz)) n hn
/-- a set that has room behind enough departures -/
def FitS (g : List Str) (need : Nat) (p : List Str) : Nat → Int → List Ev → Prop
  | _, z, [] => 0 ≤ z
  | d, z, .out :: r => 0 ≤ z ∧ FitS g need p (d + 1) (z - 1) r
  | d, z, .inn c :: r => 0 ≤ z ∧ (c ∈ g → c ∈ p) ∧ (c ∈ p → need ≤ d) ∧ FitS g need p d (if c ∈ p then z else z + 1) r
theorem fit_ext {g p : List Str} {need : Nat} : ∀ (es : List Ev) (d : Nat) (z : Int), FitS g need p d z es → (∀ y ∈ extL p z es, 0 ≤ y) ∧ (∀ c ∈ arrs es, c ∈ g → c ∈ p)
  | [], d, z, h => ⟨fun y hy => by rw [List.mem_singleton.mp (show y ∈ [z] from hy)]; exact h, fun c hc => nomatch hc⟩
  | .out :: r, d, z, h => by
    obtain ⟨h1, h2⟩ := fit_ext r (d + 1) (z - 1) h.2
    refine ⟨fun y hy => ?_, h2⟩
    rcases List.mem_cons.mp (show y ∈ z :: extL p (z - 1) r from hy) with e | e
    · rw [e]; exact h.1
    · exact h1 y e
  | .inn c :: r, d, z, h => by
    obtain ⟨h1, h2⟩ := fit_ext r d _ h.2.2.2
    refine ⟨fun y hy => ?_, fun e he hg => ?_⟩
    · rcases List.mem_cons.mp (show y ∈ z :: extL p (if c ∈ p then z else z + 1) r from hy) with e | e
      · rw [e]; exact h.1
      · exact h1 y e
    · rcases List.mem_cons.mp (show e ∈ c :: arrs r from he) with k | k
      · rw [k] at hg ⊢
        exact h.2.1 hg
      · exact h2 e k hg
def cntP (p : List Str) (es : List Ev) : Nat := ((arrs es).filter fun c => decide (c ∈ p)).length
/-- the choice is never behind a set that fits -/
theorem gr_most {g p : List Str} {len : Int} {need : Nat} : ∀ (es : List Ev) (d : Nat) (x : Int) (a b : Nat), FitS g need p d (x - len - b) es → b ≤ a → (a : Int) + len ≤ mn (extL g x es) → 0 ≤ len → ∃ A, gr g len need d x a es = some A ∧ cntP p es + b ≤ A.length + a
  | [], d, x, a, b, _, hb, _, _ => ⟨[], rfl, by show 0 + b ≤ 0 + a; omega⟩
  | .out :: r, d, x, a, b, h, hb, hm, hl => gr_most r (d + 1) (x - 1) a b (by rw [show x - 1 - len - (b : Int) = x - len - b - 1 by omega]; exact h.2) hb (mn_tailO hm).2 hl
  | .inn c :: r, d, x, a, b, h, hb, hm, hl => by
    obtain ⟨h0, h1, h2, h3⟩ := h
    obtain ⟨m1, m2⟩ := mn_tail hm
    have hcnt : cntP p (.inn c :: r) = (if c ∈ p then 1 else 0) + cntP p r := by
      show ((c :: arrs r).filter _).length = _
      rw [List.filter_cons]
      by_cases w : c ∈ p
      · rw [if_pos (decide_eq_true w), if_pos w, List.length_cons]
        show _ = 1 + ((arrs r).filter _).length
        omega
      · rw [if_neg (by rw [decide_eq_false w]; exact Bool.false_ne_true), if_neg w]
        show _ = 0 + ((arrs r).filter _).length
        omega
    rw [hcnt]
    show ∃ A, (if c ∈ g then (if d < need then none else (gr g len need d x a r).map (c :: ·)) else if need ≤ d ∧ (a : Int) < mn (extL g (x + 1) r) - len then (gr g len need d (x + 1) (a + 1) r).map (c :: ·) else gr g len need d (x + 1) a r) = some A ∧ _
    by_cases q : c ∈ g
    · have hp := h1 q
      rw [if_pos hp] at h3 ⊢
      rw [if_pos q] at m2 ⊢
      have := h2 hp
      rw [if_neg (by omega)]
      obtain ⟨A, e, k⟩ := gr_most r d x a b h3 hb m2 hl
      exact ⟨c :: A, by rw [e]; rfl, by rw [List.length_cons]; omega⟩
    · rw [if_neg q] at m2 ⊢
      by_cases hp : c ∈ p
      · rw [if_pos hp] at h3 ⊢
        have hd := h2 hp
        have h3' : FitS g need p d (x + 1 - len - ((b + 1 : Nat) : Int)) r := by rw [show x + 1 - len - ((b + 1 : Nat) : Int) = x - len - b by omega]; exact h3
        obtain ⟨f1, f2⟩ := fit_ext r d _ h3'
        have hroom : ((b + 1 : Nat) : Int) + len ≤ mn (extL g (x + 1) r) := mn_ge (k := ((b + 1 : Nat) : Int) + len) (by omega) f2 (by rw [show x + 1 - (((b + 1 : Nat) : Int) + len) = x + 1 - len - ((b + 1 : Nat) : Int) by omega]; exact f1)
        by_cases w : need ≤ d ∧ (a : Int) < mn (extL g (x + 1) r) - len
        · rw [if_pos w]
          obtain ⟨A, e, k⟩ := gr_most r d (x + 1) (a + 1) (b + 1) h3' (by omega) (by omega) hl
          exact ⟨c :: A, by rw [e]; rfl, by rw [List.length_cons]; omega⟩
        · rw [if_neg w]
          have hab : b + 1 ≤ a := by
            have : ¬ (a : Int) < mn (extL g (x + 1) r) - len := fun z => w ⟨hd, z⟩
            omega
          obtain ⟨A, e, k⟩ := gr_most r d (x + 1) a (b + 1) h3' hab m2 hl
          exact ⟨A, e, by omega⟩
      · rw [if_neg hp] at h3 ⊢
        have h3' : FitS g need p d (x + 1 - len - (b : Int)) r := by rw [show x + 1 - len - (b : Int) = x - len - b + 1 by omega]; exact h3
        by_cases w : need ≤ d ∧ (a : Int) < mn (extL g (x + 1) r) - len
        · rw [if_pos w]
          obtain ⟨A, e, k⟩ := gr_most r d (x + 1) (a + 1) b h3' (by omega) (by omega) hl
          exact ⟨c :: A, by rw [e]; rfl, by rw [List.length_cons]; omega⟩
        · rw [if_neg w]
          obtain ⟨A, e, k⟩ := gr_most r d (x + 1) a b h3' hb m2 hl
          exact ⟨A, e, by omega⟩
/-- where they part, the choice has the earlier car -/
theorem gr_first {g p : List Str} {len : Int} {need : Nat} : ∀ (es : List Ev) (d : Nat) (x : Int) (a : Nat) (A : List Str), (arrs es).Nodup → FitS g need p d (x - len - a) es → 0 ≤ len → gr g len need d x a es = some A →
    (∀ c ∈ arrs es, (c ∈ A ↔ c ∈ p)) ∨ ∃ pre c post, arrs es = pre ++ c :: post ∧ c ∈ A ∧ c ∉ p ∧ ∀ z ∈ pre, (z ∈ A ↔ z ∈ p)
  | [], d, x, a, A, _, _, _, _ => .inl fun c hc => nomatch hc
  | .out :: r, d, x, a, A, hn, h, hl, e => gr_first r (d + 1) (x - 1) a A hn (by rw [show x - 1 - len - (a : Int) = x - len - a - 1 by omega]; exact h.2) hl e
  | .inn c :: r, d, x, a, A, hn, h, hl, e => by
    obtain ⟨h0, h1, h2, h3⟩ := h
    have hc : c ∉ arrs r := (List.nodup_cons.mp (show (c :: arrs r).Nodup from hn)).1
    have hr : (arrs r).Nodup := (List.nodup_cons.mp (show (c :: arrs r).Nodup from hn)).2
    have e : (if c ∈ g then (if d < need then none else (gr g len need d x a r).map (c :: ·)) else if need ≤ d ∧ (a : Int) < mn (extL g (x + 1) r) - len then (gr g len need d (x + 1) (a + 1) r).map (c :: ·) else gr g len need d (x + 1) a r) = some A := e
    -- both take c
    have both : ∀ {x' a'}, (gr g len need d x' a' r).map (c :: ·) = some A → c ∈ p → FitS g need p d (x' - len - (a' : Nat)) r → (∀ z ∈ c :: arrs r, (z ∈ A ↔ z ∈ p)) ∨ ∃ pre z post, c :: arrs r = pre ++ z :: post ∧ z ∈ A ∧ z ∉ p ∧ ∀ y ∈ pre, (y ∈ A ↔ y ∈ p) := fun {x' a'} e hp hf => by
      cases q : gr g len need d x' a' r with
      | none => rw [q] at e; cases e
      | some B =>
        rw [q] at e
        obtain rfl : c :: B = A := Option.some.inj e
        have mB : ∀ z ∈ arrs r, (z ∈ c :: B ↔ z ∈ B) := fun z hz => by
          rw [List.mem_cons]
          exact ⟨fun k => k.elim (fun k => absurd hz (by rw [k]; exact hc)) id, .inr⟩
        have cA : (c ∈ c :: B ↔ c ∈ p) := ⟨fun _ => hp, fun _ => List.mem_cons_self⟩
        rcases gr_first r d x' a' B hr hf hl q with k | ⟨pre, z, post, k1, k2, k3, k4⟩
        · refine .inl fun z hz => ?_
          rcases List.mem_cons.mp hz with w | w
          · rw [w]; exact cA
          · exact (mB z w).trans (k z w)
        · refine .inr ⟨c :: pre, z, post, by rw [k1]; rfl, List.mem_cons_of_mem _ k2, k3, fun y hy => ?_⟩
          rcases List.mem_cons.mp hy with w | w
          · rw [w]; exact cA
          · exact (mB y (by rw [k1]; exact List.mem_append_left _ w)).trans (k4 y w)
    show (∀ z ∈ c :: arrs r, (z ∈ A ↔ z ∈ p)) ∨ ∃ pre z post, c :: arrs r = pre ++ z :: post ∧ z ∈ A ∧ z ∉ p ∧ ∀ y ∈ pre, (y ∈ A ↔ y ∈ p)
    by_cases q : c ∈ g
    · have hp := h1 q
      rw [if_pos hp] at h3
      rw [if_pos q] at e
      by_cases w : d < need
      · rw [if_pos w] at e
        cases e
      · rw [if_neg w] at e
        exact both e hp h3
    · rw [if_neg q] at e
      by_cases hp : c ∈ p
      · rw [if_pos hp] at h3
        have h3' : FitS g need p d (x + 1 - len - ((a + 1 : Nat) : Int)) r := by rw [show x + 1 - len - ((a + 1 : Nat) : Int) = x - len - a by omega]; exact h3
        obtain ⟨f1, f2⟩ := fit_ext r d _ h3'
        have hroom : ((a + 1 : Nat) : Int) + len ≤ mn (extL g (x + 1) r) := mn_ge (k := ((a + 1 : Nat) : Int) + len) (by omega) f2 (by rw [show x + 1 - (((a + 1 : Nat) : Int) + len) = x + 1 - len - ((a + 1 : Nat) : Int) by omega]; exact f1)
        rw [if_pos ⟨h2 hp, by omega⟩] at e
        exact both e hp h3'
      · rw [if_neg hp] at h3
        by_cases w : need ≤ d ∧ (a : Int) < mn (extL g (x + 1) r) - len
        · rw [if_pos w] at e
          cases q : gr g len need d (x + 1) (a + 1) r with
          | none => rw [q] at e; cases e
          | some B =>
            rw [q] at e
            obtain rfl : c :: B = A := Option.some.inj e
            exact .inr ⟨[], c, arrs r, rfl, List.mem_cons_self, hp, fun _ h => nomatch h⟩
        · rw [if_neg w] at e
          have hcA : c ∉ A := fun z => hc ((gr_sub r d (x + 1) a A e).1.subset z)
          have cA : (c ∈ A ↔ c ∈ p) := ⟨fun z => absurd z hcA, fun z => absurd z hp⟩
          have h3' : FitS g need p d (x + 1 - len - (a : Int)) r := by rw [show x + 1 - len - (a : Int) = x - len - a + 1 by omega]; exact h3
          rcases gr_first r d (x + 1) a A hr h3' hl e with k | ⟨pre, z, post, k1, k2, k3, k4⟩
          · refine .inl fun z hz => ?_
            rcases List.mem_cons.mp hz with w | w
            · rw [w]; exact cA
            · exact k z w
          · refine .inr ⟨c :: pre, z, post, by rw [k1]; rfl, k2, k3, fun y hy => ?_⟩
            rcases List.mem_cons.mp hy with w | w
            · rw [w]; exact cA
            · exact k4 y w
theorem ext_last {A : List Str} : ∀ (es : List Ev) (x : Int), endI x es - cntP A es ∈ extL A x es
  | [], x => by
    show x - ((0 : Nat) : Int) ∈ [x]
    simp
  | .out :: r, x => List.mem_cons_of_mem _ (ext_last r (x - 1))
  | .inn c :: r, x => by
    show endI (x + 1) r - (((c :: arrs r).filter fun c => decide (c ∈ A)).length : Nat) ∈ x :: extL A (if c ∈ A then x else x + 1) r
    refine List.mem_cons_of_mem _ ?_
    rw [List.filter_cons]
    by_cases w : c ∈ A
    · rw [if_pos (decide_eq_true w), if_pos w, List.length_cons]
      have := ext_last r x (A := A)
      have e : endI (x + 1) r = endI x r + 1 := by
        have h : ∀ (r : List Ev) (x : Int), endI (x + 1) r = endI x r + 1 := fun r => by
          induction r with
          | nil => intro x; rfl
          | cons e r ih =>
            intro x
            cases e with
            | inn c => exact ih (x + 1)
            | out => 
              show endI (x + 1 - 1) r = endI (x - 1) r + 1
              rw [← ih (x - 1)]
              congr 1
              omega
        exact h r x
      rw [e, show endI x r + 1 - ((((arrs r).filter fun c => decide (c ∈ A)).length + 1 : Nat) : Int) = endI x r - cntP A r by unfold cntP; omega]
      exact this
    · rw [if_neg (show ¬ (decide (c ∈ A) = true) by rw [decide_eq_false w]; exact Bool.false_ne_true), if_neg w]
      exact ext_last r (x + 1)
end Ln


set_option Elab.async false
set_option linter.all false
set_option maxRecDepth 100000
set_option maxHeartbeats 4000000
namespace Ln
open PySem PySem.Spec PyProof.Rows L2 GxR
/-! ### the blocks, in their order -/
def seB (last low : Nat) : Nat := max last (low + 1)
def nH (len last : Nat) (longest : Int) (low : Nat) : Nat := ((if (low : Int) + longest < (len : Int) then (low : Int) + longest else (len : Int)) - (seB last low : Nat) + 1).toNat
def hsL (len last : Nat) (longest : Int) (low : Nat) : List (Nat × Nat) := (List.range (nH len last longest low)).map fun i => (low, seB last low + (nH len last longest low - 1 - i))
def latest1 (xs S : List Str) : Nat := if 0 < (brg xs S).2 then (brg xs S).1 + 1 else xs.length
def blocksF (xs S : List Str) (longest : Int) : List (Nat × Nat) :=
  (List.range (latest1 xs S)).flatMap (fun low => hsL xs.length (brg xs S).2 longest low) ++ (if (brg xs S).2 = 0 ∧ 0 ≤ longest then [(0, 0)] else [])
theorem mem_hs {len last low : Nat} {longest : Int} {q : Nat × Nat} : q ∈ hsL len last longest low ↔ q.1 = low ∧ seB last low ≤ q.2 ∧ (q.2 : Int) ≤ low + longest ∧ q.2 ≤ len := by
  unfold hsL
  rw [List.mem_map]
  obtain ⟨l, h⟩ := q
  have hn : (nH len last longest low : Int) = if 0 ≤ (if (low : Int) + longest < (len : Int) then (low : Int) + longest else (len : Int)) - (seB last low : Nat) + 1 then (if (low : Int) + longest < (len : Int) then (low : Int) + longest else (len : Int)) - (seB last low : Nat) + 1 else 0 := by
    unfold nH
    split <;> split <;> omega
  generalize nH len last longest low = n at hn
  generalize seB last low = se at hn
  constructor
  · rintro ⟨i, hi, e⟩
    have hi := List.mem_range.mp hi
    obtain ⟨e1, e2⟩ := Prod.mk.inj e
    refine ⟨e1.symm, ?_, ?_, ?_⟩
    · show se ≤ h
      omega
    · show (h : Int) ≤ low + longest
      split at hn <;> split at hn <;> omega
    · show h ≤ len
      split at hn <;> split at hn <;> omega
  · rintro ⟨e1, e2, e3, e4⟩
    have e1 : l = low := e1
    have e2 : se ≤ h := e2
    have e3 : (h : Int) ≤ low + longest := e3
    have e4 : h ≤ len := e4
    refine ⟨se + n - 1 - h, List.mem_range.mpr ?_, ?_⟩
    · split at hn <;> split at hn <;> omega
    · refine Prod.ext e1.symm ?_
      show se + (n - 1 - (se + n - 1 - h)) = h
      split at hn <;> split at hn <;> omega
theorem mem_blocks {xs S : List Str} {longest : Int} {q : Nat × Nat} : q ∈ blocksF xs S longest ↔ (q.1 < latest1 xs S ∧ seB (brg xs S).2 q.1 ≤ q.2 ∧ (q.2 : Int) ≤ q.1 + longest ∧ q.2 ≤ xs.length) ∨ (q = (0, 0) ∧ (brg xs S).2 = 0 ∧ 0 ≤ longest) := by
  unfold blocksF
  rw [List.mem_append, List.mem_flatMap]
  constructor
  · rintro (⟨low, hl, h⟩ | h)
    · obtain ⟨e, h2⟩ := mem_hs.mp h
      rw [← e] at h2 hl
      exact .inl ⟨List.mem_range.mp hl, h2⟩
    · split at h
      · rename_i k
        exact .inr ⟨List.mem_singleton.mp h, k⟩
      · cases h
  · rintro (⟨h1, h2⟩ | ⟨h1, h2⟩)
    · exact .inl ⟨q.1, List.mem_range.mpr h1, mem_hs.mpr ⟨rfl, h2⟩⟩
    · rw [if_pos h2]
      exact .inr (List.mem_singleton.mpr h1)
/-- an earlier block -/
def Rb (p q : Nat × Nat) : Prop := 0 < p.2 ∧ (q.2 = 0 ∨ p.1 < q.1 ∨ (p.1 = q.1 ∧ q.2 < p.2))
theorem blocks_ord (xs S : List Str) (longest : Int) : (blocksF xs S longest).Pairwise Rb := by
  unfold blocksF
  refine List.pairwise_append.mpr ⟨List.pairwise_flatMap.mpr ⟨fun low _ => ?_, ?_⟩, ?_, ?_⟩
  · unfold hsL
    refine List.pairwise_map.mpr (List.Pairwise.imp_of_mem ?_ List.pairwise_lt_range)
    intro i j hi hj hij
    have hi := List.mem_range.mp hi
    have hj := List.mem_range.mp hj
    have hs : 1 ≤ seB (brg xs S).2 low := by unfold seB; omega
    refine ⟨?_, .inr (.inr ⟨rfl, ?_⟩)⟩
    · show 0 < seB (brg xs S).2 low + _
      omega
    · show seB (brg xs S).2 low + _ < seB (brg xs S).2 low + _
      omega
  · refine List.Pairwise.imp ?_ List.pairwise_lt_range
    intro i j hij p hp q hq
    obtain ⟨e1, e2, _⟩ := mem_hs.mp hp
    obtain ⟨e3, _⟩ := mem_hs.mp hq
    have hs : 1 ≤ seB (brg xs S).2 i := by unfold seB; omega
    exact ⟨by omega, .inr (.inl (by omega))⟩
  · split <;> simp
  · intro p hp q hq
    obtain ⟨low, _, hp⟩ := List.mem_flatMap.mp hp
    obtain ⟨_, e2, _⟩ := mem_hs.mp hp
    have hs : 1 ≤ seB (brg xs S).2 low := by unfold seB; omega
    split at hq
    · rw [List.mem_singleton.mp hq]
      exact ⟨by omega, .inl rfl⟩
    · cases hq
/-! ### the smallest set -/
def gvn (xs S : List Str) : List Str := S.filter fun c => !decide (c ∈ xs)
def cmplOne (xs : List Str) (es : List Ev) (S : List Str) (q : Nat × Nat) : Option (List Str) :=
  match gr (gvn xs S) ((q.2 : Int) - q.1) (min q.1 (xs.length - q.2)) 0 xs.length 0 es with
  | none => none
  | some A => if (q.2 : Int) - q.1 + A.length = endI xs.length es then some (cutN xs q ++ A) else none
def cmplF (xs : List Str) (es : List Ev) (S : List Str) : Option (List Str) := (blocksF xs S (mn (ext0 xs (gvn xs S) es))).findSome? (cmplOne xs es S)
theorem stayN_zero {xs S : List Str} (h : ∀ c ∈ S, c ∉ xs) : stayN xs S = 0 := by
  unfold stayN
  rw [List.length_eq_zero_iff, List.filter_eq_nil_iff]
  intro c hc
  simpa using fun z => h c z hc
theorem gvn_mem {xs S : List Str} {c : Str} : c ∈ gvn xs S ↔ c ∈ S ∧ c ∉ xs := by
  unfold gvn
  rw [List.mem_filter]
  simp
theorem ext0_gvn (xs S : List Str) (es : List Ev) : ext0 xs (gvn xs S) es = extL (gvn xs S) xs.length es := by
  show extL _ _ _ = _
  rw [stayN_zero fun c hc => (gvn_mem.mp hc).2]
  congr 1
theorem dep_ge {p : List Str} : ∀ (es : List Ev) (d n : Nat), depB4 p d es = some n → d ≤ n
  | [], _, _, h => nomatch h
  | .out :: r, d, n, h => by
    have := dep_ge r (d + 1) n h
    omega
  | .inn c :: r, d, n, h => by
    have h : (if c ∈ p then some d else depB4 p d r) = some n := h
    by_cases q : c ∈ p
    · rw [if_pos q] at h
      have := Option.some.inj h
      omega
    · rw [if_neg q] at h
      exact dep_ge r d n h
theorem fit_of {g p : List Str} {need : Nat} : ∀ (es : List Ev) (d : Nat) (z : Int), (∀ y ∈ extL p z es, 0 ≤ y) → (∀ c ∈ arrs es, c ∈ g → c ∈ p) → (∀ n, depB4 p d es = some n → need ≤ n) → FitS g need p d z es
  | [], d, z, h, _, _ => h z List.mem_cons_self
  | .out :: r, d, z, h, hg, hd => ⟨h z List.mem_cons_self, fit_of r (d + 1) (z - 1) (fun y hy => h y (List.mem_cons_of_mem _ hy)) hg hd⟩
  | .inn c :: r, d, z, h, hg, hd => by
    have h : ∀ y ∈ z :: extL p (if c ∈ p then z else z + 1) r, 0 ≤ y := h
    have hd : ∀ n, (if c ∈ p then some d else depB4 p d r) = some n → need ≤ n := hd
    refine ⟨h z List.mem_cons_self, hg c List.mem_cons_self, fun q => hd d (if_pos q), fit_of r d _ (fun y hy => h y (List.mem_cons_of_mem _ hy)) (fun e he => hg e (List.mem_cons_of_mem _ he)) fun n hn => ?_⟩
    by_cases q : c ∈ p
    · have h1 := hd d (if_pos q)
      have h2 := dep_ge r d n hn
      omega
    · exact hd n (by rw [if_neg q]; exact hn)
theorem endI_add : ∀ (es : List Ev) (x k : Int), endI (x + k) es = endI x es + k
  | [], x, k => rfl
  | .inn c :: r, x, k => by
    show endI (x + k + 1) r = endI (x + 1) r + k
    rw [← endI_add r (x + 1) k]
    congr 1
    omega
  | .out :: r, x, k => by
    show endI (x + k - 1) r = endI (x - 1) r + k
    rw [← endI_add r (x - 1) k]
    congr 1
    omega
theorem cut_eq {xs : List Str} {l h : Nat} (hl : l ≤ h) : xs = xs.take l ++ cutN xs (l, h) ++ xs.drop h := by
  have e : (xs.take h).take l ++ (xs.take h).drop l = xs.take h := List.take_append_drop l (xs.take h)
  rw [List.take_take, Nat.min_eq_left hl] at e
  show xs = xs.take l ++ (xs.take h).drop l ++ xs.drop h
  rw [e, List.take_append_drop]
theorem cut_len {xs : List Str} {l h : Nat} (hh : h ≤ xs.length) : (cutN xs (l, h)).length = h - l := by
  show ((xs.take h).drop l).length = h - l
  rw [List.length_drop, List.length_take, Nat.min_eq_left hh]
section
variable {xs T S : List Str} {es : List Ev}
/-- what a set that can stay is made of -/
structure Vl (xs : List Str) (es : List Ev) (T : List Str) : Prop where
  sz : (T.length : Int) = endI xs.length es
  pos : ∀ y ∈ ext0 xs T es, 0 ≤ y
  gap : ∀ c ∈ cutN xs (brg xs T), c ∈ T
  side : ∀ d, depB4 T 0 es = some d → min (brg xs T).1 (xs.length - (brg xs T).2) ≤ d ∨ (brg xs T).2 = 0
theorem vl_iff : whyS xs es T = .ok ↔ Vl xs es T := by
  unfold whyS
  by_cases q : (T.length : Int) ≠ endI xs.length es
  · rw [if_pos q]
    exact ⟨(fun z => nomatch z), fun z => absurd z.sz q⟩
  rw [if_neg q]
  have q := Classical.not_not.mp q
  have hf : fneg (ext0 xs T es) = none ↔ ∀ y ∈ ext0 xs T es, 0 ≤ y := by
    unfold fneg
    rw [List.findIdx?_eq_none_iff]
    simp
  have hg : gapF xs T = none ↔ ∀ c ∈ cutN xs (brg xs T), c ∈ T := by
    unfold gapF
    rw [List.find?_eq_none]
    simp
  have hs : sideF xs T es = none ↔ ∀ d, depB4 T 0 es = some d → min (brg xs T).1 (xs.length - (brg xs T).2) ≤ d ∨ (brg xs T).2 = 0 := by
    unfold sideF
    cases depB4 T 0 es with
    | none => exact ⟨(fun _ d h => nomatch h), fun _ => rfl⟩
    | some d =>
      show (if (brg xs T).2 = 0 then none else if d < min (brg xs T).1 (xs.length - (brg xs T).2) then some _ else none) = none ↔ _
      by_cases w : (brg xs T).2 = 0
      · rw [if_pos w]
        exact ⟨fun _ _ _ => .inr w, fun _ => rfl⟩
      · rw [if_neg w]
        by_cases v : d < min (brg xs T).1 (xs.length - (brg xs T).2)
        · rw [if_pos v]
          refine ⟨(fun z => nomatch z), fun z => ?_⟩
          rcases z d rfl with u | u
          · omega
          · exact absurd u w
        · rw [if_neg v]
          exact ⟨fun _ e he => .inl (by have := Option.some.inj he; omega), fun _ => rfl⟩
  constructor
  · intro h
    cases h1 : fneg (ext0 xs T es) with
    | some t => rw [h1] at h; cases h
    | none =>
      rw [h1] at h
      cases h2 : gapF xs T with
      | some c => rw [h2] at h; cases h
      | none =>
        rw [h2] at h
        cases h3 : sideF xs T es with
        | some p => rw [h3] at h; cases h
        | none => exact ⟨q, hf.mp h1, hg.mp h2, hs.mp h3⟩
  · rintro ⟨_, a, b, c⟩
    rw [hf.mpr a, hg.mpr b, hs.mpr c]
/-- the block of a set without gaps -/
theorem blk_of (hg : ∀ c ∈ cutN xs (brg xs T), c ∈ T) : (brg xs T).1 ≤ (brg xs T).2 ∧ (brg xs T).2 ≤ xs.length ∧ ((brg xs T).1 < (brg xs T).2 ∨ brg xs T = (0, 0)) ∧ stayN xs T = (brg xs T).2 - (brg xs T).1 ∧ (∀ c ∈ xs, (c ∈ T ↔ c ∈ cutN xs (brg xs T))) := by
  obtain ⟨A, M, C, e, hA, hC, hcut, hb⟩ := brg_cut xs T
  rw [hcut] at hg ⊢
  have hst : stayN xs T = M.length := by
    have e1 : A.filter (fun c => decide (c ∈ T)) = [] := List.filter_eq_nil_iff.mpr fun x hx => by simpa using hA x hx
    have e2 : C.filter (fun c => decide (c ∈ T)) = [] := List.filter_eq_nil_iff.mpr fun x hx => by simpa using hC x hx
    have e3 : M.filter (fun c => decide (c ∈ T)) = M := List.filter_eq_self.mpr fun x hx => by simpa using hg x hx
    unfold stayN
    rw [e, List.filter_append, List.filter_append, e1, e2, e3]
    simp
  have hm : ∀ c ∈ xs, (c ∈ T ↔ c ∈ M) := fun c hc => by
    refine ⟨fun z => ?_, hg c⟩
    rw [e] at hc
    rcases List.mem_append.mp hc with k | k
    · rcases List.mem_append.mp k with k | k
      · exact absurd z (hA c k)
      · exact k
    · exact absurd z (hC c k)
  have hl : xs.length = A.length + M.length + C.length := by rw [e, List.length_append, List.length_append]
  by_cases q : M = []
  · rw [if_pos q] at hb
    rw [hb]
    refine ⟨Nat.le_refl _, Nat.zero_le _, .inr rfl, ?_, hm⟩
    rw [hst, q]
    rfl
  · rw [if_neg q] at hb
    have hp : 0 < M.length := List.length_pos_iff.mpr q
    rw [hb]
    exact ⟨by show A.length ≤ A.length + M.length; omega, by show A.length + M.length ≤ xs.length; omega, .inl (by show A.length < A.length + M.length; omega), by rw [hst]; show M.length = A.length + M.length - A.length; omega, hm⟩
/-- the places of the given cars -/
theorem brg_in {i : Nat} {c : Str} (hc : xs[i]? = some c) (hS : c ∈ S) (hn : xs.Nodup) : (brg xs S).1 ≤ i ∧ i < (brg xs S).2 := by
  obtain ⟨A, M, C, e, hA, hC, hcut, hb⟩ := brg_cut xs S
  have hi : i < xs.length := (List.getElem?_eq_some_iff.mp hc).1
  have h1 : A.length ≤ i := by
    refine Nat.le_of_not_lt fun z => ?_
    rw [e, List.append_assoc, List.getElem?_append_left z] at hc
    exact hA c (List.mem_of_getElem? hc) hS
  have h2 : i < A.length + M.length := by
    refine Nat.lt_of_not_le fun z => ?_
    rw [e, List.getElem?_append_right (by simpa using z)] at hc
    exact hC c (List.mem_of_getElem? hc) hS
  have hM : M ≠ [] := fun z => by rw [z] at h2; simp at h2; omega
  rw [if_neg hM] at hb
  rw [hb]
  exact ⟨h1, h2⟩
/-- its first and its last car are given -/
theorem brg_ends (hp : 0 < (brg xs S).2) : ∃ c1 c2, xs[(brg xs S).1]? = some c1 ∧ c1 ∈ S ∧ xs[(brg xs S).2 - 1]? = some c2 ∧ c2 ∈ S := by
  have key : ∀ (xs : List Str) (i : Nat), ∀ p ∈ plcs S i xs, i ≤ p ∧ ∃ c, xs[p - i]? = some c ∧ c ∈ S := by
    intro xs
    induction xs with
    | nil => intro i p hp; cases hp
    | cons x r ih =>
      intro i p hp
      have step : p ∈ plcs S (i + 1) r → i ≤ p ∧ ∃ c, (x :: r)[p - i]? = some c ∧ c ∈ S := fun h => by
        obtain ⟨h1, c, h2, h3⟩ := ih (i + 1) p h
        refine ⟨by omega, c, ?_, h3⟩
        rw [show p - i = (p - (i + 1)) + 1 by omega, List.getElem?_cons_succ]
        exact h2
      have hp : p ∈ (if x ∈ S then i :: plcs S (i + 1) r else plcs S (i + 1) r) := hp
      by_cases q : x ∈ S
      · rw [if_pos q] at hp
        rcases List.mem_cons.mp hp with e | e
        · rw [e]
          exact ⟨Nat.le_refl _, x, by rw [Nat.sub_self]; rfl, q⟩
        · exact step e
      · rw [if_neg q] at hp
        exact step hp
  have k0 := key xs 0
  have hp : 0 < (brgL (plcs S 0 xs)).2 := hp
  show ∃ c1 c2, xs[(brgL (plcs S 0 xs)).1]? = some c1 ∧ c1 ∈ S ∧ xs[(brgL (plcs S 0 xs)).2 - 1]? = some c2 ∧ c2 ∈ S
  cases hpl : plcs S 0 xs with
  | nil => rw [hpl] at hp; cases hp
  | cons a r =>
    rw [hpl] at k0
    obtain ⟨_, c1, h1, h2⟩ := k0 a List.mem_cons_self
    obtain ⟨_, c2, h3, h4⟩ := k0 _ (List.getLast_mem (List.cons_ne_nil a r))
    exact ⟨c1, c2, h1, h2, h3, h4⟩
theorem len_parts (hn : (xs ++ arrs es).Nodup) (hT : T.Nodup) (hk : ∀ c ∈ T, c ∈ xs ++ arrs es) : T.length = stayN xs T + cntP T es := by
  have fs : ((xs ++ arrs es).filter fun c => decide (c ∈ T)).Perm T := by
    refine (List.perm_ext_iff_of_nodup (hn.sublist List.filter_sublist) hT).mpr fun c => ?_
    rw [List.mem_filter, decide_eq_true_iff]
    exact ⟨fun z => z.2, fun z => ⟨hk c z, z⟩⟩
  rw [← fs.length_eq, List.filter_append, List.length_append]
  rfl
theorem cnt_sub {A : List Str} (hn : (arrs es).Nodup) (hA : A.Sublist (arrs es)) : cntP A es = A.length := by
  have fs : ((arrs es).filter fun c => decide (c ∈ A)).Perm A := by
    refine (List.perm_ext_iff_of_nodup (hn.sublist List.filter_sublist) (hn.sublist hA)).mpr fun c => ?_
    rw [List.mem_filter, decide_eq_true_iff]
    exact ⟨fun z => z.2, fun z => ⟨hA.subset z, z⟩⟩
  exact fs.length_eq
end
end Ln


set_option Elab.async false
set_option linter.all false
set_option maxRecDepth 100000
set_option maxHeartbeats 4000000
namespace Ln
open PySem PySem.Spec PyProof.Rows L2 GxR
section
variable {xs T S : List Str} {es : List Ev}
/-- a block that may be asked: its own set -/
theorem one_sound {q : Nat × Nat} (hn : (xs ++ arrs es).Nodup) (hk : ∀ c ∈ S, c ∈ xs ++ arrs es) (hq : q ∈ blocksF xs S (mn (ext0 xs (gvn xs S) es))) (h : cmplOne xs es S q = some T) :
    T.Sublist (xs ++ arrs es) ∧ Vl xs es T ∧ (∀ c ∈ S, c ∈ T) ∧ brg xs T = q ∧ ∃ A, gr (gvn xs S) ((q.2 : Int) - q.1) (min q.1 (xs.length - q.2)) 0 xs.length 0 es = some A ∧ T = cutN xs q ++ A := by
  have nx := (List.nodup_append.mp hn).1
  have ne := (List.nodup_append.mp hn).2.1
  have dis := (List.nodup_append.mp hn).2.2
  unfold cmplOne at h
  cases hA : gr (gvn xs S) ((q.2 : Int) - q.1) (min q.1 (xs.length - q.2)) 0 xs.length 0 es with
  | none => rw [hA] at h; cases h
  | some A =>
    rw [hA] at h
    have h : (if (q.2 : Int) - q.1 + A.length = endI xs.length es then some (cutN xs q ++ A) else none) = some T := h
    by_cases hsz : (q.2 : Int) - q.1 + A.length = endI xs.length es
    · rw [if_pos hsz] at h
      obtain rfl := Option.some.inj h
      obtain ⟨hsub, hgiv⟩ := gr_sub es 0 xs.length 0 A hA
      have hlo : q.1 ≤ q.2 ∧ q.2 ≤ xs.length ∧ ((q.2 : Int) - q.1 ≤ mn (ext0 xs (gvn xs S) es)) ∧ (q.1 < q.2 ∨ q = (0, 0)) := by
        rcases mem_blocks.mp hq with ⟨_, h2, h3, h4⟩ | ⟨h1, _, h3⟩
        · unfold seB at h2
          exact ⟨by omega, h4, by omega, .inl (by omega)⟩
        · subst h1
          exact ⟨Nat.le_refl _, Nat.zero_le _, h3, .inr rfl⟩
      obtain ⟨hle, hlen, hroom, hne⟩ := hlo
      rw [ext0_gvn] at hroom
      have hcl : (cutN xs q).length = q.2 - q.1 := cut_len hlen
      have ex := cut_eq (xs := xs) hle
      have hAx : ∀ c ∈ A, c ∉ xs := fun c hc z => dis c z c (hsub.subset hc) rfl
      have m0 : ∀ c ∈ cutN xs q, c ∈ cutN xs q ++ A := fun c hc => List.mem_append_left _ hc
      have nd3 : (xs.take q.1 ++ cutN xs q ++ xs.drop q.2).Nodup := by rw [← ex]; exact nx
      have hT1 : ∀ c ∈ xs.take q.1, c ∉ cutN xs q ++ A := fun c hc z => by
        rcases List.mem_append.mp z with k | k
        · exact (List.nodup_append.mp (List.nodup_append.mp nd3).1).2.2 c hc c k rfl
        · exact hAx c k (List.mem_of_mem_take hc)
      have hT3 : ∀ c ∈ xs.drop q.2, c ∉ cutN xs q ++ A := fun c hc z => by
        rcases List.mem_append.mp z with k | k
        · exact (List.nodup_append.mp nd3).2.2 c (List.mem_append_right _ k) c hc rfl
        · exact hAx c k (List.mem_of_mem_drop hc)
      have hb : brg xs (cutN xs q ++ A) = q := by
        have := brg_mid hT1 m0 hT3
        rw [← ex] at this
        rw [this]
        rcases hne with k | k
        · rw [if_neg fun z => by rw [z] at hcl; simp at hcl; omega, hcl, List.length_take, Nat.min_eq_left (by omega)]
          exact Prod.ext rfl (by show q.1 + (q.2 - q.1) = q.2; omega)
        · subst k
          rfl
      have hgap : ∀ c ∈ cutN xs (brg xs (cutN xs q ++ A)), c ∈ cutN xs q ++ A := by rw [hb]; exact m0
      obtain ⟨_, _, _, hst, _⟩ := blk_of hgap
      rw [hb] at hst
      have hcg : ∀ c ∈ arrs es, (c ∈ cutN xs q ++ A ↔ c ∈ A) := fun c hc => by
        rw [List.mem_append]
        exact ⟨fun z => z.elim (fun k => absurd rfl (dis c (cutN_sub c k) c hc)) id, .inr⟩
      have hr := gr_room es 0 xs.length 0 A ne hA (by omega)
      have he : ext0 xs (cutN xs q ++ A) es = extL A (xs.length - ((q.2 : Int) - q.1) - ((0 : Nat) : Int)) es := by
        show extL _ ((xs.length : Int) - stayN xs (cutN xs q ++ A)) es = _
        rw [ext_congr es _ hcg, hst]
        congr 1
        omega
      refine ⟨?_, ⟨?_, ?_, hgap, fun d hd => ?_⟩, fun c hc => ?_, hb, A, rfl, rfl⟩
      · refine List.Sublist.append ?_ hsub
        exact (List.drop_sublist _ _).trans (List.take_sublist _ _)
      · rw [List.length_append, hcl]
        omega
      · rw [he]
        exact hr
      · rw [hb]
        exact .inl (gr_dep es 0 xs.length 0 A _ ne hA hcg d hd)
      · by_cases hx : c ∈ xs
        · obtain ⟨i, hi, hic⟩ := List.getElem_of_mem hx
          have hg : xs[i]? = some c := by rw [List.getElem?_eq_getElem hi, hic]
          obtain ⟨b1, b2⟩ := brg_in hg hc nx
          refine List.mem_append_left _ ?_
          rcases mem_blocks.mp hq with ⟨h1, h2, _, _⟩ | ⟨_, h2, _⟩
          · unfold latest1 at h1
            rw [if_pos (by omega)] at h1
            unfold seB at h2
            have e1 : (cutN xs q)[i - q.1]? = some c := by
              show ((xs.take q.2).drop q.1)[i - q.1]? = some c
              rw [List.getElem?_drop, show q.1 + (i - q.1) = i by omega, List.getElem?_take_of_lt (by omega)]
              exact hg
            exact List.mem_of_getElem? e1
          · omega
        · refine List.mem_append_right _ (hgiv c ?_ (gvn_mem.mpr ⟨hc, hx⟩))
          exact (List.mem_append.mp (hk c hc)).resolve_left hx
    · rw [if_neg hsz] at h
      cases h
/-- a set that can stay is found at its own block, or the choice there is less -/
theorem one_full (hn : (xs ++ arrs es).Nodup) (hT : T.Nodup) (hk : ∀ c ∈ T, c ∈ xs ++ arrs es) (v : Vl xs es T) (hS : ∀ c ∈ S, c ∈ T) :
    brg xs T ∈ blocksF xs S (mn (ext0 xs (gvn xs S) es)) ∧ FitS (gvn xs S) (min (brg xs T).1 (xs.length - (brg xs T).2)) T 0 ((xs.length : Int) - (((brg xs T).2 : Int) - (brg xs T).1) - ((0 : Nat) : Int)) es ∧ (cmplOne xs es S (brg xs T)).isSome = true := by
  have nx := (List.nodup_append.mp hn).1
  have ne := (List.nodup_append.mp hn).2.1
  have dis := (List.nodup_append.mp hn).2.2
  obtain ⟨b1, b2, b3, b4, b5⟩ := blk_of v.gap
  have hside := v.side
  have hgT : ∀ c ∈ arrs es, c ∈ gvn xs S → c ∈ T := fun c _ hc => hS c (gvn_mem.mp hc).1
  have he : ext0 xs T es = extL T ((xs.length : Int) - (((brg xs T).2 : Int) - (brg xs T).1) - ((0 : Nat) : Int)) es := by
    show extL T ((xs.length : Int) - stayN xs T) es = _
    rw [b4]
    congr 1
    omega
  have hpos := v.pos
  rw [he] at hpos
  have hfit : FitS (gvn xs S) (min (brg xs T).1 (xs.length - (brg xs T).2)) T 0 ((xs.length : Int) - (((brg xs T).2 : Int) - (brg xs T).1) - ((0 : Nat) : Int)) es := by
    refine fit_of es 0 _ hpos hgT fun n hd => ?_
    rcases hside n hd with k | k
    · exact k
    · rcases b3 with w | w
      · omega
      · rw [w]
        exact Nat.zero_le _
  have hroom : ((brg xs T).2 : Int) - (brg xs T).1 ≤ mn (extL (gvn xs S) xs.length es) := mn_ge (k := ((brg xs T).2 : Int) - (brg xs T).1) (by omega) hgT (by
    have := hpos
    rw [show (xs.length : Int) - (((brg xs T).2 : Int) - (brg xs T).1) - ((0 : Nat) : Int) = xs.length - (((brg xs T).2 : Int) - (brg xs T).1) by omega] at this
    exact this)
  refine ⟨mem_blocks.mpr ?_, hfit, ?_⟩
  · rw [ext0_gvn]
    -- where the given cars of the first lane are
    have hin : 0 < (brg xs S).2 → (brg xs T).1 ≤ (brg xs S).1 ∧ (brg xs S).2 ≤ (brg xs T).2 := fun hp => by
      obtain ⟨A, M, C, e, hA, hC, hcut, hb⟩ := brg_cut xs S
      have hM : M ≠ [] := fun z => by rw [if_pos z] at hb; rw [hb] at hp; cases hp
      rw [if_neg hM] at hb
      have hMp : 0 < M.length := List.length_pos_iff.mpr hM
      -- the first and the last car of the block are given: brg says so
      have hplc := brg_ends (xs := xs) (S := S) hp
      obtain ⟨c1, c2, h1, h2, h3, h4⟩ := hplc
      have d1 := brg_in h1 (hS _ h2) nx
      have d2 := brg_in h3 (hS _ h4) nx
      omega
    rcases b3 with w | w
    · refine .inl ⟨?_, ?_, by omega, b2⟩
      · unfold latest1
        split
        · rename_i hp
          have := (hin hp).1
          omega
        · omega
      · unfold seB
        by_cases hp : 0 < (brg xs S).2
        · have := (hin hp).2
          omega
        · omega
    · refine .inr ⟨w, ?_, by rw [w] at hroom; exact hroom⟩
      by_cases hp : 0 < (brg xs S).2
      · have := (hin hp).2
        rw [w] at this
        exact Nat.le_zero.mp this
      · omega
  · obtain ⟨A, hA, hc⟩ := gr_most es 0 xs.length 0 0 hfit (Nat.le_refl _) (by omega) (by omega)
    have hr := gr_room es 0 xs.length 0 A ne hA (by omega)
    have hl := hr _ (ext_last es _)
    have hs := (gr_sub es 0 xs.length 0 A hA).1
    rw [cnt_sub ne hs] at hl
    have e2 : endI ((xs.length : Int) - (((brg xs T).2 : Int) - (brg xs T).1) - ((0 : Nat) : Int)) es = endI xs.length es - (((brg xs T).2 : Int) - (brg xs T).1) := by
      have := endI_add es xs.length (-(((brg xs T).2 : Int) - (brg xs T).1))
      rw [show (xs.length : Int) - (((brg xs T).2 : Int) - (brg xs T).1) - ((0 : Nat) : Int) = xs.length + -(((brg xs T).2 : Int) - (brg xs T).1) by omega, this]
      omega
    rw [e2] at hl
    have hsz := v.sz
    have hlp := len_parts hn hT hk
    unfold cmplOne
    rw [hA]
    show (if _ then some _ else none : Option (List Str)).isSome = true
    rw [if_pos (by omega)]
    rfl
/-- the first set is the least: where they part, it has the earlier car -/
def Lex (kn T U : List Str) : Prop := (∀ c ∈ kn, (c ∈ T ↔ c ∈ U)) ∨ ∃ pre c post, kn = pre ++ c :: post ∧ c ∈ T ∧ c ∉ U ∧ ∀ z ∈ pre, (z ∈ T ↔ z ∈ U)
theorem find_some {α β : Type} {f : α → Option β} : ∀ {l : List α} {b : β}, l.findSome? f = some b → ∃ pre q post, l = pre ++ q :: post ∧ f q = some b ∧ ∀ p ∈ pre, f p = none
  | [], b, h => nomatch h
  | x :: r, b, h => by
    cases q : f x with
    | some y =>
      rw [List.findSome?_cons, q] at h
      obtain rfl : y = b := Option.some.inj h
      exact ⟨[], x, r, rfl, q, fun _ h => nomatch h⟩
    | none =>
      rw [List.findSome?_cons, q] at h
      obtain ⟨pre, y, post, h1, h2, h3⟩ := find_some h
      refine ⟨x :: pre, y, post, by rw [h1]; rfl, h2, fun p hp => ?_⟩
      rcases List.mem_cons.mp hp with e | e
      · rw [e]; exact q
      · exact h3 p e
theorem cmpl_some (hn : (xs ++ arrs es).Nodup) (hk : ∀ c ∈ S, c ∈ xs ++ arrs es) (h : cmplF xs es S = some T) :
    T.Sublist (xs ++ arrs es) ∧ whyS xs es T = .ok ∧ (∀ c ∈ S, c ∈ T) ∧ ∀ U : List Str, U.Nodup → (∀ c ∈ U, c ∈ xs ++ arrs es) → whyS xs es U = .ok → (∀ c ∈ S, c ∈ U) → Lex (xs ++ arrs es) T U := by
  have nx := (List.nodup_append.mp hn).1
  have ne := (List.nodup_append.mp hn).2.1
  have dis := (List.nodup_append.mp hn).2.2
  obtain ⟨pre, q, post, h1, h2, h3⟩ := find_some h
  have hq : q ∈ blocksF xs S (mn (ext0 xs (gvn xs S) es)) := by rw [h1]; exact List.mem_append_right _ List.mem_cons_self
  obtain ⟨s1, s2, s3, s4, A, hA, eT⟩ := one_sound hn hk hq h2
  refine ⟨s1, vl_iff.mpr s2, s3, fun U hU kU wU sU => ?_⟩
  have vU := vl_iff.mp wU
  obtain ⟨u1, u2, u3⟩ := one_full hn hU kU vU sU
  obtain ⟨c1, c2, c3, c4, c5⟩ := blk_of vU.gap
  obtain ⟨t1, t2, t3, t4, t5⟩ := blk_of s2.gap
  rw [s4] at t1 t2 t3 t5
  have hAx : ∀ c ∈ A, c ∉ xs := fun c hc z => dis c z c ((gr_sub es 0 xs.length 0 A hA).1.subset hc) rfl
  have hTA : ∀ c ∈ arrs es, (c ∈ T ↔ c ∈ A) := fun c hc => by
    rw [eT, List.mem_append]
    exact ⟨fun z => z.elim (fun k => absurd rfl (dis c (cutN_sub c k) c hc)) id, .inr⟩
  rw [h1] at u1
  rcases List.mem_append.mp u1 with z | z
  · rw [h3 _ z] at u3
    cases u3
  rcases List.mem_cons.mp z with e | z
  · -- the same block
    have hxs : ∀ c ∈ xs, (c ∈ T ↔ c ∈ U) := fun c hc => by rw [t5 c hc, c5 c hc, e]
    rw [e] at u2
    rcases gr_first es 0 xs.length 0 A ne u2 (by omega) hA with k | ⟨pr, c, po, k1, k2, k3, k4⟩
    · refine .inl fun c hc => ?_
      rcases List.mem_append.mp hc with w | w
      · exact hxs c w
      · exact (hTA c w).trans (k c w)
    · refine .inr ⟨xs ++ pr, c, po, by rw [k1, List.append_assoc], (hTA c (by rw [k1]; exact List.mem_append_right _ List.mem_cons_self)).mpr k2, k3, fun z hz => ?_⟩
      rcases List.mem_append.mp hz with w | w
      · exact hxs z w
      · exact (hTA z (by rw [k1]; exact List.mem_append_left _ w)).trans (k4 z w)
  · -- a later block
    have ord := blocks_ord xs S (mn (ext0 xs (gvn xs S) es))
    rw [h1] at ord
    obtain ⟨r1, r2⟩ := (List.pairwise_cons.mp (List.pairwise_append.mp ord).2.1).1 _ z
    have hql : q.1 < q.2 := by
      rcases t3 with w | w
      · exact w
      · rw [w] at r1
        cases r1
    have idx : ∀ {i : Nat} {c : Str} {p : Nat × Nat}, xs[i]? = some c → p.2 ≤ xs.length → (c ∈ cutN xs p ↔ p.1 ≤ i ∧ i < p.2) := fun {i c p} hc hp => by
      have hi := (List.getElem?_eq_some_iff.mp hc).1
      constructor
      · intro hm
        obtain ⟨j, hj, hjc⟩ := List.getElem_of_mem hm
        have hj2 : (cutN xs p)[j]? = some c := by rw [List.getElem?_eq_getElem hj, hjc]
        have hj3 : ((xs.take p.2).drop p.1)[j]? = some c := hj2
        rw [List.getElem?_drop, List.getElem?_take] at hj3
        split at hj3
        · rename_i w
          have : p.1 + j = i := by
            have a1 := (List.getElem?_eq_some_iff.mp hj3)
            have a2 := (List.getElem?_eq_some_iff.mp hc)
            exact (List.getElem_inj nx).mp (a1.2.trans a2.2.symm)
          omega
        · cases hj3
      · rintro ⟨a1, a2⟩
        have e1 : (cutN xs p)[i - p.1]? = some c := by
          show ((xs.take p.2).drop p.1)[i - p.1]? = some c
          rw [List.getElem?_drop, show p.1 + (i - p.1) = i by omega, List.getElem?_take_of_lt (by omega)]
          exact hc
        exact List.mem_of_getElem? e1
    -- the first place that differs
    obtain ⟨i, hi1, hi2, hi3, hi4⟩ : ∃ i, q.1 ≤ i ∧ i < q.2 ∧ ¬ ((brg xs U).1 ≤ i ∧ i < (brg xs U).2) ∧ ∀ j, j < i → ((q.1 ≤ j ∧ j < q.2) ↔ ((brg xs U).1 ≤ j ∧ j < (brg xs U).2)) := by
      rcases r2 with w | w | ⟨w, w2⟩
      · exact ⟨q.1, Nat.le_refl _, hql, by omega, fun j hj => by omega⟩
      · exact ⟨q.1, Nat.le_refl _, hql, by omega, fun j hj => by omega⟩
      · by_cases hz : (brg xs U).2 ≤ q.1
        · exact ⟨q.1, Nat.le_refl _, hql, by omega, fun j hj => by omega⟩
        · exact ⟨(brg xs U).2, by omega, w2, by omega, fun j hj => by omega⟩
    have hix : i < xs.length := by omega
    have hg : xs[i]? = some xs[i] := List.getElem?_eq_getElem hix
    have hex : xs = xs.take i ++ xs[i] :: xs.drop (i + 1) := by rw [List.getElem_cons_drop, List.take_append_drop]
    refine .inr ⟨xs.take i, xs[i], xs.drop (i + 1) ++ arrs es, by rw [← List.cons_append, ← List.append_assoc, ← hex], ?_, ?_, fun z hz => ?_⟩
    · exact (t5 _ (List.getElem_mem hix)).mpr ((idx hg t2).mpr ⟨hi1, hi2⟩)
    · exact fun k => hi3 ((idx hg c2).mp ((c5 _ (List.getElem_mem hix)).mp k))
    · have hzx := List.mem_of_mem_take hz
      obtain ⟨j, hj, hjz⟩ := List.getElem_of_mem hz
      rw [List.length_take] at hj
      have hzj : xs[j]? = some z := by
        rw [List.getElem_take] at hjz
        rw [List.getElem?_eq_getElem (by omega), hjz]
      rw [t5 z hzx, c5 z hzx, idx hzj t2, idx hzj c2]
      exact hi4 j (by omega)
theorem cmpl_none (hn : (xs ++ arrs es).Nodup) (h : cmplF xs es S = none) (hT : T.Nodup) (hk : ∀ c ∈ T, c ∈ xs ++ arrs es) (v : whyS xs es T = .ok) (hS : ∀ c ∈ S, c ∈ T) : False := by
  obtain ⟨u1, _, u3⟩ := one_full hn hT hk (vl_iff.mp v) hS
  unfold cmplF at h
  rw [List.findSome?_eq_none_iff] at h
  rw [h _ u1] at u3
  cases u3
end
end Ln


set_option Elab.async false
set_option linter.all false
set_option maxRecDepth 100000
set_option maxHeartbeats 8000000
namespace Ln
open PySem PySem.Spec PyProof.Rows L2 GxR
theorem scLeast : FnScope ["counts", "least", "index"] ["counts"] (defScope sLeast) := ⟨rfl, rfl, rfl, by decide +kernel, rfl, by decide +kernel, by decide +kernel⟩
theorem scListArr : FnScope ["log", "given", "room", "arrivals", "departures", "moment", "event"] ["log", "given", "room"] (defScope sListArr) := ⟨rfl, rfl, rfl, by decide +kernel, rfl, by decide +kernel, by decide +kernel⟩
theorem scListBlk : FnScope ["start", "cars", "longest", "first", "last", "latest", "blocks", "low", "shortest_end", "longest_end", "high"] ["start", "cars", "longest"] (defScope sListBlk) := ⟨rfl, rfl, rfl, by decide +kernel, rfl, by decide +kernel, by decide +kernel⟩
theorem scChoose : FnScope ["arrivals", "length", "needed", "chosen", "added", "car", "is_given", "departures", "room"] ["arrivals", "length", "needed"] (defScope sChoose) := ⟨rfl, rfl, rfl, by decide +kernel, rfl, by decide +kernel, by decide +kernel⟩
theorem scComplete : FnScope ["start", "log", "cars", "final", "given", "room", "arrivals", "low", "high", "length", "needed", "chosen", "car"] ["start", "log", "cars"] (defScope sComplete) := ⟨rfl, rfl, rfl, by decide +kernel, rfl, by decide +kernel, by decide +kernel⟩
theorem paired_app2 {α β : Type} {R : α → β → Prop} : ∀ {as as2 : List α} {bs bs2 : List β}, Paired R as bs → Paired R as2 bs2 → Paired R (as ++ as2) (bs ++ bs2)
  | _, _, _, _, .nil, k => k
  | _, _, _, _, .cons h t, k => .cons h (paired_app2 t k)
/-- the arrivals as the program lists them -/
abbrev Arv := Str × Bool × Nat × Int
def arrR (gv : List Str) (R : List Int) : Nat → Nat → List Ev → List Arv
  | _, _, [] => []
  | d, m, .out :: r => arrR gv R (d + 1) (m + 1) r
  | d, m, .inn c :: r => (c, decide (c ∈ gv), d, R.getD m 0) :: arrR gv R d (m + 1) r
def ArvT (H : Hp) (ts : List Addr) (L : List Arv) : Prop := Paired (fun t (x : Arv) => H t = some (.tup [.str x.1, .bl x.2.1, .int (x.2.2.1 : Nat), .int x.2.2.2])) ts L
theorem ArvT.same {H H' : Hp} {ts : List Addr} {L : List Arv} (h : ArvT H ts L) (k : L2.Same H H') : ArvT H' ts L := Paired.imp h fun _ _ q => k _ _ q
theorem ArvT.kp {Ps : List Addr} {H H' : Hp} {ts : List Addr} {L : List Arv} (h : ArvT H ts L) (k : Kp Ps H H') (hT : Tabs Ps H) : ArvT H' ts L := Paired.imp h fun _ _ q => k.tup hT q
theorem ArvT.updL {H : Hp} {ts : List Addr} {L : List Arv} {b : Addr} {z : List V} {o : HO} (h : ArvT H ts L) (hb : H b = some (.lst z)) : ArvT (upd H b o) ts L := Paired.imp h fun t _ q => by rw [upd_ne fun e => by rw [e, hb] at q; cases q]; exact q
def chz (len : Int) (need : Nat) : Nat → List Arv → Option (List Str)
  | _, [] => some []
  | a, (c, g, d, rm) :: r => if g = true then (if d < need then none else (chz len need a r).map (c :: ·)) else if need ≤ d ∧ (a : Int) < rm - len then (chz len need (a + 1) r).map (c :: ·) else chz len need a r
theorem chz_gr {g : List Str} {R : List Int} {len : Int} {need : Nat} : ∀ (es : List Ev) (d k : Nat) (x : Int) (a : Nat), (∀ i, i ≤ es.length → R.getD (k + i) 0 = mn ((extL g x es).drop i)) → chz len need a (arrR g R d (k + 1) es) = gr g len need d x a es
  | [], d, k, x, a, _ => rfl
  | .out :: r, d, k, x, a, h => chz_gr r (d + 1) (k + 1) (x - 1) a fun i hi => by
    have := h (i + 1) (by rw [List.length_cons]; omega)
    rw [show k + 1 + i = k + (i + 1) by omega, this]
    rfl
  | .inn c :: r, d, k, x, a, h => by
    have h' : ∀ i, i ≤ r.length → R.getD (k + 1 + i) 0 = mn ((extL g (if c ∈ g then x else x + 1) r).drop i) := fun i hi => by
      have := h (i + 1) (by rw [List.length_cons]; omega)
      rw [show k + 1 + i = k + (i + 1) by omega, this]
      rfl
    have h1 := h' 0 (Nat.zero_le _)
    rw [List.drop_zero, Nat.add_zero] at h1
    show (if decide (c ∈ g) = true then (if d < need then none else (chz len need a (arrR g R d (k + 1 + 1) r)).map (c :: ·)) else if need ≤ d ∧ (a : Int) < R.getD (k + 1) 0 - len then (chz len need (a + 1) (arrR g R d (k + 1 + 1) r)).map (c :: ·) else chz len need a (arrR g R d (k + 1 + 1) r)) = (if c ∈ g then (if d < need then none else (gr g len need d x a r).map (c :: ·)) else if need ≤ d ∧ (a : Int) < mn (extL g (x + 1) r) - len then (gr g len need d (x + 1) (a + 1) r).map (c :: ·) else gr g len need d (x + 1) a r)
    by_cases q : c ∈ g
    · rw [if_pos (decide_eq_true q), if_pos q]
      rw [if_pos q] at h'
      rw [chz_gr r d (k + 1) x a h']
    · rw [if_neg (show ¬ (decide (c ∈ g) = true) by rw [decide_eq_false q]; exact Bool.false_ne_true), if_neg q]
      rw [if_neg q] at h' h1
      rw [h1, chz_gr r d (k + 1) (x + 1) a h', chz_gr r d (k + 1) (x + 1) (a + 1) h']
theorem least_take {L : List Int} {j : Nat} (h : j + 1 < L.length) : L.take (j + 1) ++ leastF (L.drop (j + 1)) = (L.take j ++ L.getD j 0 :: leastF (L.drop (j + 1))) := by
  have hj : j < L.length := by omega
  rw [List.take_add_one, List.getElem?_eq_getElem hj, List.getD_eq_getElem?_getD, List.getElem?_eq_getElem hj, List.append_assoc]
  rfl
theorem least_step {L : List Int} {j : Nat} (h : j + 1 < L.length) : L.take j ++ leastF (L.drop j) = L.take j ++ (if (leastF (L.drop (j + 1))).headD 0 < L.getD j 0 then (leastF (L.drop (j + 1))).headD 0 else L.getD j 0) :: leastF (L.drop (j + 1)) := by
  have hj : j < L.length := by omega
  have hne : L.drop (j + 1) ≠ [] := fun z => by
    have := List.drop_eq_nil_iff.mp z
    omega
  rw [List.drop_eq_getElem_cons hj, List.getD_eq_getElem?_getD, List.getElem?_eq_getElem hj]
  show L.take j ++ (if L.drop (j + 1) = [] then _ else _) :: _ = _
  rw [if_neg hne]
  rfl
section
variable {P : Program} {w : World} {K : PySem.W.Frag} {mg : Str → Option Value} {base : Heap} {Ps : List Addr}
def spLeast (K : PySem.W.Frag) : Sp := fun vs H Q _ => ∃ (a : Addr) (L : List Int), vs = [.ref a] ∧ SqL K H a (L.map V.int) ∧ L.length ≤ 500 ∧ L ≠ [] ∧ ∀ (H' : Hp) (p : Addr), L2.Same H H' → H p = none → H' p = some (.lst ((leastF L).map V.int)) → Q (.ref p) H'
theorem ok_least {f : Addr} {fd : FuncData} (F : Fun K "least_from_here" "least_from_here" sLeast f fd) (B : Bi mg) (B2 : Bl mg) : FnOk P w K mg base CX0 1 f fd ["counts"] (spLeast K) := by
  refine F.ok scLeast (fun vs H Q E h => ?_) (fun cdv A outer s H vs Q E hr h => ?_)
  · obtain ⟨a, L, rfl, _⟩ := h
    rfl
  · obtain ⟨a, L, rfl, hL, few, hne, q⟩ := h
    refine ⟨_, pss_cons (ps_set (i := 1) scLeast.nd rfl (.inl rfl) (pe_callTy call_list_of (by rfl) B.lst (by decide +kernel) (pa_cons (pv 0) pa_nil)))
      (pss_cons (ps_for PassesOwn.never rfl (pi_range3 (by rfl) B2.rng (pa_cons (pe_op op_sub (pe_callB call_len_seq (by rfl) B.len PySem.boot_len (pa_cons (pv 0) pa_nil)) pe_int) (pa_cons (pe_un un_neg pe_int) (pa_cons (pe_un un_neg pe_int) pa_nil)))) (pg_name (i := 2) scLeast.nd rfl (.inl rfl))
        (pss_one (ps_asg (pe_callB (call_min2 rfl) (by rfl) B2.min (by decide +kernel) (pa_cons (pe_ix ix_list (pv 1) (pv 2) (fun _ _ => rfl)) (pa_cons (pe_ix ix_list (pv 1) (pe_op op_add (pv 2) pe_int) (fun _ _ => rfl)) pa_nil))) (pg_sub (pv 1) (pv 2) set_list))))
      (pss_one (ps_ret (pv 1)))), ?_⟩
    have hpos : 0 < L.length := List.length_pos_iff.mpr hne
    refine ⟨.ref a, rfl, a, _, rfl, .inl hL, fun D hD => ?_⟩
    have smD : L2.Same H (upd H D (.lst (L.map V.int))) := sm_new sm_refl hD
    have hD1 : (upd H D (.lst (L.map V.int))) D = some (.lst (L.map V.int)) := upd_same
    generalize upd H D (.lst (L.map V.int)) = H1 at smD hD1 ⊢
    refine ⟨.ref a, rfl, a, _, rfl, .inl (sq_same hL smD), _, _, rfl, rfl, 1, rfl, 1, rfl, _, _, _, _, rfl, RgC.neg (by rw [List.length_map]; omega) (by rw [List.length_map]; omega) (by decide) (by decide), ?_⟩
    refine for_rangeC (Pv := fun i σ H' => ∃ v2 : Option V, σ = [some (.ref a), some (.ref D), v2] ∧ L2.Same H H' ∧ i ≤ L.length - 1 ∧ H' D = some (.lst ((L.take (L.length - 1 - i) ++ leastF (L.drop (L.length - 1 - i))).map V.int))) ?_ ?_ ?_
    · refine ⟨none, rfl, smD, Nat.zero_le _, ?_⟩
      rw [hD1, Nat.sub_zero]
      have e : leastF (L.drop (L.length - 1)) = L.drop (L.length - 1) := by
        rw [List.drop_eq_getElem_cons (by omega : L.length - 1 < L.length), List.drop_eq_nil_of_le (by omega)]
        rfl
      rw [e, List.take_append_drop]
    · rintro i σ H' hi ⟨v2, rfl, sm, hie, hD'⟩
      rw [List.length_map] at hi
      have hi : i < L.length - 1 := by omega
      obtain ⟨j, hj⟩ : ∃ j, L.length - 1 - i = j + 1 := ⟨L.length - 1 - i - 1, by omega⟩
      have hj2 : L.length - 1 - (i + 1) = j := by omega
      rw [hj, least_take (by omega)] at hD'
      have hjl : j < L.length := by omega
      have tl : (L.take j).length = j := by rw [List.length_take]; omega
      have ei : ((((L.map V.int).length : Nat) : Int) - 2 + ((i : Nat) : Int) * -1) = ((j : Nat) : Int) := by
        rw [List.length_map]
        omega
      have hne2 : L.drop (j + 1) ≠ [] := fun z => by
        have := List.drop_eq_nil_iff.mp z
        omega
      obtain ⟨m, rest, hm⟩ : ∃ m rest, leastF (L.drop (j + 1)) = m :: rest := by
        cases hq : leastF (L.drop (j + 1)) with
        | nil =>
          have := least_len (L.drop (j + 1))
          rw [hq] at this
          exact absurd (List.length_eq_zero_iff.mp this.symm) hne2
        | cons m rest => exact ⟨m, rest, rfl⟩
      rw [hm] at hD'
      have g0 : ((L.take j ++ L.getD j 0 :: m :: rest).map V.int)[j]? = some (.int (L.getD j 0)) := by
        rw [List.getElem?_map, List.getElem?_append_right (by omega), tl, Nat.sub_self]
        rfl
      have g1 : ((L.take j ++ L.getD j 0 :: m :: rest).map V.int)[j + 1]? = some (.int m) := by
        rw [List.getElem?_map, List.getElem?_append_right (by omega), tl, show j + 1 - j = 1 by omega]
        rfl
      have ll : (L.take j ++ L.getD j 0 :: m :: rest).length ≤ L.length + 500 := by
        have := least_len (L.drop (j + 1))
        rw [hm, List.length_drop] at this
        rw [List.length_append, tl, List.length_cons, this]
        omega
      refine ⟨.ref D, rfl, _, rfl, D, _, _, _, rfl, by rw [ei], SqL.of hD', atI_nat g0, .ref D, rfl, _, rfl, _, _, rfl, rfl, D, _, _, _, rfl, by rw [ei]; rfl, SqL.of hD', atI_nat (j := j + 1) g1, _, _, rfl, .ref D, rfl, _, rfl, D, _, ((j : Nat) : Int), j, rfl, by rw [ei], hD', ?_, ?_⟩
      · unfold ixN
        rw [if_pos (by omega), if_pos (by rw [List.length_map, List.length_append, tl, List.length_cons]; omega)]
        rfl
      · refine ⟨_, rfl, sm_upd sm hD, by omega, ?_⟩
        rw [upd_same, hj2, least_step (by omega), hm]
        congr 2
        rw [← List.map_set]
        congr 1
        rw [List.set_append_right _ _ (by omega), tl, Nat.sub_self]
        rfl
    · rintro σ H' ⟨v2, rfl, sm, hie, hD'⟩
      rw [show L.length - 1 - (((((L.map V.int).length : Nat) : Int) - 2) - -1).toNat = 0 by rw [List.length_map]; omega] at hD'
      exact ⟨.ref D, rfl, q H' D sm hD hD'⟩
end
end Ln


set_option Elab.async false
set_option linter.all false
set_option maxRecDepth 100000
set_option maxHeartbeats 8000000
namespace Ln
open PySem PySem.Spec PyProof.Rows L2 GxR
theorem arrR_len (gv : List Str) (R : List Int) : ∀ (es : List Ev) (d m : Nat), (arrR gv R d m es).length ≤ es.length
  | [], _, _ => Nat.le_refl _
  | .out :: r, d, m => Nat.le_succ_of_le (arrR_len gv R r (d + 1) (m + 1))
  | .inn c :: r, d, m => Nat.succ_le_succ (arrR_len gv R r d (m + 1))
section
variable {P : Program} {w : World} {K : PySem.W.Frag} {mg : Str → Option Value} {base : Heap} {Ps : List Addr}
def spListArr (K : PySem.W.Frag) (Ps : List Addr) : Sp := fun vs H Q _ => ∃ (l g r : Addr) (as : List Addr) (es : List Ev) (gv : List Str) (R : List Int), vs = [.ref l, .ref g, .ref r] ∧ LogAt K H l as es ∧ SqT K H g (gv.map V.str) ∧ SqL K H r (R.map V.int) ∧ R.length = es.length + 1 ∧ Tabs Ps H ∧
  ∀ H' p ts, Kp Ps H H' → H p = none → H' p = some (.lst (ts.map V.ref)) → ArvT H' ts (arrR gv R 0 1 es) → Q (.ref p) H'
theorem ok_listArr {f : Addr} {fd : FuncData} (F : Fun K "list_arrivals" "list_arrivals" sListArr f fd) (B3 : Bn mg) : FnOk P w K mg base CX0 1 f fd ["log", "given", "room"] (spListArr K Ps) := by
  refine F.ok scListArr (fun vs H Q E h => ?_) (fun cdv A outer s H vs Q E hr h => ?_)
  · obtain ⟨l, g, r, as, es, gv, R, rfl, _⟩ := h
    rfl
  · obtain ⟨l, g, r, as, es, gv, R, rfl, hE, hG, hR, hRl, hT, q⟩ := h
    refine ⟨_, pss_cons (ps_set (i := 3) scListArr.nd rfl (.inl rfl) (pe_lst pa_nil))
      (pss_cons (ps_set (i := 4) scListArr.nd rfl (.inl rfl) pe_int)
      (pss_cons (ps_for PassesOwn.never rfl (pi_enumF true 1 (by decide) (by decide) (by rfl) B3.enm (pa_cons (pv 0) (pa_cons pe_int pa_nil))) (pg_tup rfl (pgs_cons (pg_name (i := 5) scListArr.nd rfl (.inl rfl)) (pgs_cons (pg_name (i := 6) scListArr.nd rfl (.inl rfl)) pgs_nil)))
        (pss_one (ps_if (pt_cmpR op_eq (pe_ix ix_tup (pv 6) pe_int (fun _ _ => rfl)) pe_str (nomark _)) (pss_one (ps_aug (i := 4) scListArr.nd rfl (.inl rfl) pe_int ip_add))
          (pss_one (ps_expr (pe_bm PySem.F.plainAttrs_list PySem.F.slot_list_append PySem.F.type_list_append mt_append (pv 3) (pa_cons (pe_tup (pa_cons (pe_ix ix_tup (pv 6) pe_int (fun _ _ => rfl)) (pa_cons (pe_cmpR op_in_seq (pe_ix ix_tup (pv 6) pe_int (fun _ _ => rfl)) (pv 1) (by rfl)) (pa_cons (pv 4) (pa_cons (pe_ix ix_list (pv 2) (pv 5) (fun _ _ => rfl)) pa_nil))))) pa_nil)))))))
      (pss_one (ps_ret (pv 3))))), ?_⟩
    have hlen := Paired.length hE.evs
    have few2 := hE.few
    refine ⟨Nat.zero_le _, fun o ho => ?_⟩
    have k2 : Kp Ps H (L2.upd H o (.lst [])) := Kp.new hT ho
    refine ⟨.ref l, rfl, l, as.map V.ref, rfl, (hE.kp k2 hT).at_, for_it (walk_enumA (K := K) (b := true) (k0 := 1) (a := l) (xs := as.map V.ref)) (fun i σ H' => ∃ (v5 v6 : Option V) (d : Nat) (ts : List Addr) (acc : List Arv),
      σ = [some (.ref l), some (.ref g), some (.ref r), some (.ref o), some (.int (d : Nat)), v5, v6] ∧ Kp Ps H H' ∧ i ≤ es.length ∧ H' o = some (.lst (ts.map V.ref)) ∧ ArvT H' ts acc ∧ arrR gv R 0 1 es = acc ++ arrR gv R d (i + 1) (es.drop i) ∧ acc.length ≤ i) ?_ ?_ ?_ ?_⟩
    · exact ⟨none, none, 0, [], [], rfl, k2, Nat.zero_le _, upd_same, .nil, rfl, Nat.le_refl _⟩
    · rintro i σ H' _ ⟨_, _, _, _, _, _, kp, _⟩
      exact (hE.kp kp hT).at_
    · rintro i x σ H1' H2' hi ⟨v5, v6, d, ts, acc, rfl, kp, hie, ho', hst, heq, hac⟩ ⟨T, y1, y2, rfl, hTn, rfl, e1, e2⟩
      obtain rfl := Option.some.inj e1
      have hlt : i < es.length := by
        rw [List.length_map] at hi
        omega
      have hev : es[i]? = some es[i] := List.getElem?_eq_getElem hlt
      have hT0 : H T = none := kp.free hT hTn
      have kp1 : Kp Ps H (L2.upd H1' T (.tup [.int (1 + (i : Nat)), y2])) := kp.upd hT hT0
      have noT : o ≠ T := ne_of_none ho' hTn
      have ho1 : (L2.upd H1' T (.tup [.int (1 + (i : Nat)), y2])) o = some (.lst (ts.map V.ref)) := by rw [upd_ne noT]; exact ho'
      have hst1 : ArvT (L2.upd H1' T (.tup [.int (1 + (i : Nat)), y2])) ts acc := hst.same (sm_new sm_refl hTn)
      obtain ⟨b, hb, hbt⟩ := pair_at (hE.kp kp1 hT).evs i _ hev
      have hy : y2 = .ref b := by
        have e2 : (as.map V.ref)[i]? = some y2 := e2
        rw [List.getElem?_map, hb] at e2
        exact (Option.some.inj e2).symm
      subst hy
      have hdrop : es.drop i = es[i] :: es.drop (i + 1) := List.drop_eq_getElem_cons hlt
      rw [hdrop] at heq
      refine ⟨T, _, rfl, .inl (.inl upd_same), rfl, _, _, rfl, _, _, rfl, rfl, ?_⟩
      generalize L2.upd H1' T (.tup [.int (1 + (i : Nat)), .ref b]) = Ha at kp1 ho1 hst1 hbt ⊢
      cases hE2 : es[i] with
      | out =>
        rw [hE2] at hbt heq
        refine ⟨.ref b, rfl, b, _, 0, .str "out", rfl, rfl, hbt, atI_nat (j := 0) rfl, rfl, _, rfl, ?_⟩
        rw [decide_eq_true (rfl : V.str "out" = V.str "out")]
        refine iteT ⟨_, rfl, _, _, rfl, rfl, ?_⟩
        exact ⟨_, _, d + 1, ts, acc, rfl, kp1, hlt, ho1, hst1, heq, by omega⟩
      | inn c =>
        rw [hE2] at hbt heq
        have heq : arrR gv R 0 1 es = acc ++ (c, decide (c ∈ gv), d, R.getD (i + 1) 0) :: arrR gv R d (i + 1 + 1) (es.drop (i + 1)) := heq
        have hRi : (R.map V.int)[i + 1]? = some (.int (R.getD (i + 1) 0)) := by
          rw [List.getElem?_map, List.getD_eq_getElem?_getD, List.getElem?_eq_getElem (by omega)]
          rfl
        have em : (1 : Int) + (i : Nat) = ((i + 1 : Nat) : Int) := by omega
        refine ⟨.ref b, rfl, b, _, 0, .str "in", rfl, rfl, hbt, atI_nat (j := 0) rfl, rfl, _, rfl, ?_⟩
        rw [decide_eq_false (fun z => ne_io (V.str.inj z))]
        refine iteF ⟨.ref o, rfl, .inl ⟨rfl, _, SqL.of ho1⟩, .ref b, rfl, b, _, 1, .str c, rfl, rfl, hbt, atI_nat (j := 1) rfl, .ref b, rfl, b, _, 1, .str c, rfl, rfl, hbt, atI_nat (j := 1) rfl, .ref g, rfl, g, _, rfl, .inr (kp1.seqT hT hG), rfl, flat_strs gv, ?_⟩
        show tCons _ _ _ _ _
        refine ⟨_, rfl, .ref r, rfl, _, rfl, r, _, ((i + 1 : Nat) : Int), _, rfl, by rw [em], kp1.seqL hT hR, atI_nat hRi, by show 4 ≤ sizeLine; decide, fun t ht => ?_⟩
        have ht0 : H t = none := kp1.free hT ht
        have nt : o ≠ t := ne_of_none ho1 ht
        rw [inV_strs]
        refine ⟨o, _, _, rfl, rfl, by rw [upd_ne nt]; exact ho1, by rw [List.length_map, Paired.length hst1]; exact small1000 (by omega), ?_⟩
        refine ⟨_, _, d, ts ++ [t], acc ++ [(c, decide (c ∈ gv), d, R.getD (i + 1) 0)], rfl, ?_, hlt, by rw [upd_same, List.map_append]; rfl, ?_, by rw [heq, List.append_assoc]; rfl, by rw [List.length_append, List.length_singleton]; omega⟩
        · exact (kp1.upd hT ht0).upd hT ho
        · have hs2 : ArvT (upd Ha t (.tup [.str c, .bl (decide (c ∈ gv)), .int (d : Nat), .int (R.getD (i + 1) 0)])) ts acc := hst1.same (sm_new sm_refl ht)
          have h3 : ArvT (upd Ha t (.tup [.str c, .bl (decide (c ∈ gv)), .int (d : Nat), .int (R.getD (i + 1) 0)])) (ts ++ [t]) (acc ++ [(c, decide (c ∈ gv), d, R.getD (i + 1) 0)]) := paired_app2 hs2 (.cons upd_same .nil)
          exact h3.updL (by rw [upd_ne nt]; exact ho1)
    · rintro σ H' ⟨v5, v6, d, ts, acc, rfl, kp, hie, ho', hst, heq, hac⟩
      rw [List.length_map, hlen, List.drop_length] at heq
      have heq : arrR gv R 0 1 es = acc ++ [] := heq
      rw [List.append_nil] at heq
      exact ⟨.ref o, rfl, q H' o ts kp ho ho' (by rw [heq]; exact hst)⟩
end
end Ln


set_option Elab.async false
set_option linter.all false
set_option maxRecDepth 100000
set_option maxHeartbeats 8000000
namespace Ln
open PySem PySem.Spec PyProof.Rows L2 GxR
def BlkT (H : Hp) (ts : List Addr) (L : List (Nat × Nat)) : Prop := Paired (fun t (q : Nat × Nat) => H t = some (.tup [.int (q.1 : Nat), .int (q.2 : Nat)])) ts L
theorem BlkT.same {H H' : Hp} {ts : List Addr} {L : List (Nat × Nat)} (h : BlkT H ts L) (k : L2.Same H H') : BlkT H' ts L := Paired.imp h fun _ _ q => k _ _ q
theorem BlkT.kp {Ps : List Addr} {H H' : Hp} {ts : List Addr} {L : List (Nat × Nat)} (h : BlkT H ts L) (k : Kp Ps H H') (hT : Tabs Ps H) : BlkT H' ts L := Paired.imp h fun _ _ q => k.tup hT q
theorem BlkT.updL {H : Hp} {ts : List Addr} {L : List (Nat × Nat)} {b : Addr} {z : List V} {o : HO} (h : BlkT H ts L) (hb : H b = some (.lst z)) : BlkT (upd H b o) ts L := Paired.imp h fun t _ q => by rw [upd_ne fun e => by rw [e, hb] at q; cases q]; exact q
def ChV (H H' : Hp) (v : V) : Option (List Str) → Prop
  | none => v = .non
  | some A => ∃ p, v = .ref p ∧ H p = none ∧ H' p = some (.lst (A.map V.str))
theorem chz_len {len : Int} {need : Nat} : ∀ (L : List Arv) (a : Nat) (A : List Str), chz len need a L = some A → A.length ≤ L.length
  | [], a, A, h => by
    obtain rfl : ([] : List Str) = A := Option.some.inj h
    exact Nat.le_refl _
  | (c, g, d, rm) :: r, a, A, h => by
    have h : (if g = true then (if d < need then none else (chz len need a r).map (c :: ·)) else if need ≤ d ∧ (a : Int) < rm - len then (chz len need (a + 1) r).map (c :: ·) else chz len need a r) = some A := h
    have take : ∀ {a}, (chz len need a r).map (c :: ·) = some A → A.length ≤ ((c, g, d, rm) :: r).length := fun {a} h => by
      cases q : chz len need a r with
      | none => rw [q] at h; cases h
      | some B =>
        rw [q] at h
        obtain rfl : c :: B = A := Option.some.inj h
        exact Nat.succ_le_succ (chz_len r a B q)
    split at h
    · split at h
      · cases h
      · exact take h
    · split at h
      · exact take h
      · exact Nat.le_succ_of_le (chz_len r a A h)
section
variable {P : Program} {w : World} {K : PySem.W.Frag} {mg : Str → Option Value} {base : Heap} {Ps : List Addr}
def spChoose (K : PySem.W.Frag) : Sp := fun vs H Q _ => ∃ (l : Addr) (ts : List Addr) (L : List Arv) (len : Int) (need : Nat), vs = [.ref l, .int len, .int (need : Nat)] ∧ SqL K H l (ts.map V.ref) ∧ ArvT H ts L ∧ L.length ≤ 400 ∧
  ∀ H' v, L2.Same H H' → ChV H H' v (chz len need 0 L) → Q v H'
theorem ok_choose {f : Addr} {fd : FuncData} (F : Fun K "choose_arrivals" "choose_arrivals" sChoose f fd) : FnOk P w K mg base CX0 1 f fd ["arrivals", "length", "needed"] (spChoose K) := by
  refine F.ok scChoose (fun vs H Q E h => ?_) (fun cdv A outer s H vs Q E hr h => ?_)
  · obtain ⟨l, ts, L, len, need, rfl, _⟩ := h
    rfl
  · obtain ⟨l, ts, L, len, need, rfl, hl, hL, few, q⟩ := h
    refine ⟨_, pss_cons (ps_set (i := 3) scChoose.nd rfl (.inl rfl) (pe_lst pa_nil))
      (pss_cons (ps_set (i := 4) scChoose.nd rfl (.inl rfl) pe_int)
      (pss_cons (ps_for PassesOwn.never rfl (pi_list (pv 0)) (pg_tup rfl (pgs_cons (pg_name (i := 5) scChoose.nd rfl (.inl rfl)) (pgs_cons (pg_name (i := 6) scChoose.nd rfl (.inl rfl)) (pgs_cons (pg_name (i := 7) scChoose.nd rfl (.inl rfl)) (pgs_cons (pg_name (i := 8) scChoose.nd rfl (.inl rfl)) pgs_nil)))))
        (pss_cons (ps_if (PW.pt (pw_and (pt_val (pv 6)) (pw_and1 (pt_cmpR op_lt (pv 7) (pv 2) (nomark _))))) (pss_one (ps_ret pe_non)) pss_nil)
        (pss_one (ps_if (pt_val (pv 6)) (pss_one (ps_expr (pe_bm PySem.F.plainAttrs_list PySem.F.slot_list_append PySem.F.type_list_append mt_append (pv 3) (pa_cons (pv 5) pa_nil))))
          (pss_one (ps_if (PW.pt (pw_and (pt_cmpR op_ge (pv 7) (pv 2) (nomark _)) (pw_and1 (pt_cmpR op_lt (pv 4) (pe_op op_sub (pv 8) (pv 1)) (nomark _)))))
            (pss_cons (ps_expr (pe_bm PySem.F.plainAttrs_list PySem.F.slot_list_append PySem.F.type_list_append mt_append (pv 3) (pa_cons (pv 5) pa_nil))) (pss_one (ps_aug (i := 4) scChoose.nd rfl (.inl rfl) pe_int ip_add))) pss_nil))))))
      (pss_one (ps_ret (pv 3))))), ?_⟩
    refine ⟨Nat.zero_le _, fun o ho => ?_⟩
    have hlen := Paired.length hL
    refine ⟨.ref l, rfl, l, rfl, ⟨_, sq_same hl (sm_new sm_refl ho)⟩, for_list (K := K) (a := l) (xs := ts.map V.ref) (fun i σ H' => ∃ (v5 v6 v7 v8 : Option V) (acc : List Str) (a : Nat), σ = [some (.ref l), some (.int len), some (.int (need : Nat)), some (.ref o), some (.int (a : Nat)), v5, v6, v7, v8] ∧
      L2.Same H H' ∧ i ≤ L.length ∧ H' o = some (.lst (acc.map V.str)) ∧ acc.length ≤ i ∧ chz len need 0 L = (chz len need a (L.drop i)).map (acc ++ ·)) ?_ ?_ ?_ ?_⟩
    · exact ⟨none, none, none, none, [], 0, rfl, sm_new sm_refl ho, Nat.zero_le _, upd_same, Nat.le_refl _, by rw [List.drop_zero]; cases chz len need 0 L <;> rfl⟩
    · rintro i σ H' _ ⟨_, _, _, _, _, _, _, sm, _⟩
      exact sq_same hl sm
    · rintro i x σ H' hi ⟨v5, v6, v7, v8, acc, a, rfl, sm, hie, ho', hac, heq⟩
      have hlt : i < L.length := by
        have h1 := (List.getElem?_eq_some_iff.mp hi).1
        rw [List.length_map] at h1
        omega
      have hx : L[i]? = some L[i] := List.getElem?_eq_getElem hlt
      obtain ⟨t, ht, htt⟩ := pair_at (hL.same sm) i _ hx
      have hxt : x = .ref t := by
        rw [List.getElem?_map, ht] at hi
        exact (Option.some.inj hi).symm
      subst hxt
      rw [List.drop_eq_getElem_cons hlt] at heq
      generalize L[i] = y at htt heq
      obtain ⟨c, g, d, rm⟩ := y
      have heq : chz len need 0 L = (if g = true then (if d < need then none else (chz len need a (L.drop (i + 1))).map (c :: ·)) else if need ≤ d ∧ (a : Int) < rm - len then (chz len need (a + 1) (L.drop (i + 1))).map (c :: ·) else chz len need a (L.drop (i + 1))).map (acc ++ ·) := heq
      have mm : ∀ o : Option (List Str), (o.map (c :: ·)).map (acc ++ ·) = o.map ((acc ++ [c]) ++ ·) := fun o => by
        cases o with
        | none => rfl
        | some z => simp
      refine ⟨t, _, rfl, SqT.of htt, rfl, _, _, rfl, _, _, rfl, _, _, rfl, _, _, rfl, rfl, ?_⟩
      cases g with
      | true =>
        rw [if_pos rfl] at heq
        refine ⟨_, rfl, true, rfl, iteT ⟨_, rfl, _, rfl, _, _, rfl, rfl, _, rfl, ite2 (fun hz => ?_) (fun hz => ?_)⟩⟩
        · have hz : (d : Int) < (need : Int) := by simpa using hz
          rw [if_pos (by omega)] at heq
          exact q H' .non sm (by rw [heq]; rfl)
        · have hz : ¬ (d : Int) < (need : Int) := by simpa using hz
          rw [if_neg (by omega), mm] at heq
          refine ⟨_, rfl, true, rfl, iteT ⟨.ref o, rfl, .inl ⟨rfl, _, SqL.of ho'⟩, _, rfl, o, _, _, rfl, rfl, ho', by rw [List.length_map]; exact small1000 (by omega), ?_⟩⟩
          exact ⟨_, _, _, _, acc ++ [c], a, rfl, sm_upd sm ho, hlt, by rw [upd_same, List.map_append]; rfl, by rw [List.length_append, List.length_singleton]; omega, heq⟩
      | false =>
        rw [if_neg Bool.false_ne_true] at heq
        refine ⟨_, rfl, false, rfl, iteF (iteF ⟨_, rfl, false, rfl, iteF ⟨_, rfl, _, rfl, _, _, rfl, rfl, _, rfl, ite2 (fun hz => ?_) (fun hz => ?_)⟩⟩)⟩
        · have hz : (need : Int) ≤ (d : Int) := by simpa using hz
          refine ⟨_, rfl, _, rfl, _, rfl, _, _, rfl, rfl, _, _, rfl, rfl, _, rfl, ite2 (fun hw => ?_) (fun hw => ?_)⟩
          · have hw : (a : Int) < rm - len := by simpa using hw
            rw [if_pos ⟨by omega, hw⟩, mm] at heq
            refine ⟨.ref o, rfl, .inl ⟨rfl, _, SqL.of ho'⟩, _, rfl, o, _, _, rfl, rfl, ho', by rw [List.length_map]; exact small1000 (by omega), _, rfl, _, _, rfl, rfl, ?_⟩
            exact ⟨_, _, _, _, acc ++ [c], a + 1, rfl, sm_upd sm ho, hlt, by rw [upd_same, List.map_append]; rfl, by rw [List.length_append, List.length_singleton]; omega, heq⟩
          · have hw : ¬ (a : Int) < rm - len := by simpa using hw
            rw [if_neg (fun z => hw z.2)] at heq
            exact ⟨_, _, _, _, acc, a, rfl, sm, hlt, ho', by omega, heq⟩
        · have hz : ¬ (need : Int) ≤ (d : Int) := by simpa using hz
          rw [if_neg (fun z => hz (by omega))] at heq
          refine iteF ⟨_, _, _, _, acc, a, rfl, sm, hlt, ho', by omega, heq⟩
    · rintro σ H' ⟨v5, v6, v7, v8, acc, a, rfl, sm, hie, ho', hac, heq⟩
      rw [List.length_map, hlen, List.drop_length] at heq
      have heq : chz len need 0 L = some (acc ++ []) := heq
      rw [List.append_nil] at heq
      exact ⟨.ref o, rfl, q H' _ sm (by rw [heq]; exact ⟨o, rfl, ho, ho'⟩)⟩
end
end Ln


set_option Elab.async false
set_option linter.all false
set_option maxRecDepth 100000
set_option maxHeartbeats 8000000
namespace Ln
open PySem PySem.Spec PyProof.Rows L2 GxR
theorem nH_le {len last low : Nat} {longest : Int} : nH len last longest low ≤ len := by
  unfold nH seB
  split <;> omega
theorem hs_get {len last low : Nat} {longest : Int} {j : Nat} (h : j < nH len last longest low) : (hsL len last longest low)[j]? = some (low, seB last low + (nH len last longest low - 1 - j)) := by
  unfold hsL
  rw [List.getElem?_map, List.getElem?_range h]
  rfl
theorem hs_len {len last low : Nat} {longest : Int} : (hsL len last longest low).length = nH len last longest low := by
  unfold hsL
  rw [List.length_map, List.length_range]
theorem flat_take {α : Type} (f : Nat → List α) (i : Nat) : (List.range (i + 1)).flatMap f = (List.range i).flatMap f ++ f i := by
  rw [List.range_succ, List.flatMap_append]
  simp
theorem flat_le (f : Nat → List (Nat × Nat)) (k : Nat) (h : ∀ i, (f i).length ≤ k) : ∀ n, ((List.range n).flatMap f).length ≤ n * k
  | 0 => by simp
  | n + 1 => by
    rw [flat_take, List.length_append, Nat.succ_mul]
    have := flat_le f k h n
    have := h n
    omega
theorem sq_mul {a b : Nat} (ha : a ≤ 400) (hb : b ≤ 400) : a * b ≤ 160000 := Nat.le_trans (Nat.mul_le_mul ha hb) (by decide)
section
variable {P : Program} {w : World} {K : PySem.W.Frag} {mg : Str → Option Value} {base : Heap} {Ps : List Addr}
def spListBlk (K : PySem.W.Frag) (Ps : List Addr) : Sp := fun vs H Q _ => ∃ (a f : Addr) (xs S : List Str) (longest : Int), vs = [.ref a, .ref f, .int longest] ∧ SqT K H a (xs.map V.str) ∧ SqT K H f (S.map V.str) ∧ xs.length ≤ 400 ∧ -1000 ≤ longest ∧ longest ≤ 1000 ∧ Tabs Ps H ∧
  ∀ H' p ts, Kp Ps H H' → H p = none → H' p = some (.lst (ts.map V.ref)) → BlkT H' ts (blocksF xs S longest) → Q (.ref p) H'
theorem ok_listBlk {f0 : Addr} {fB : Addr} {fd fdB : FuncData} (F : Fun K "list_blocks" "list_blocks" sListBlk f0 fd) (B : Bi mg) (B2 : Bl mg)
    (GB : FnOk P w K mg base CX0 1 fB fdB ["start", "cars"] (spBlockR K Ps)) (mgB : mg "block_range" = some (.ref fB)) (kB : PySem.W.keepIn K (.ref fB) = true) (bB : Binds K fdB ["start", "cars"] []) : FnOk P w K mg base CX0 2 f0 fd ["start", "cars", "longest"] (spListBlk K Ps) := by
  refine F.ok scListBlk (fun vs H Q E h => ?_) (fun cdv A outer s H vs Q E hr h => ?_)
  · obtain ⟨a, f, xs, S, longest, rfl, _⟩ := h
    rfl
  · obtain ⟨a, f, xs, S, longest, rfl, hA, hF, few, lo1, lo2, hT, q⟩ := h
    have bl := brg_le xs S
    have tail : ∃ tt : TS, PSs (cxOf CX0 P w K mg base ["start", "cars", "longest", "first", "last", "latest", "blocks", "low", "shortest_end", "longest_end", "high"] "list_blocks" (defScope sListBlk) f0 cdv A outer s H E).nox ((defBody sListBlk).drop 2) tt ∧ ∀ (H1 : Hp), Kp Ps H H1 →
        tt { nx := fun _ H' => Q .non H', rt := Q } [some (.ref a), some (.ref f), some (.int longest), some (.int ((brg xs S).1 : Nat)), some (.int ((brg xs S).2 : Nat)), some (.int ((latest1 xs S : Nat) - 1)), none, none, none, none, none] H1 := by
      refine ⟨_, pss_cons (ps_set (i := 6) scListBlk.nd rfl (.inl rfl) (pe_lst pa_nil))
      (pss_cons (ps_for PassesOwn.never rfl (pi_range1 (by rfl) B2.rng (pa_cons (pe_op op_add (pv 5) pe_int) pa_nil)) (pg_name (i := 7) scListBlk.nd rfl (.inl rfl))
        (pss_cons (ps_set (i := 8) scListBlk.nd rfl (.inl rfl) (pe_callB (call_max2 rfl) (by rfl) B2.max (by decide +kernel) (pa_cons (pv 4) (pa_cons (pe_op op_add (pv 7) pe_int) pa_nil))))
        (pss_cons (ps_set (i := 9) scListBlk.nd rfl (.inl rfl) (pe_callB (call_min2 rfl) (by rfl) B2.min (by decide +kernel) (pa_cons (pe_callB call_len_seq (by rfl) B.len PySem.boot_len (pa_cons (pv 0) pa_nil)) (pa_cons (pe_op op_add (pv 7) (pv 2)) pa_nil))))
        (pss_one (ps_for PassesOwn.never rfl (pi_range3 (by rfl) B2.rng (pa_cons (pv 9) (pa_cons (pe_op op_sub (pv 8) pe_int) (pa_cons (pe_un un_neg pe_int) pa_nil)))) (pg_name (i := 10) scListBlk.nd rfl (.inl rfl))
          (pss_one (ps_expr (pe_bm PySem.F.plainAttrs_list PySem.F.slot_list_append PySem.F.type_list_append mt_append (pv 6) (pa_cons (pe_tup (pa_cons (pv 7) (pa_cons (pv 10) pa_nil))) pa_nil)))))))))
      (pss_cons (ps_if (PW.pt (pw_and (pt_cmpR op_eq (pv 4) pe_int (nomark _)) (pw_and1 (pt_cmpR op_ge (pv 2) pe_int (nomark _))))) (pss_one (ps_expr (pe_bm PySem.F.plainAttrs_list PySem.F.slot_list_append PySem.F.type_list_append mt_append (pv 6) (pa_cons (pe_tup (pa_cons pe_int (pa_cons pe_int pa_nil))) pa_nil)))) pss_nil)
      (pss_one (ps_ret (pv 6))))), fun H1 k1 => ?_⟩
      have hl1 : latest1 xs S ≤ 401 := by
        unfold latest1
        split <;> omega
      refine ⟨Nat.zero_le _, fun o ho => ?_⟩
      have ho0 : H o = none := k1.free hT ho
      have k2 : Kp Ps H (L2.upd H1 o (.lst [])) := k1.upd hT ho0
      have nHb : ∀ low, (hsL xs.length (brg xs S).2 longest low).length ≤ 400 := fun low => by
        rw [hs_len]
        have := nH_le (len := xs.length) (last := (brg xs S).2) (longest := longest) (low := low)
        omega
      refine ⟨_, rfl, _, _, rfl, rfl, _, rfl, by omega, by omega, for_range (lo := 0) (n := _) (fun i σ H' => ∃ (v7 v8 v9 v10 : Option V) (ts : List Addr), σ = [some (.ref a), some (.ref f), some (.int longest), some (.int ((brg xs S).1 : Nat)), some (.int ((brg xs S).2 : Nat)), some (.int ((latest1 xs S : Nat) - 1)), some (.ref o), v7, v8, v9, v10] ∧
        Kp Ps H H' ∧ H' o = some (.lst (ts.map V.ref)) ∧ BlkT H' ts ((List.range i).flatMap fun low => hsL xs.length (brg xs S).2 longest low) ∧ i ≤ latest1 xs S) ?_ ?_ ?_⟩
      · exact ⟨none, none, none, none, [], rfl, k2, upd_same, .nil, Nat.zero_le _⟩
      · rintro i σ H' hi ⟨v7, v8, v9, v10, ts, rfl, kp, ho', hB, hil⟩
        have hi : i < latest1 xs S := by omega
        have eA := (kp.seqT hT hA)
        refine ⟨_, rfl, _, rfl, _, _, rfl, rfl, _, _, rfl, .ref a, rfl, a, _, rfl, .inr eA, _, rfl, _, rfl, _, _, rfl, rfl, _, _, rfl, ?_⟩
        have hse : (if (0 : Int) + (i : Int) + 1 > ((brg xs S).2 : Nat) then (0 : Int) + (i : Int) + 1 else ((brg xs S).2 : Nat)) = ((seB (brg xs S).2 i : Nat) : Int) := by
          unfold seB
          split <;> omega
        have hle : (if (0 : Int) + (i : Int) + longest < ((xs.map V.str).length : Nat) then (0 : Int) + (i : Int) + longest else ((xs.map V.str).length : Nat)) = (if (i : Int) + longest < (xs.length : Int) then (i : Int) + longest else (xs.length : Int)) := by
          rw [List.length_map, Int.zero_add]
        rw [hse, hle]
        have hn : ((if (i : Int) + longest < (xs.length : Int) then (i : Int) + longest else (xs.length : Int)) - (((seB (brg xs S).2 i : Nat) : Int) - 1)).toNat = nH xs.length (brg xs S).2 longest i := by
          unfold nH
          congr 1
          omega
        have hb1 : seB (brg xs S).2 i ≤ 802 := by
          unfold seB
          omega
        refine ⟨_, rfl, _, rfl, _, _, rfl, rfl, 1, rfl, _, _, _, _, rfl, RgC.neg (by split <;> omega) (by split <;> omega) (by omega) (by omega), ?_⟩
        rw [hn]
        refine for_rangeC (Pv := fun j σ H' => ∃ (v8 v9 v10 : Option V) (ts : List Addr), σ = [some (.ref a), some (.ref f), some (.int longest), some (.int ((brg xs S).1 : Nat)), some (.int ((brg xs S).2 : Nat)), some (.int ((latest1 xs S : Nat) - 1)), some (.ref o), some (.int (0 + (i : Int))), v8, v9, v10] ∧
          Kp Ps H H' ∧ H' o = some (.lst (ts.map V.ref)) ∧ BlkT H' ts (((List.range i).flatMap fun low => hsL xs.length (brg xs S).2 longest low) ++ (hsL xs.length (brg xs S).2 longest i).take j) ∧ j ≤ nH xs.length (brg xs S).2 longest i) ?_ ?_ ?_
        · exact ⟨_, _, _, ts, rfl, kp, ho', by rw [List.take_zero, List.append_nil]; exact hB, Nat.zero_le _⟩
        · rintro j σ H2 hj ⟨v8, v9, v10, ts, rfl, kp2, ho2, hB2, hjl⟩
          have hg := hs_get hj
          have hval : (if (i : Int) + longest < (xs.length : Int) then (i : Int) + longest else (xs.length : Int)) + ((j : Nat) : Int) * -1 = ((seB (brg xs S).2 i + (nH xs.length (brg xs S).2 longest i - 1 - j) : Nat) : Int) := by
            have hn2 := hn
            rw [← hn2] at hj ⊢
            omega
          have hzi : (0 : Int) + (i : Int) = ((i : Nat) : Int) := by omega
          refine ⟨.ref o, rfl, .inl ⟨rfl, _, SqL.of ho2⟩, _, rfl, _, rfl, by show 2 ≤ sizeLine; decide, fun t ht => ?_⟩
          rw [hval]
          have ht0 : H t = none := kp2.free hT ht
          have nt : o ≠ t := ne_of_none ho2 ht
          have htl : ts.length ≤ 200000 := by
            have h1 := Paired.length hB2
            rw [List.length_append, List.length_take] at h1
            have h2 := flat_le (fun low => hsL xs.length (brg xs S).2 longest low) 400 nHb i
            have h3 := nHb i
            have h4 : i * 400 ≤ 401 * 400 := Nat.mul_le_mul (by omega) (Nat.le_refl _)
            omega
          refine ⟨o, _, _, rfl, rfl, by rw [upd_ne nt]; exact ho2, by rw [List.length_map, sizeLine_eq]; omega, ?_⟩
          refine ⟨_, _, _, ts ++ [t], rfl, (kp2.upd hT ht0).upd hT ho0, by rw [upd_same, List.map_append]; rfl, ?_, hj⟩
          have hs2 : BlkT (upd H2 t (.tup [.int (0 + (i : Int)), .int ((seB (brg xs S).2 i + (nH xs.length (brg xs S).2 longest i - 1 - j) : Nat) : Int)])) ts _ := hB2.same (sm_new sm_refl ht)
          rw [List.take_add_one, hg, ← List.append_assoc]
          have h3 : BlkT (upd H2 t (.tup [.int (0 + (i : Int)), .int ((seB (brg xs S).2 i + (nH xs.length (brg xs S).2 longest i - 1 - j) : Nat) : Int)])) (ts ++ [t]) _ := paired_app2 hs2 (.cons (b := (i, seB (brg xs S).2 i + (nH xs.length (brg xs S).2 longest i - 1 - j))) (by rw [upd_same, hzi]) .nil)
          exact h3.updL (by rw [upd_ne nt]; exact ho2)
        · rintro σ H2 ⟨v8, v9, v10, ts, rfl, kp2, ho2, hB2, hjl⟩
          refine ⟨_, _, _, _, ts, rfl, kp2, ho2, ?_, hi⟩
          rw [flat_take]
          rw [← hs_len, List.take_length] at hB2
          exact hB2
      · rintro σ H' ⟨v7, v8, v9, v10, ts, rfl, kp, ho', hB, hil⟩
        have hcnt : ((((latest1 xs S : Nat) : Int) - 1) + 1).toNat = latest1 xs S := by omega
        rw [hcnt] at hB
        have htl : ts.length ≤ 200000 := by
          have h1 := Paired.length hB
          have h2 := flat_le (fun low => hsL xs.length (brg xs S).2 longest low) 400 nHb (latest1 xs S)
          have h4 : latest1 xs S * 400 ≤ 401 * 400 := Nat.mul_le_mul hl1 (Nat.le_refl _)
          omega
        refine ⟨_, rfl, rfl, _, rfl, ite2 (fun hz => ?_) (fun hz => ?_)⟩
        · have hz : (((brg xs S).2 : Nat) : Int) = 0 := by simpa using hz
          refine ⟨_, rfl, _, _, rfl, rfl, _, rfl, ite2 (fun hw => ?_) (fun hw => ?_)⟩
          · have hw : 0 ≤ longest := by simpa using hw
            refine ⟨.ref o, rfl, .inl ⟨rfl, _, SqL.of ho'⟩, by show 2 ≤ sizeLine; decide, fun t ht => ?_⟩
            have ht0 : H t = none := kp.free hT ht
            have nt : o ≠ t := ne_of_none ho' ht
            refine ⟨o, _, _, rfl, rfl, by rw [upd_ne nt]; exact ho', by rw [List.length_map, sizeLine_eq]; omega, ?_⟩
            refine ⟨.ref o, rfl, q _ o (ts ++ [t]) ((kp.upd hT ht0).upd hT ho0) ho0 (by rw [upd_same, List.map_append]; rfl) ?_⟩
            unfold blocksF
            rw [if_pos ⟨by omega, hw⟩]
            have hs2 : BlkT (upd H' t (.tup [.int 0, .int 0])) ts _ := hB.same (sm_new sm_refl ht)
            have h3 : BlkT (upd H' t (.tup [.int 0, .int 0])) (ts ++ [t]) _ := paired_app2 hs2 (.cons (b := (0, 0)) upd_same .nil)
            exact h3.updL (by rw [upd_ne nt]; exact ho')
          · have hw : ¬ 0 ≤ longest := by simpa using hw
            refine ⟨.ref o, rfl, q H' o ts kp ho0 ho' ?_⟩
            unfold blocksF
            rw [if_neg (fun z => hw z.2), List.append_nil]
            exact hB
        · have hz : ¬ (((brg xs S).2 : Nat) : Int) = 0 := by simpa using hz
          refine iteF ⟨.ref o, rfl, q H' o ts kp ho0 ho' ?_⟩
          unfold blocksF
          rw [if_neg (fun z => hz (by omega)), List.append_nil]
          exact hB
    obtain ⟨tt, htt, fin⟩ := tail
    refine ⟨_, pss_cons (ps_asg (pe_call GB hr (by rfl) mgB kB bB .nil pass0 (pa_cons (pv 0) (pa_cons (pv 1) pa_nil))) (pg_tup (by rfl) (pgs_cons (pg_name (i := 3) scListBlk.nd rfl (.inl rfl)) (pgs_cons (pg_name (i := 4) scListBlk.nd rfl (.inl rfl)) pgs_nil))))
      (pss_cons (ps_set (i := 5) scListBlk.nd rfl (.inl rfl) (pe_ifExp (pt_cmpR op_gt (pv 4) pe_int (nomark _)) (pv 3) (pe_op op_sub (pe_callB call_len_seq (by rfl) B.len PySem.boot_len (pa_cons (pv 0) pa_nil)) pe_int)))
      htt), ?_⟩
    refine ⟨.ref a, rfl, .ref f, rfl, a, f, xs, S, rfl, hA, hF, few, hT, fun H1 p1 k1 hp1 hp1' => ⟨p1, _, rfl, SqT.of hp1', rfl, _, _, rfl, _, _, rfl, rfl, ?_⟩⟩
    refine ⟨_, rfl, _, _, rfl, rfl, _, rfl, ite2 (fun hz => ?_) (fun hz => ?_)⟩
    · have hz : (0 : Int) < ((brg xs S).2 : Nat) := by simpa using hz
      refine ⟨_, rfl, ?_⟩
      have e : ((latest1 xs S : Nat) : Int) - 1 = ((brg xs S).1 : Nat) := by
        unfold latest1
        rw [if_pos (by omega)]
        omega
      have := fin H1 k1
      rw [e] at this
      exact this
    · have hz : ¬ (0 : Int) < ((brg xs S).2 : Nat) := by simpa using hz
      refine ⟨.ref a, rfl, a, _, rfl, .inr (k1.seqT hT hA), _, _, rfl, rfl, ?_⟩
      have e : ((latest1 xs S : Nat) : Int) - 1 = ((xs.map V.str).length : Nat) - 1 := by
        unfold latest1
        rw [if_neg (by omega), List.length_map]
      have := fin H1 k1
      rw [e] at this
      exact this
end
end Ln



set_option Elab.async false
set_option linter.all false
set_option maxRecDepth 100000
set_option maxHeartbeats 8000000
namespace Ln
open PySem PySem.Spec PyProof.Rows L2 GxR
theorem sqT_same {K : PySem.W.Frag} {H H1 : Hp} {a : Addr} {xs : List V} (h : SqT K H a xs) (k : L2.Same H H1) : SqT K H1 a xs := by
  rcases h with (e | ⟨ob, e⟩) | e
  · exact .inl (.inl (k _ _ e))
  · exact .inl (.inr ⟨ob, k _ _ e⟩)
  · exact .inr e
theorem slA {K : PySem.W.Frag} {H : Hp} {a : Addr} {xs : List Str} {p : Nat × Nat} {Q : VK} (hA : SqT K H a (xs.map V.str)) (h1 : p.1 ≤ xs.length) (h2 : p.2 ≤ xs.length) (q : ∀ H4 z, L2.Same H H4 → SqT K H4 z ((cutN xs p).map V.str) → Q (.ref z) H4) : rSlA K (.ref a) (some ((p.1 : Nat) : Int)) (some ((p.2 : Nat) : Int)) H Q := by
  have hcut : cutV (xs.map V.str) (some ((p.1 : Nat) : Int)) (some ((p.2 : Nat) : Int)) = (cutN xs p).map V.str := by
    rw [cutV_nat (by rw [List.length_map]; exact h1) (by rw [List.length_map]; exact h2)]
    unfold cutN
    rw [← List.map_take, ← List.map_drop]
  refine ⟨a, _, rfl, hA, fun hw => ?_, fun _ z hz => ?_⟩
  · refine q H a sm_refl ?_
    rw [HT.sIx_nat, HT.sIx_nat, List.length_map, Nat.min_eq_left h1, Nat.min_eq_left h2] at hw
    have e : cutN xs p = xs := by
      unfold cutN
      rw [hw.1, hw.2, List.take_length]
      rfl
    rw [e]
    exact hA
  · refine q _ z (sm_new sm_refl hz) ?_
    rw [← hcut]
    exact SqT.of upd_same
theorem catA {K : PySem.W.Frag} {H : Hp} {x y : Addr} {A B : List Str} {Q : VK} (hx : SqT K H x (A.map V.str)) (hy : SqT K H y (B.map V.str)) (few : A.length + B.length ≤ 900) (h : ∀ H' p, L2.Same H H' → SqT K H' p ((A ++ B).map V.str) → Q (.ref p) H') : rCatA K (.ref x) (.ref y) H Q := by
  refine ⟨x, y, _, _, rfl, rfl, hx, hy, by rw [List.length_map, List.length_map, sizeLine_eq]; omega, fun h0 => ?_, fun _ h0 => ?_, fun _ _ p hp => ?_⟩
  · rw [List.map_eq_nil_iff.mp h0] at h
    exact h H y sm_refl hy
  · rw [List.map_eq_nil_iff.mp h0, List.append_nil] at h
    exact h H x sm_refl hx
  · refine h _ p (sm_new sm_refl hp) ?_
    rw [List.map_append]
    exact SqT.of upd_same
theorem ext_lo {g : List Str} : ∀ (es : List Ev) (x : Int), ∀ y ∈ extL g x es, x - es.length ≤ y
  | [], x, y, hy => by
    rw [List.mem_singleton.mp (show y ∈ [x] from hy)]
    show x - ((0 : Nat) : Int) ≤ x
    omega
  | .out :: r, x, y, hy => by
    rw [List.length_cons]
    rcases List.mem_cons.mp (show y ∈ x :: extL g (x - 1) r from hy) with e | e
    · omega
    · have := ext_lo r (x - 1) y e
      omega
  | .inn c :: r, x, y, hy => by
    rw [List.length_cons]
    rcases List.mem_cons.mp (show y ∈ x :: extL g (if c ∈ g then x else x + 1) r from hy) with e | e
    · omega
    · have := ext_lo r _ y e
      split at this <;> omega
theorem ext_hd (g : List Str) (x : Int) (es : List Ev) : x ∈ extL g x es := by
  cases es with
  | nil => exact List.mem_cons_self
  | cons e r => cases e <;> exact List.mem_cons_self
theorem ext_len (g : List Str) : ∀ (es : List Ev) (x : Int), (extL g x es).length = es.length + 1
  | [], _ => rfl
  | .out :: r, x => congrArg (· + 1) (ext_len g r (x - 1))
  | .inn c :: r, x => congrArg (· + 1) (ext_len g r _)
def CmV (K : PySem.W.Frag) (H' : Hp) (v : V) : Option (List Str) → Prop
  | none => v = .non
  | some T => ∃ p, v = .ref p ∧ SqT K H' p (T.map V.str)
section
variable {P : Program} {w : World} {K : PySem.W.Frag} {mg : Str → Option Value} {base : Heap} {Ps : List Addr}
def spComplete (K : PySem.W.Frag) (Ps : List Addr) : Sp := fun vs H Q _ => ∃ (a l f : Addr) (xs : List Str) (as : List Addr) (es : List Ev) (S : List Str), vs = [.ref a, .ref l, .ref f] ∧ LaneAt K H a xs ∧ laneB xs = true ∧ LogAt K H l as es ∧ logB xs xs.length es = true ∧ LaneAt K H f S ∧ laneB S = true ∧ (∀ c ∈ S, c ∈ xs ++ arrs es) ∧ Tabs Ps H ∧
  ∀ H' v, Kp Ps H H' → CmV K H' v (cmplF xs es S) → Q v H'
theorem ok_complete {f0 fR fZ fX fL fA fB fC : Addr} {fd fdR fdZ fdX fdL fdA fdB fdC : FuncData} (F : Fun K "complete" "complete" sComplete f0 fd) (B : Bi mg) (B2 : Bl mg)
    (GR : FnOk P w K mg base CX0 9 fR fdR ["start", "log", "cars"] (spReqCars K Ps)) (mgR : mg "require_cars" = some (.ref fR)) (kR : PySem.W.keepIn K (.ref fR) = true) (bR : Binds K fdR ["start", "log", "cars"] [])
    (GZ : FnOk P w K mg base CX0 8 fZ fdZ ["start", "log"] (spSizes K Ps)) (mgZ : mg "sizes" = some (.ref fZ)) (kZ : PySem.W.keepIn K (.ref fZ) = true) (bZ : Binds K fdZ ["start", "log"] [])
    (GX : FnOk P w K mg base CX0 9 fX fdX ["start", "log", "cars"] (spExtras K Ps)) (mgX : mg "extras" = some (.ref fX)) (kX : PySem.W.keepIn K (.ref fX) = true) (bX : Binds K fdX ["start", "log", "cars"] [])
    (GL : FnOk P w K mg base CX0 1 fL fdL ["counts"] (spLeast K)) (mgL : mg "least_from_here" = some (.ref fL)) (kL : PySem.W.keepIn K (.ref fL) = true) (bL : Binds K fdL ["counts"] [])
    (GA : FnOk P w K mg base CX0 1 fA fdA ["log", "given", "room"] (spListArr K Ps)) (mgA : mg "list_arrivals" = some (.ref fA)) (kA : PySem.W.keepIn K (.ref fA) = true) (bA : Binds K fdA ["log", "given", "room"] [])
    (GB : FnOk P w K mg base CX0 2 fB fdB ["start", "cars", "longest"] (spListBlk K Ps)) (mgB : mg "list_blocks" = some (.ref fB)) (kB : PySem.W.keepIn K (.ref fB) = true) (bB : Binds K fdB ["start", "cars", "longest"] [])
    (GC : FnOk P w K mg base CX0 1 fC fdC ["arrivals", "length", "needed"] (spChoose K)) (mgC : mg "choose_arrivals" = some (.ref fC)) (kC : PySem.W.keepIn K (.ref fC) = true) (bC : Binds K fdC ["arrivals", "length", "needed"] []) :
    FnOk P w K mg base CX0 10 f0 fd ["start", "log", "cars"] (spComplete K Ps) := by
  refine F.ok scComplete (fun vs H Q E h => ?_) (fun cdv A outer s H vs Q E hr h => ?_)
  · obtain ⟨a, l, f, xs, as, es, S, rfl, _⟩ := h
    rfl
  · obtain ⟨a, l, f, xs, as, es, S, rfl, hL, hB, hE, hB2, hF, hFB, hk, hT, q⟩ := h
    have hr1 := hr.mono (show 1 ≤ 9 by decide)
    have hr2 := hr.mono (show 2 ≤ 9 by decide)
    have hr8 := hr.mono (show 8 ≤ 9 by decide)
    refine ⟨_, pss_cons (ps_expr (pe_call GR hr (by rfl) mgR kR bR .nil pass0 (pa_cons (pv 0) (pa_cons (pv 1) (pa_cons (pv 2) pa_nil)))))
      (pss_cons (ps_set (i := 3) scComplete.nd rfl (.inl rfl) (pe_ix ix_list (pe_call GZ hr8 (by rfl) mgZ kZ bZ .nil pass0 (pa_cons (pv 0) (pa_cons (pv 1) pa_nil))) (pe_un un_neg pe_int) (fun _ _ => rfl)))
      (pss_cons (ps_set (i := 4) scComplete.nd rfl (.inl rfl) (pe_callTy call_tuple_ofD (by rfl) B.tup (by decide +kernel) (pa_cons (pe_lc (own := [("car", 12)]) (g := gName 12) (tt := tTest (tOp (rIn K true) (tVar 12) (tVar 0))) (te := tVar 12) (by rfl) scComplete.nd (pi_tup (pv 2)) (blkOk_by (own := [("car", 12)]) (N := ["start", "log", "cars", "final", "given", "room", "arrivals", "low", "high", "length", "needed", "chosen", "car"]) (sc := defScope sComplete) (by decide +kernel)) (fun _ _ _ _ _ => pg_name (i := 12) scComplete.nd rfl (Or.inl rfl)) (fun _ _ _ _ _ => pts_one (pt_cmpR op_notIn_seq (pv 12) (pv 0) (by rfl))) (fun _ _ _ _ _ => pv 12)) pa_nil)))
      (pss_cons (ps_set (i := 5) scComplete.nd rfl (.inl rfl) (pe_call GL hr1 (by rfl) mgL kL bL .nil pass0 (pa_cons (pe_call GX hr (by rfl) mgX kX bX .nil pass0 (pa_cons (pv 0) (pa_cons (pv 1) (pa_cons (pv 4) pa_nil)))) pa_nil)))
      (pss_cons (ps_set (i := 6) scComplete.nd rfl (.inl rfl) (pe_call GA hr1 (by rfl) mgA kA bA .nil pass0 (pa_cons (pv 1) (pa_cons (pv 4) (pa_cons (pv 5) pa_nil)))))
      (pss_cons (ps_for PassesOwn.never rfl (pi_list (pe_call GB hr2 (by rfl) mgB kB bB .nil pass0 (pa_cons (pv 0) (pa_cons (pv 2) (pa_cons (pe_ix ix_list (pv 5) pe_int (fun _ _ => rfl)) pa_nil))))) (pg_tup rfl (pgs_cons (pg_name (i := 7) scComplete.nd rfl (.inl rfl)) (pgs_cons (pg_name (i := 8) scComplete.nd rfl (.inl rfl)) pgs_nil)))
        (pss_cons (ps_set (i := 9) scComplete.nd rfl (.inl rfl) (pe_op op_sub (pv 8) (pv 7)))
        (pss_cons (ps_set (i := 10) scComplete.nd rfl (.inl rfl) (pe_callB (call_min2 rfl) (by rfl) B2.min (by decide +kernel) (pa_cons (pv 7) (pa_cons (pe_op op_sub (pe_callB call_len_seq (by rfl) B.len PySem.boot_len (pa_cons (pv 0) pa_nil)) (pv 8)) pa_nil))))
        (pss_cons (ps_set (i := 11) scComplete.nd rfl (.inl rfl) (pe_call GC hr1 (by rfl) mgC kC bC .nil pass0 (pa_cons (pv 6) (pa_cons (pv 9) (pa_cons (pv 10) pa_nil)))))
        (pss_one (ps_if (PW.pt (pw_and (pt_cmpR op_notN (pv 11) pe_non (nomark _)) (pw_and1 (pt_cmpR op_eq (pe_op op_add (pv 9) (pe_callB call_len_seq (by rfl) B.len PySem.boot_len (pa_cons (pv 11) pa_nil))) (pv 3) (nomark _)))))
          (pss_one (ps_ret (pe_op op_catA (pe_slice sl_tupA (pv 0) (po_some (pv 7)) (po_some (pv 8))) (pe_callTy call_tuple_ofD (by rfl) B.tup (by decide +kernel) (pa_cons (pv 11) pa_nil))))) pss_nil))))))
      (pss_one (ps_ret pe_non))))))), ?_⟩
    have few := hE.few
    have fewx := hL.few
    have fewS := hF.few
    -- what is asked, the size at the end
    refine ⟨.ref a, rfl, .ref l, rfl, .ref f, rfl, a, l, f, xs, as, es, S, rfl, hL, hB, hE, hB2, hF, hFB, hk, hT, fun H1 k1 => ?_⟩
    refine ⟨.ref a, rfl, .ref l, rfl, a, l, xs, as, es, rfl, hL.kp k1 hT, hB, hE.kp k1 hT, hB2, k1.tab, fun H2 z k2' hz0 hz => ?_⟩
    have k2 := k1.trans k2'
    obtain ⟨r0, hr0⟩ := szs_last xs.length es
    refine ⟨1, rfl, z, _, -1, _, rfl, rfl, SqL.of hz, by rw [hr0, List.map_append]; exact atI_last _ _, ?_⟩
    have hF2 := hF.kp k2 hT
    have hL2 := hL.kp k2 hT
    -- given
    refine ⟨.ref f, rfl, f, rfl, ⟨_, hF2.at_⟩, fun D hD => ?_⟩
    refine lc_tup (K := K) (a := f) (xs := S.map V.str) (fun i H' => L2.Same H2 H' ∧ i ≤ S.length ∧ H' D = some (.lst (((S.take i).filter fun c => !decide (c ∈ xs)).map V.str))) ?_ ?_ ?_ ?_
    · exact ⟨sm_new sm_refl hD, Nat.zero_le _, upd_same⟩
    · rintro i H' _ ⟨sm, _⟩
      exact sqT_same hF2.at_ sm
    · rintro i x H' hi ⟨sm, hie, hD'⟩
      have hlt : i < S.length := by
        have h1 := (List.getElem?_eq_some_iff.mp hi).1
        rw [List.length_map] at h1
        exact h1
      have hx : x = .str S[i] := by
        rw [List.getElem?_map, List.getElem?_eq_getElem hlt] at hi
        exact (Option.some.inj hi).symm
      subst hx
      have hle : ((S.take i).filter fun c => !decide (c ∈ xs)).length ≤ 400 := by
        have h1 := List.length_filter_le (fun c => !decide (c ∈ xs)) (S.take i)
        rw [List.length_take] at h1
        omega
      refine ⟨rfl, _, rfl, .ref a, rfl, a, _, rfl, .inr (sqT_same hL2.at_ sm), rfl, flat_strs xs, _, rfl, ?_⟩
      show if (!inV (.str S[i]) (xs.map V.str)) = true then _ else _
      rw [inV_strs]
      have hst : S.take (i + 1) = S.take i ++ [S[i]] := by
        rw [List.take_add_one, List.getElem?_eq_getElem hlt]
        rfl
      refine ite2 (fun hz => ?_) (fun hz => ?_)
      · refine ⟨_, rfl, _, hD', by rw [List.length_map, sizeLine_eq]; omega, sm_upd sm hD, hlt, ?_⟩
        rw [upd_same, hst, List.filter_append, List.map_append, List.filter_cons, if_pos hz]
        rfl
      · refine ⟨sm, hlt, ?_⟩
        rw [hD', hst, List.filter_append, List.filter_cons, if_neg hz, List.filter_nil, List.append_nil]
    rintro H3 ⟨sm3, _, hD3⟩
    rw [List.length_map, List.take_length] at hD3
    have hD3 : H3 D = some (.lst ((gvn xs S).map V.str)) := hD3
    refine ⟨D, _, rfl, SqL.of hD3, fun g ob hob hg => ?_⟩
    have sm4 : L2.Same H2 (upd H3 g (.frz ob (.tup ((gvn xs S).map V.str)))) := sm_new sm3 hg
    have hg4 : TupD (upd H3 g (.frz ob (.tup ((gvn xs S).map V.str)))) g ((gvn xs S).map V.str) := TupD.of hob
    generalize upd H3 g (.frz ob (.tup ((gvn xs S).map V.str))) = H4 at sm4 hg4 ⊢
    have k4 : Kp Ps H H4 := k2.trans ⟨fun b o e _ => sm4 b o e, fun p hp => tabs_same k2.tab sm4 p hp⟩
    -- room
    refine ⟨.ref a, rfl, .ref l, rfl, .ref g, rfl, a, l, g, xs, as, es, gvn xs S, rfl, hL.kp k4 hT, hB, hE.kp k4 hT, hB2, hg4.sq, k4.tab, fun H5 x k5' hx0 hx => ?_⟩
    have k5 := k4.trans k5'
    have hxl : (ext0 xs (gvn xs S) es).length = es.length + 1 := by rw [ext0_gvn, ext_len]
    have hxne : ext0 xs (gvn xs S) es ≠ [] := fun z => by
      rw [z] at hxl
      cases hxl
    refine ⟨x, ext0 xs (gvn xs S) es, rfl, SqL.of hx, by omega, hxne, fun H6 rm sm6 hrm0 hrm => ?_⟩
    have k6 : Kp Ps H H6 := k5.trans ⟨fun b o e _ => sm6 b o e, fun p hp => tabs_same k5.tab sm6 p hp⟩
    have hg6 : SqT K H6 g ((gvn xs S).map V.str) := sqT_same (k5'.seqT k4.tab hg4.sq) sm6
    -- arrivals
    have hR : ∀ i, i ≤ es.length → (leastF (ext0 xs (gvn xs S) es)).getD (0 + i) 0 = mn ((extL (gvn xs S) xs.length es).drop i) := fun i _ => by
      rw [Nat.zero_add, least_get, ext0_gvn]
    refine ⟨.ref l, rfl, .ref g, rfl, .ref rm, rfl, l, g, rm, as, es, gvn xs S, leastF (ext0 xs (gvn xs S) es), rfl, hE.kp k6 hT, hg6, SqL.of hrm, by rw [least_len, hxl], k6.tab, fun H7 u ts k7' hu0 hu hst => ?_⟩
    have k7 := k6.trans k7'
    have hrm7 := k7'.lst k6.tab hrm
    -- the blocks
    have hmn0 : (leastF (ext0 xs (gvn xs S) es)).getD 0 0 = mn (ext0 xs (gvn xs S) es) := by
      have := least_get (ext0 xs (gvn xs S) es) 0
      rw [List.drop_zero] at this
      exact this
    have hmlo : -1000 ≤ mn (ext0 xs (gvn xs S) es) := by
      rw [ext0_gvn]
      exact (le_mn (ext_ne _ _ _)).mpr fun y hy => by
        have := ext_lo es _ y hy
        omega
    have hmhi : mn (ext0 xs (gvn xs S) es) ≤ 1000 := by
      rw [ext0_gvn]
      have := (le_mn (k := mn (extL (gvn xs S) xs.length es)) (ext_ne (gvn xs S) xs.length es)).mp (Int.le_refl _) _ (ext_hd _ _ _)
      omega
    have hrl : 0 < (leastF (ext0 xs (gvn xs S) es)).length := by rw [least_len, hxl]; omega
    have hat : ((leastF (ext0 xs (gvn xs S) es)).map V.int)[0]? = some (.int (mn (ext0 xs (gvn xs S) es))) := by
      rw [← hmn0, List.getElem?_map, List.getD_eq_getElem?_getD, List.getElem?_eq_getElem hrl]
      rfl
    refine ⟨.ref a, rfl, .ref f, rfl, .ref rm, rfl, rm, _, 0, _, rfl, rfl, SqL.of hrm7, atI_nat (j := 0) hat, a, f, xs, S, mn (ext0 xs (gvn xs S) es), rfl, (hL.kp k7 hT).at_, (hF.kp k7 hT).at_, fewx, hmlo, hmhi, k7.tab, fun H8 bp bs k8' hb0 hb8 hbt => ?_⟩
    have k8 := k7.trans k8'
    have hu8 := k8'.lst k7.tab hu
    have hst8 := hst.kp k8' k7.tab
    refine ⟨bp, rfl, ⟨_, SqL.of hb8⟩, for_list (K := K) (a := bp) (xs := bs.map V.ref) (fun i σ H' => ∃ (v7 v8 v9 v10 v11 v12 : Option V), σ = [some (.ref a), some (.ref l), some (.ref f), some (.int (endI xs.length es)), some (.ref g), some (.ref rm), some (.ref u), v7, v8, v9, v10, v11, v12] ∧
      Kp Ps H8 H' ∧ cmplF xs es S = ((blocksF xs S (mn (ext0 xs (gvn xs S) es))).drop i).findSome? (cmplOne xs es S)) ?_ ?_ ?_ ?_⟩
    · exact ⟨_, _, _, _, _, _, rfl, Kp.refl k8.tab, rfl⟩
    · rintro i σ H' _ ⟨_, _, _, _, _, _, _, kp, _⟩
      exact SqL.of (kp.lst k8.tab hb8)
    · rintro i y σ H' hi ⟨v7, v8, v9, v10, v11, v12, rfl, kp, heq⟩
      have hbl := Paired.length hbt
      have hlt : i < (blocksF xs S (mn (ext0 xs (gvn xs S) es))).length := by
        have h1 := (List.getElem?_eq_some_iff.mp hi).1
        rw [List.length_map] at h1
        omega
      have hq : (blocksF xs S (mn (ext0 xs (gvn xs S) es)))[i]? = some (blocksF xs S (mn (ext0 xs (gvn xs S) es)))[i] := List.getElem?_eq_getElem hlt
      obtain ⟨t, ht, htt⟩ := pair_at (hbt.kp kp k8.tab) i _ hq
      have hyt : y = .ref t := by
        rw [List.getElem?_map, ht] at hi
        exact (Option.some.inj hi).symm
      subst hyt
      rw [List.drop_eq_getElem_cons hlt, List.findSome?_cons] at heq
      have hqm : (blocksF xs S (mn (ext0 xs (gvn xs S) es)))[i] ∈ blocksF xs S (mn (ext0 xs (gvn xs S) es)) := List.getElem_mem hlt
      generalize (blocksF xs S (mn (ext0 xs (gvn xs S) es)))[i] = qq at htt heq hqm
      obtain ⟨low, high⟩ := qq
      have hqb : low ≤ xs.length ∧ high ≤ xs.length := by
        rcases mem_blocks.mp hqm with ⟨_, h2, _, h4⟩ | ⟨h1, _⟩
        · have h2 : seB (brg xs S).2 low ≤ high := h2
          have h4 : high ≤ xs.length := h4
          unfold seB at h2
          omega
        · obtain ⟨e1, e2⟩ := Prod.mk.inj h1
          omega
      have kk := k8.trans kp
      refine ⟨t, _, rfl, SqT.of htt, rfl, _, _, rfl, _, _, rfl, rfl, ?_⟩
      refine ⟨_, rfl, _, rfl, _, _, rfl, rfl, ?_⟩
      refine ⟨_, rfl, .ref a, rfl, a, _, rfl, .inr (hL.kp kk hT).at_, _, rfl, _, _, rfl, rfl, _, _, rfl, ?_⟩
      have hneed : (if ((xs.map V.str).length : Int) - ((high : Nat) : Int) < ((low : Nat) : Int) then ((xs.map V.str).length : Int) - ((high : Nat) : Int) else ((low : Nat) : Int)) = ((min low (xs.length - high) : Nat) : Int) := by
        rw [List.length_map]
        split <;> omega
      rw [hneed]
      refine ⟨.ref u, rfl, _, rfl, _, rfl, u, ts, _, ((high : Nat) : Int) - ((low : Nat) : Int), min low (xs.length - high), rfl, SqL.of (kp.lst k8.tab hu8), hst8.kp kp k8.tab, Nat.le_trans (arrR_len _ _ es 0 1) few, fun H9 v sm9 hv => ?_⟩
      rw [chz_gr es 0 0 xs.length 0 hR] at hv
      have kp9 : Kp Ps H8 H9 := kp.trans ⟨fun b o e _ => sm9 b o e, fun p hp => tabs_same kp.tab sm9 p hp⟩
      have kk9 := k8.trans kp9
      have one : cmplOne xs es S (low, high) = match gr (gvn xs S) (((high : Nat) : Int) - ((low : Nat) : Int)) (min low (xs.length - high)) 0 xs.length 0 es with | none => none | some A => if (high : Int) - low + A.length = endI xs.length es then some (cutN xs (low, high) ++ A) else none := rfl
      cases hgr : gr (gvn xs S) (((high : Nat) : Int) - ((low : Nat) : Int)) (min low (xs.length - high)) 0 xs.length 0 es with
      | none =>
        rw [hgr] at hv one
        have hv : v = .non := hv
        subst hv
        rw [one] at heq
        refine ⟨_, rfl, rfl, _, rfl, iteF (iteF ?_)⟩
        exact ⟨_, _, _, _, _, _, rfl, kp9, heq⟩
      | some Ac =>
        rw [hgr] at hv one
        obtain ⟨p, rfl, hp0, hp⟩ := hv
        have hAl : Ac.length ≤ 400 := by
          have := (gr_sub es 0 xs.length 0 Ac hgr).1.length_le
          have := arrs_len es
          omega
        refine ⟨_, rfl, rfl, _, rfl, iteT ⟨_, rfl, .ref p, rfl, p, _, rfl, .inl (SqL.of hp), _, _, rfl, rfl, _, rfl, rfl, _, rfl, ite2 (fun hz => ?_) (fun hz => ?_)⟩⟩
        · have hz : ((high : Nat) : Int) - ((low : Nat) : Int) + ((Ac.map V.str).length : Nat) = endI xs.length es := by simpa using hz
          rw [List.length_map] at hz
          have one : cmplOne xs es S (low, high) = if (high : Int) - low + Ac.length = endI xs.length es then some (cutN xs (low, high) ++ Ac) else none := one
          rw [if_pos hz] at one
          rw [one] at heq
          refine ⟨.ref a, rfl, _, rfl, _, rfl, _, rfl, _, rfl, slA (p := (low, high)) (hL.kp kk9 hT).at_ hqb.1 hqb.2 fun HA zz smA hzz => ⟨.ref p, rfl, p, _, rfl, SqL.of (smA _ _ hp), fun tt obt hobt htt2 => ?_⟩⟩
          have smB : L2.Same H9 (upd HA tt (.frz obt (.tup (Ac.map V.str)))) := sm_new smA htt2
          have hcl : (cutN xs (low, high)).length ≤ 400 := by
            have := cut_len (xs := xs) (l := low) hqb.2
            omega
          refine catA (sqT_same hzz (sm_new sm_refl htt2)) (TupD.of hobt).sq (by omega) fun HC pc smC hpc => ?_
          have kC : Kp Ps H HC := kk9.trans ⟨fun b o e _ => smC b o (smB b o e), fun p hp => tabs_same kk9.tab (sm_trans smB smC) p hp⟩
          exact q HC (.ref pc) kC (by rw [heq]; exact ⟨pc, rfl, hpc⟩)
        · have hz : ¬ ((high : Nat) : Int) - ((low : Nat) : Int) + ((Ac.map V.str).length : Nat) = endI xs.length es := by simpa using hz
          rw [List.length_map] at hz
          have one : cmplOne xs es S (low, high) = if (high : Int) - low + Ac.length = endI xs.length es then some (cutN xs (low, high) ++ Ac) else none := one
          rw [if_neg hz] at one
          rw [one] at heq
          exact ⟨_, _, _, _, _, _, rfl, kp9, heq⟩
    · rintro σ H' ⟨v7, v8, v9, v10, v11, v12, rfl, kp, heq⟩
      have hbl := Paired.length hbt
      rw [List.length_map, hbl, List.drop_length] at heq
      have heq : cmplF xs es S = none := heq
      exact q H' .non (k8.trans kp) (by rw [heq]; rfl)
end
end Ln


set_option Elab.async false
set_option linter.all false
set_option maxRecDepth 100000
set_option maxHeartbeats 4000000
namespace Ln
open PySem PySem.Spec PyProof.Rows L2 GxR
section
variable {P : Program} {w : World} {K : PySem.W.Frag} {mg : Str → Option Value} {base : Heap} {Ps : List Addr}
theorem ok_completeX {f fR CL CG CC CU : Addr} {fd fdR : FuncData} (F : Fun K "complete" "complete" sComplete f fd)
    (GR : FnOk P w K mg base (L2.CX P w) 9 fR fdR ["start", "log", "cars"] (spCarsX K Ps CL CG CC CU)) (mgR : mg "require_cars" = some (.ref fR)) (kR : PySem.W.keepIn K (.ref fR) = true) (bR : Binds K fdR ["start", "log", "cars"] []) : FnOk P w K mg base (L2.CX P w) 10 f fd ["start", "log", "cars"] (spCarsX K Ps CL CG CC CU) := by
  refine F.okX scComplete (fun vs H Q E h => ?_) (fun cdv A outer s H vs Q E hr h => ?_)
  · obtain ⟨C, ⟨v, u, y, d, e, g, rfl, _⟩, _⟩ := h
    rfl
  · obtain ⟨C, bd, q⟩ := h
    obtain ⟨v, u, y, d, e, g, rfl, _⟩ := id bd
    refine ⟨_, pss_cons (ps_expr (pe_call GR hr (by rfl) mgR kR bR .nil (passes_call (takes_of rfl rfl rfl rfl) fun _ _ _ _ h => h) (pa_cons (pv 0) (pa_cons (pv 1) (pa_cons (pv 2) pa_nil))))) pss_dead, ?_⟩
    exact ⟨v, rfl, u, rfl, y, rfl, C, bd, q⟩
end
end Ln


set_option Elab.async false
set_option linter.all false
set_option maxRecDepth 100000
set_option maxHeartbeats 4000000
namespace Ln
open PySem PySem.Spec PyProof.Rows L2 GxR
theorem scAsked : FnScope ["door", "front", "diary", "some", "named", "caught", "asked", "e"] ["door", "front", "diary", "some", "named"] (defScope sAsked) := ⟨rfl, rfl, rfl, by decide +kernel, rfl, by decide +kernel, by decide +kernel⟩
def rot3 {α : Type} : List α → List α → List α
  | [], [x, y, z] => [y, z, x]
  | _, _ => []
theorem kp_sm {Ps : List Addr} {H H' : Hp} (hT : Tabs Ps H) (k : L2.Same H H') : Kp Ps H H' := ⟨fun b o e _ => k b o e, tabs_same hT k⟩
section
variable {P : Program} {w : World} {K : PySem.W.Frag} {mg : Str → Option Value} {base : Heap} {Ps : List Addr}
/-- the arguments are valid -/
def GoodA (K : PySem.W.Frag) (Ps : List Addr) (vs : List V) (H : Hp) : Prop := ∃ (a l f : Addr) (xs : List Str) (as : List Addr) (es : List Ev) (S : List Str), vs = [.ref a, .ref l, .ref f] ∧ LaneAt K H a xs ∧ laneB xs = true ∧ LogAt K H l as es ∧ logB xs xs.length es = true ∧ LaneAt K H f S ∧ laneB S = true ∧ (∀ c ∈ S, c ∈ xs ++ arrs es) ∧ Tabs Ps H
theorem GoodA.kp {K : PySem.W.Frag} {Ps : List Addr} {vs : List V} {H H1 : Hp} (h : GoodA K Ps vs H) (k : Kp Ps H H1) : GoodA K Ps vs H1 := by
  obtain ⟨a, l, f, xs, as, es, S, e, h1, h2, h3, h4, h5, h6, h7, h8⟩ := h
  exact ⟨a, l, f, xs, as, es, S, e, h1.kp k h8, h2, h3.kp k h8, h4, h5.kp k h8, h6, h7, k.tab⟩
def spEither (K : PySem.W.Frag) (Ps : List Addr) (CL CG CC CU : Addr) : Sp := fun vs H Q E => (GoodA K Ps vs H ∧ ∀ H' x, Kp Ps H H' → Q x H') ∨ ∃ C, BadC K Ps CL CG CC CU vs H C ∧ ∀ H', Kp Ps H H' → E (.ref C) none H'
theorem either_can {k : Nat} {f CL CG CC CU : Addr} {fd : FuncData} (h1 : FnOk P w K mg base CX0 k f fd ["start", "log", "cars"] (spCanStay K Ps)) (h2 : FnOk P w K mg base (L2.CX P w) k f fd ["start", "log", "cars"] (spCarsX K Ps CL CG CC CU)) : FnOk P w K mg base (L2.CX P w) k f fd ["start", "log", "cars"] (spEither K Ps CL CG CC CU) :=
  (fn_or (FnOk_lift h1) h2).imp fun vs H Q E h => by
    rcases h with ⟨⟨a, l, f, xs, as, es, S, e, h1, h2, h3, h4, h5, h6, h7, h8⟩, q⟩ | h
    · exact .inl ⟨a, l, f, xs, as, es, S, e, h1, h2, h3, h4, h5, h6, h7, h8, fun H' k => q H' _ k⟩
    · exact .inr h
theorem either_whyS {k : Nat} {f CL CG CC CU : Addr} {fd : FuncData} (h1 : FnOk P w K mg base CX0 k f fd ["start", "log", "cars"] (spWhyNS K Ps)) (h2 : FnOk P w K mg base (L2.CX P w) k f fd ["start", "log", "cars"] (spCarsX K Ps CL CG CC CU)) : FnOk P w K mg base (L2.CX P w) k f fd ["start", "log", "cars"] (spEither K Ps CL CG CC CU) :=
  (fn_or (FnOk_lift h1) h2).imp fun vs H Q E h => by
    rcases h with ⟨⟨a, l, f, xs, as, es, S, e, h1, h2, h3, h4, h5, h6, h7, h8⟩, q⟩ | h
    · exact .inl ⟨a, l, f, xs, as, es, S, e, h1, h2, h3, h4, h5, h6, h7, h8, fun H' v k _ => q H' v k⟩
    · exact .inr h
theorem either_cm {k : Nat} {f CL CG CC CU : Addr} {fd : FuncData} (h1 : FnOk P w K mg base CX0 k f fd ["start", "log", "cars"] (spComplete K Ps)) (h2 : FnOk P w K mg base (L2.CX P w) k f fd ["start", "log", "cars"] (spCarsX K Ps CL CG CC CU)) : FnOk P w K mg base (L2.CX P w) k f fd ["start", "log", "cars"] (spEither K Ps CL CG CC CU) :=
  (fn_or (FnOk_lift h1) h2).imp fun vs H Q E h => by
    rcases h with ⟨⟨a, l, f, xs, as, es, S, e, h1, h2, h3, h4, h5, h6, h7, h8⟩, q⟩ | h
    · exact .inl ⟨a, l, f, xs, as, es, S, e, h1, h2, h3, h4, h5, h6, h7, h8, fun H' v k _ => q H' v k⟩
    · exact .inr h
def AskQ (K : PySem.W.Frag) (mg : Str → Option Value) (Ps : List Addr) (CL CG CC CU CB : Addr) (vs : List V) (H : Hp) (Q : VK) : Prop :=
  (GoodA K Ps vs H ∧ ∀ H', Kp Ps H H' → Q (.str "none") H') ∨ ∃ (C : Addr) (x : Str), BadC K Ps CL CG CC CU vs H C ∧ x ∈ kindNs ∧ Er K mg CB x C ∧ ∀ H', Kp Ps H H' → Q (.str (kindW x)) H'
def spAsked (K : PySem.W.Frag) (mg : Str → Option Value) (Ps : List Addr) (CL CG CC CU CB : Addr) : Sp := fun vs H Q _ => ∃ (door : Nat) (v u y : V) (named : Bool), vs = [.int (door : Nat), v, u, y, .bl named] ∧ door < 3 ∧ Tabs Ps H ∧ AskQ K mg Ps CL CG CC CU CB [v, u, y] H Q
theorem ok_asked {f fS fY fM fK CL CG CC CU CB : Addr} {fd fdS fdY fdM fdK : FuncData} (F : Fun K "_law_asked" "_law_asked" sAsked f fd) (gB : mg "LaneError" = some (.ref CB))
    (GS : FnOk P w K mg base (L2.CX P w) 11 fS fdS ["start", "log", "cars"] (spEither K Ps CL CG CC CU)) (mgS : mg "can_stay" = some (.ref fS)) (kS : PySem.W.keepIn K (.ref fS) = true) (bS : Binds K fdS ["start", "log", "cars"] []) (kbS : KBinds K fdS ["start", "log", "cars"] ["cars", "start", "log"] rot3 rot3)
    (GY : FnOk P w K mg base (L2.CX P w) 11 fY fdY ["start", "log", "cars"] (spEither K Ps CL CG CC CU)) (mgY : mg "why_cannot_stay" = some (.ref fY)) (kY : PySem.W.keepIn K (.ref fY) = true) (bY : Binds K fdY ["start", "log", "cars"] []) (kbY : KBinds K fdY ["start", "log", "cars"] ["cars", "start", "log"] rot3 rot3)
    (GM : FnOk P w K mg base (L2.CX P w) 11 fM fdM ["start", "log", "cars"] (spEither K Ps CL CG CC CU)) (mgM : mg "complete" = some (.ref fM)) (kM : PySem.W.keepIn K (.ref fM) = true) (bM : Binds K fdM ["start", "log", "cars"] []) (kbM : KBinds K fdM ["start", "log", "cars"] ["cars", "start", "log"] rot3 rot3)
    (GK : FnOk P w K mg base CX0 1 fK fdK ["e"] (spKind K mg CB)) (mgK : mg "_law_kind" = some (.ref fK)) (kK : PySem.W.keepIn K (.ref fK) = true) (bK : Binds K fdK ["e"] []) :
    FnOk P w K mg base CX0 12 f fd ["door", "front", "diary", "some", "named"] (spAsked K mg Ps CL CG CC CU CB) := by
  refine F.ok scAsked (fun vs H Q E h => ?_) (fun cdv A outer s H vs Q E hr h => ?_)
  · obtain ⟨door, v, u, y, named, rfl, _⟩ := h
    rfl
  · obtain ⟨door, v, u, y, named, rfl, hdoor, hT, h⟩ := h
    obtain ⟨fX, fdX, GX, kX, bX, kbX, hX⟩ : ∃ (fX : Addr) (fdX : FuncData), FnOk P w K mg base (L2.CX P w) 11 fX fdX ["start", "log", "cars"] (spEither K Ps CL CG CC CU) ∧ PySem.W.keepIn K (.ref fX) = true ∧ Binds K fdX ["start", "log", "cars"] [] ∧ KBinds K fdX ["start", "log", "cars"] ["cars", "start", "log"] rot3 rot3 ∧ [V.ref fS, V.ref fY, V.ref fM][door]? = some (.ref fX) := by
      match door, hdoor with
      | 0, _ => exact ⟨fS, fdS, GS, kS, bS, kbS, rfl⟩
      | 1, _ => exact ⟨fY, fdY, GY, kY, bY, kbY, rfl⟩
      | 2, _ => exact ⟨fM, fdM, GM, kM, bM, kbM, rfl⟩
    refine ⟨_, pss_cons (ps_set (i := 5) scAsked.nd rfl (.inl rfl) pe_non)
      (pss_cons (ps_set (i := 6) scAsked.nd rfl (.inl rfl) (pe_ix ix_list (pe_lst (pa_cons (pe_glob (v := .ref fS) rfl mgS rfl) (pa_cons (pe_glob (v := .ref fY) rfl mgY rfl) (pa_cons (pe_glob (v := .ref fM) rfl mgM rfl) pa_nil)))) (pv 0) (fun _ _ => rfl)))
      (pss_cons (ps_try_asK (i := 7) (c := .ref CB) rfl rfl scAsked.nd rfl rfl rfl ⟨rfl, by decide, .inl gB⟩ takes0
        (fun W pn xe tk _ => pss_one (ps_if (pt_val (pv 4)) (pss_one (ps_expr (pe_callLKS0 (i := 6) GX hr rfl (.inl rfl) kX kbX (fun σ => passAt tk σ) (pk_cons (pv 3) (pk_cons (pv 1) (pk_cons (pv 2) pk_nil))))))
          (pss_one (ps_expr (pe_callLS (i := 6) GX hr rfl (.inl rfl) kX bX (fun σ => passAt tk σ) (pa_cons (pv 1) (pa_cons (pv 2) (pa_cons (pv 3) pa_nil))))))))
        (fun a oe cls d pn _ _ => pss_one (ps_set (i := 5) scAsked.nd rfl (.inl rfl) (pv 7))))
      (pss_one (ps_ret (pe_ifExp (pt_cmpR op_isN (pv 5) pe_non (nomark _)) pe_str (pe_call GK (hr.mono (by decide)) (by rfl) mgK kK bK .nil pass0 (pa_cons (pv 5) pa_nil))))))), ?_⟩
    refine ⟨by show 3 ≤ sizeLine; decide, fun t ht => ⟨_, rfl, t, _, (door : Nat), .ref fX, rfl, rfl, SqL.of upd_same, atI_nat hX, ?_⟩⟩
    have k1 : L2.Same H (upd H t (.lst [.ref fS, .ref fY, .ref fM])) := sm_new sm_refl ht
    have kp1 := kp_sm hT k1
    generalize upd H t (.lst [.ref fS, .ref fY, .ref fM]) = H1 at k1 kp1 ⊢
    rcases h with ⟨gd, q⟩ | ⟨C, x, bd, hx, er, q⟩
    · have gd1 := gd.kp kp1
      refine ⟨_, rfl, named, rfl, ?_⟩
      cases named with
      | true =>
        refine iteT ⟨rfl, _, rfl, _, rfl, _, rfl, .inl ⟨gd1, fun H2 r k2 => ⟨_, rfl, rfl, _, rfl, ?_⟩⟩⟩
        rw [decide_eq_true (rfl : V.non = V.non)]
        exact iteT (q H2 (kp1.trans k2))
      | false =>
        refine iteF ⟨rfl, _, rfl, _, rfl, _, rfl, .inl ⟨gd1, fun H2 r k2 => ⟨_, rfl, rfl, _, rfl, ?_⟩⟩⟩
        rw [decide_eq_true (rfl : V.non = V.non)]
        exact iteT (q H2 (kp1.trans k2))
    · have bd1 := bd.kp kp1
      refine ⟨_, rfl, named, rfl, ?_⟩
      cases named with
      | true =>
        refine iteT ⟨rfl, _, rfl, _, rfl, _, rfl, .inr ⟨C, bd1, fun H2 k2 => ⟨true, er.ex, fun _ a ha => ⟨_, rfl, fun hna => ⟨_, rfl, rfl, _, rfl, ?_⟩⟩, fun z => nomatch z⟩⟩⟩
        rw [decide_eq_false (fun z => nomatch z : ¬ V.ref a = V.non)]
        refine iteF ⟨_, rfl, a, C, x, rfl, upd_same, hx, er, fun H3 k3 => q H3 ?_⟩
        have k4 := (kp1.trans k2).trans (Kp.new (o := ExH (.ref C) none a) k2.tab hna)
        exact k4.trans (kp_sm k4.tab k3)
      | false =>
        refine iteF ⟨rfl, _, rfl, _, rfl, _, rfl, .inr ⟨C, bd1, fun H2 k2 => ⟨true, er.ex, fun _ a ha => ⟨_, rfl, fun hna => ⟨_, rfl, rfl, _, rfl, ?_⟩⟩, fun z => nomatch z⟩⟩⟩
        rw [decide_eq_false (fun z => nomatch z : ¬ V.ref a = V.non)]
        refine iteF ⟨_, rfl, a, C, x, rfl, upd_same, hx, er, fun H3 k3 => q H3 ?_⟩
        have k4 := (kp1.trans k2).trans (Kp.new (o := ExH (.ref C) none a) k2.tab hna)
        exact k4.trans (kp_sm k4.tab k3)
end
end Ln


set_option Elab.async false
set_option linter.all false
set_option maxRecDepth 100000
set_option maxHeartbeats 4000000
namespace Ln
open PySem PySem.Spec PyProof.Rows L2 GxR
theorem DvAll.take {K : PySem.W.Frag} {H : Hp} : ∀ (n : Nat) {vs : List V} {ds : List PyData}, DvAll K H vs ds → DvAll K H (vs.take n) (ds.take n)
  | 0, _, _, _ => by
    rw [List.take_zero, List.take_zero]
    exact .nil
  | n + 1, _, _, .nil => .nil
  | n + 1, _, _, .cons a b => .cons a (DvAll.take n b)
theorem DvAll.rev {K : PySem.W.Frag} {H : Hp} : ∀ {vs : List V} {ds : List PyData}, DvAll K H vs ds → DvAll K H vs.reverse ds.reverse
  | _, _, .nil => .nil
  | _, _, .cons a b => by
    rw [List.reverse_cons, List.reverse_cons]
    exact DvAll.app (DvAll.rev b) (.cons a .nil)
section
variable {X : Cx} {s0 : Addr} {Γ : List (Nat × PyData)} {d : PyData} {ds es : List PyData} {e : Expr}
/-- t[:1] -/
theorem g_sl1 (h : PE X e (tSl (rSlA X.K) (tG X.K s0 Γ (.tuple ds)) tNoPart (tPart (tC (.int 1))))) : PE X e (tG X.K s0 Γ (.tuple (ds.take 1))) :=
  pe_imp h fun σ H Q ⟨⟨l, hs⟩, en, q⟩ => ⟨⟨l, hs⟩, en, fun H1 v1 k1 d1 => by
    cases d1.dv with
    | @tup a1 xs _ s1 c1 =>
      have e1 : HT.sIx xs.length xs.length (some ((1 : Nat) : Int)) = min 1 xs.length := HT.sIx_nat _ _ _
      refine ⟨1, rfl, a1, xs, rfl, sqT_sm s1 off_sub, fun hw => ?_, fun _ p hp => ?_⟩
      · have h1 : xs.length ≤ 1 := by
          have := hw.2
          rw [show (1 : Int) = ((1 : Nat) : Int) from rfl, e1] at this
          omega
        have h2 : ds.take 1 = ds := List.take_of_length_le (by rw [← c1.len]; exact h1)
        exact q H1 (.ref a1) k1 (.of (by rw [h2]; exact .tup s1 c1) fun _ z => nomatch z)
      · have k3 : L2.Same H1 (upd H1 p (.tup (cutV xs none (some 1)))) := sm_new sm_refl hp
        have n : p ≠ s0 := (ne_of_none (k1 _ _ hs) hp).symm
        have e2 : cutV xs none (some 1) = xs.take 1 := by
          unfold cutV
          rw [HT.sIx_none, List.drop_zero, Nat.sub_zero, show (1 : Int) = ((1 : Nat) : Int) from rfl, e1]
          by_cases h : xs.length ≤ 1
          · rw [Nat.min_eq_right h, List.take_length, List.take_of_length_le h]
          · rw [Nat.min_eq_left (by omega)]
        rw [e2] at k3 ⊢
        exact q _ _ (sm_trans k1 k3) (.of (.tup (SqT.of (by rw [off_at n]; exact upd_same)) ((c1.take 1).same (off_sm (s := s0) k3))) fun _ z => nomatch z)⟩
/-- t[::-1] -/
theorem g_rev (h : PE X e (tRevT X.K (tG X.K s0 Γ (.tuple ds)))) : PE X e (tG X.K s0 Γ (.tuple ds.reverse)) :=
  pe_imp h fun σ H Q ⟨⟨l, hs⟩, en, q⟩ => ⟨⟨l, hs⟩, en, fun H1 v1 k1 d1 => by
    cases d1.dv with
    | @tup a1 xs _ s1 c1 =>
      refine ⟨a1, xs, rfl, sqT_sm s1 off_sub, fun p hp => ?_⟩
      have k3 : L2.Same H1 (upd H1 p (.tup xs.reverse)) := sm_new sm_refl hp
      have n : p ≠ s0 := (ne_of_none (k1 _ _ hs) hp).symm
      exact q _ _ (sm_trans k1 k3) (.of (.tup (SqT.of (by rw [off_at n]; exact upd_same)) (c1.rev.same (off_sm (s := s0) k3))) fun _ z => nomatch z)⟩
/-- menu[take(bag, n)] -/
theorem g_pickC {ib im : Nat} {m : Nat} {E : XK} (h : PE X e (tOp (rIxL X.K) (tVar im) (tCall spTake [] E (tCons (tVar ib) (tCons (tC (.int (m : Nat))) tNil))))) (hm : (im, .list ds) ∈ Γ) (hlen : ds.length = m) (h0 : 0 < m) (h9 : m ≤ 1000) :
    PE X e fun σ H Q => ∃ (l : List V) (n : Nat), σ[ib]? = some (some (.ref s0)) ∧ H s0 = some (.lst l) ∧ SrcV n l ∧ n ≤ 1000000 ∧ EnvD X.K s0 Γ σ H ∧
      ∀ H' v d l', Ch s0 H H' → H' s0 = some (.lst l') → SrcV (n + 1) l' → d ∈ ds → Dv X.K (offH H' s0) v d → Q v H' :=
  pe_imp h fun σ H Q ⟨l, n, eb, hs, hl, hn, en, q⟩ => by
    obtain ⟨v, ev, dt⟩ := en _ hm
    obtain ⟨a, xs, rfl, ea, na, c⟩ := dt.ls _ rfl
    refine ⟨.ref a, ev, .ref s0, eb, s0, l, n, (m : Nat), rfl, hs, hl, hn, by omega, by omega, fun l2 r hl2 h0 h1 => ?_⟩
    obtain ⟨j, rfl⟩ : ∃ j : Nat, r = (j : Int) := ⟨r.toNat, by omega⟩
    obtain ⟨u, hu, du⟩ := c.at_ (List.getElem?_eq_getElem (show j < ds.length by omega))
    exact ⟨a, xs, (j : Nat), u, rfl, rfl, SqL.of (by rw [upd_ne na]; exact ea), atI_nat hu, q _ u _ l2 Ch.src upd_same hl2 (List.getElem_mem _) (du.same (off_ch Ch.src))⟩
end
theorem scNoCars : FnScope ["bag", "some", "bad", "unknown"] ["bag", "some"] (defScope sNoCars) := ⟨rfl, rfl, rfl, by decide +kernel, rfl, by decide +kernel, by decide +kernel⟩
def nc1 (X : List PyData) : List PyData := [.none, .list X, .tuple (X ++ [.str "A"]), .tuple (X ++ [.int 1]), .tuple (X ++ [.str ""]), .tuple (X ++ [.str "yy", .str "yy"]), .str "ab", .dict [], .int 7, .tuple (X ++ [.none])]
def nc2 (X : List PyData) : List PyData := [.tuple [.tuple [.str "a"]], .tuple (X ++ [.str "abcde"]), .tuple [.str "a b"], .bool true]
def nc3 (X : List PyData) : List PyData := [.tuple (X ++ X.take 1), .tuple (X.reverse ++ X)]
def ncU (X : List PyData) : List PyData := [.tuple (X ++ [.str "yy"]), .tuple ([.str "yy"] ++ X), .tuple [.str "yz", .str "yy"]]
def NcB (d : PyData) : Prop := laneD d = false ∧ SzA d ∧ Rp d 5 10000
def NcU (d : PyData) : Prop := (∃ S : List Str, d = .tuple (S.map PyData.str) ∧ laneB S = true ∧ ("yy" : Str) ∈ S) ∧ SzA d ∧ Rp d 5 10000
section
variable {S : List Str}
theorem nc_bad (hc : ∀ x ∈ S, carB x = true) (few : S.length ≤ 100) : ∀ d ∈ nc1 (S.map PyData.str) ++ nc2 (S.map PyData.str), NcB d := by
  have hR := rp_strs hc (by omega)
  exact fa_app
    (fa_cons ⟨rfl, sz_flat rfl rfl, .dec (by decide +kernel)⟩ (fa_cons ⟨rfl, sz_lst (by rw [List.length_map]; omega), hR.list.mono (by decide) (by decide)⟩
      (fa_cons ⟨lane_bad (.inr ⟨_, rfl, by decide +kernel⟩), sz_tup (le_add few (by decide)), rpT hR (.dec (by decide +kernel))⟩ (fa_cons ⟨lane_bad (.inl rfl), sz_tup (le_add few (by decide)), rpT hR (.dec (by decide +kernel))⟩
      (fa_cons ⟨lane_bad (.inr ⟨_, rfl, by decide +kernel⟩), sz_tup (le_add few (by decide)), rpT hR (.dec (by decide +kernel))⟩ (fa_cons ⟨lane_bad (.inr ⟨_, rfl, by decide +kernel⟩), sz_tup (le_add few (by decide)), rpT hR (.dec (by decide +kernel))⟩
      (fa_cons ⟨rfl, sz_flat rfl rfl, .dec (by decide +kernel)⟩ (fa_cons ⟨rfl, sz_flat rfl rfl, .dec (by decide +kernel)⟩ (fa_cons ⟨rfl, sz_flat rfl rfl, .dec (by decide +kernel)⟩
      (fa_cons ⟨lane_bad (.inl rfl), sz_tup (le_add few (by decide)), rpT hR (.dec (by decide +kernel))⟩ fa_nil))))))))))
    (fa_cons ⟨by decide +kernel, sz_tupL (by decide), .dec (by decide +kernel)⟩ (fa_cons ⟨lane_bad (.inr ⟨_, rfl, by decide +kernel⟩), sz_tup (le_add few (by decide)), rpT hR (.dec (by decide +kernel))⟩
      (fa_cons ⟨by decide +kernel, sz_tupL (by decide), .dec (by decide +kernel)⟩ (fa_cons ⟨rfl, sz_flat rfl rfl, .dec (by decide +kernel)⟩ fa_nil))))
theorem lane_two {A : List Str} {x : Str} (h : ¬ A.Nodup) : laneD (.tuple (A.map PyData.str)) = false := by
  show (match strsD (A.map PyData.str) with | some xs => laneB xs | none => false) = false
  have := strsD_app (ds := []) A
  rw [List.append_nil] at this
  rw [this]
  show laneB (A ++ []) = false
  rw [List.append_nil]
  unfold laneB
  rw [decide_eq_false h, Bool.and_false]
theorem nc_bad3 (hc : ∀ x ∈ S, carB x = true) (few : S.length ≤ 100) (hn : S ≠ []) : ∀ d ∈ nc3 (S.map PyData.str), NcB d := by
  obtain ⟨x, r, rfl⟩ : ∃ x r, S = x :: r := by
    cases S with
    | nil => exact absurd rfl hn
    | cons x r => exact ⟨x, r, rfl⟩
  have hR := rp_strs hc (by omega)
  have e1 : PyData.tuple ((x :: r).map PyData.str ++ ((x :: r).map PyData.str).take 1) = .tuple (((x :: r) ++ [x]).map PyData.str) := by simp
  have e2 : PyData.tuple (((x :: r).map PyData.str).reverse ++ (x :: r).map PyData.str) = .tuple (((x :: r).reverse ++ (x :: r)).map PyData.str) := by rw [List.map_append, List.map_reverse]
  have c1 : ∀ y ∈ (x :: r) ++ [x], carB y = true := fun y hy => by
    rcases List.mem_append.mp hy with h | h
    · exact hc y h
    · rw [List.mem_singleton.mp h]
      exact hc x List.mem_cons_self
  have c2 : ∀ y ∈ (x :: r).reverse ++ (x :: r), carB y = true := fun y hy => by
    rcases List.mem_append.mp hy with h | h
    · exact hc y (List.mem_reverse.mp h)
    · exact hc y h
  have l1 : ((x :: r) ++ [x]).length ≤ 200 := by rw [List.length_append]; show _ + 1 ≤ 200; omega
  have l2 : ((x :: r).reverse ++ (x :: r)).length ≤ 200 := by rw [List.length_append, List.length_reverse]; omega
  refine fa_cons ?_ (fa_cons ?_ fa_nil)
  · rw [e1]
    refine ⟨lane_two (x := x) fun h => ?_, sz_tupL (by rw [List.length_map]; omega), (rp_strs c1 (by omega)).tuple.mono (by decide) (by decide)⟩
    exact (List.nodup_append.mp h).2.2 x List.mem_cons_self x List.mem_cons_self rfl
  · rw [e2]
    refine ⟨lane_two (x := x) fun h => ?_, sz_tupL (by rw [List.length_map]; omega), (rp_strs c2 (by omega)).tuple.mono (by decide) (by decide)⟩
    exact (List.nodup_append.mp h).2.2 x (List.mem_reverse.mpr List.mem_cons_self) x List.mem_cons_self rfl
theorem nc_un (hc : ∀ x ∈ S, carB x = true) (few : S.length ≤ 100) (nd : S.Nodup) (hy : ¬ ("yy" : Str) ∈ S) : ∀ d ∈ ncU (S.map PyData.str), NcU d := by
  have mk : ∀ A : List Str, (∀ x ∈ A, carB x = true) → A.Nodup → ("yy" : Str) ∈ A → A.length ≤ 200 → NcU (.tuple (A.map PyData.str)) := fun A h1 h2 h3 h4 =>
    ⟨⟨A, rfl, by unfold laneB; rw [Bool.and_eq_true]; exact ⟨List.all_eq_true.mpr h1, decide_eq_true h2⟩, h3⟩, sz_tupL (by rw [List.length_map]; omega), (rp_strs h1 (by omega)).tuple.mono (by decide) (by decide)⟩
  refine fa_cons ?_ (fa_cons ?_ (fa_cons ?_ fa_nil))
  · have := mk (S ++ (["yy"] : List Str)) (fun x hx => ?_) (List.nodup_append.mpr ⟨nd, by decide +kernel, fun x hx y hz z => ?_⟩) (List.mem_append_right _ List.mem_cons_self) (by rw [List.length_append]; show _ + 1 ≤ 200; omega)
    · rw [List.map_append] at this
      exact this
    · rcases List.mem_append.mp hx with h | h
      · exact hc x h
      · rw [List.mem_singleton.mp h]
        exact car_yy
    · rw [List.mem_singleton.mp hz] at z
      exact hy (z ▸ hx)
  · have := mk ("yy" :: S) (fun x hx => ?_) (List.nodup_cons.mpr ⟨hy, nd⟩) List.mem_cons_self (by rw [List.length_cons]; omega)
    · exact this
    · rcases List.mem_cons.mp hx with h | h
      · rw [h]
        exact car_yy
      · exact hc x h
  · exact mk ["yz", "yy"] (by decide +kernel) (by decide +kernel) (by decide +kernel) (by decide)
end
section
variable {P : Program} {w : World} {K : PySem.W.Frag} {mg : Str → Option Value} {base : Heap} {Ps : List Addr}
def spNoCars (K : PySem.W.Frag) : Sp := fun vs H Q _ => ∃ (s0 t : Addr) (l : List V) (n : Nat) (S : List Str), vs = [.ref s0, .ref t] ∧ H s0 = some (.lst l) ∧ SrcV n l ∧ n + 10 ≤ 1000000 ∧ SqT K H t (S.map V.str) ∧ S.length ≤ 100 ∧ (∀ x ∈ S, carB x = true) ∧ S.Nodup ∧ ¬ ("yy" : Str) ∈ S ∧
  ∀ (H' : Hp) (p : Addr) (v : V) (d : PyData) (wd : Str) (l' : List V), Ch s0 H H' → H' s0 = some (.lst l') → SrcV (n + 2) l' → H' p = some (.tup [v, .str wd]) → Dv K (offH H' s0) v d → ((wd = "cars" ∧ NcB d) ∨ (wd = "car" ∧ NcU d)) → Q (.ref p) H'
theorem ok_noCars {f fT : Addr} {fd fdT : FuncData} (F : Fun K "_law_no_cars" "_law_no_cars" sNoCars f fd) (B : Bi mg)
    (GT : FnOk P w K mg base CX0 1 fT fdT ["bag", "limit"] spTake) (mgT : mg "_law_take" = some (.ref fT)) (kT : PySem.W.keepIn K (.ref fT) = true) (bT : Binds K fdT ["bag", "limit"] []) : FnOk P w K mg base CX0 2 f fd ["bag", "some"] (spNoCars K) := by
  refine F.ok scNoCars (fun vs H Q E h => ?_) (fun cdv A outer s H vs Q E hr h => ?_)
  · obtain ⟨s0, t, l, n, S, rfl, _⟩ := h
    rfl
  · obtain ⟨s0, t, l, n, S, rfl, hs, hl, hn, hT, few, hcx, nd, hy, q⟩ := h
    have hu : A.units + 3 + 64 < cLine := hr.units
    have hsz : ∀ x ∈ S, x.length ≤ sizeLine := fun x hx => by have := carLen (hcx x hx); rw [sizeLine_eq]; omega
    have hX : (S.map PyData.str).length ≤ 300 := by rw [List.length_map]; omega
    have hX1 : (S.map PyData.str).length + ((S.map PyData.str).take 1).length ≤ 900 := by rw [List.length_take]; omega
    have hX2 : (S.map PyData.str).reverse.length + (S.map PyData.str).length ≤ 900 := by rw [List.length_reverse]; omega
    have hX3 : ([.str "yy"] : List PyData).length + (S.map PyData.str).length ≤ 900 := by show 1 + _ ≤ 900; omega
    refine ⟨_, pss_cons (ps_set (i := 2) scNoCars.nd rfl (.inl rfl) (g_lst (s0 := s0) (Γ := [(1, .tuple (S.map PyData.str))]) (ga_cons g_non (ga_cons (g_list (pe_callTy call_list_of (by rfl) B.lst (by decide +kernel) (pa_cons (g_var (pv 1) List.mem_cons_self) pa_nil)))
        (ga_cons (g_catT (g_var (pv 1) List.mem_cons_self) (g_tup (ga_cons g_str ga_nil)) (le_add hX (by decide)))
        (ga_cons (g_catT (g_var (pv 1) List.mem_cons_self) (g_tup (ga_cons g_int ga_nil)) (le_add hX (by decide)))
        (ga_cons (g_catT (g_var (pv 1) List.mem_cons_self) (g_tup (ga_cons g_str ga_nil)) (le_add hX (by decide)))
        (ga_cons (g_catT (g_var (pv 1) List.mem_cons_self) (g_tup (ga_cons g_str (ga_cons g_str ga_nil))) (le_add hX (by decide)))
        (ga_cons g_str (ga_cons g_dic (ga_cons g_int
        (ga_cons (g_catT (g_var (pv 1) List.mem_cons_self) (g_tup (ga_cons g_non ga_nil)) (le_add hX (by decide))) ga_nil))))))))))))
      (pss_cons (ps_set (i := 2) scNoCars.nd rfl (.inl rfl) (g_cat (s0 := s0) (Γ := [(2, .list (nc1 (S.map PyData.str))), (1, .tuple (S.map PyData.str))]) (g_var (pv 2) List.mem_cons_self) (g_lst (ga_cons (g_tup (ga_cons (g_tup (ga_cons g_str ga_nil)) ga_nil))
        (ga_cons (g_catT (g_var (pv 1) (List.mem_cons_of_mem _ List.mem_cons_self)) (g_tup (ga_cons g_str ga_nil)) (le_add hX (by decide))) (ga_cons (g_tup (ga_cons g_str ga_nil)) (ga_cons g_bl ga_nil))))) (of_decide_eq_true (p := 14 ≤ 10000) (by decide))))
      (pss_cons (ps_if (pt_cmpR (op_neD hu) (pv 1) (pe_tup pa_nil) (nomark _))
        (pss_one (ps_set (i := 2) scNoCars.nd rfl (.inl rfl) (g_cat (s0 := s0) (Γ := [(2, .list (nc1 (S.map PyData.str) ++ nc2 (S.map PyData.str))), (1, .tuple (S.map PyData.str))]) (g_var (pv 2) List.mem_cons_self) (g_lst
          (ga_cons (g_catT (g_var (pv 1) (List.mem_cons_of_mem _ List.mem_cons_self)) (g_sl1 (pe_slice sl_tupA (g_var (pv 1) (List.mem_cons_of_mem _ List.mem_cons_self)) po_none (po_some pe_int))) hX1)
          (ga_cons (g_catT (g_rev (pe_revT (g_var (pv 1) (List.mem_cons_of_mem _ List.mem_cons_self)))) (g_var (pv 1) (List.mem_cons_of_mem _ List.mem_cons_self)) hX2) ga_nil))) (of_decide_eq_true (p := 16 ≤ 10000) (by decide))))) pss_nil)
      (pss_cons (ps_set (i := 3) scNoCars.nd rfl (.inl rfl) (g_lst (s0 := s0) (Γ := [(1, .tuple (S.map PyData.str))])
          (ga_cons (g_catT (g_var (pv 1) List.mem_cons_self) (g_tup (ga_cons g_str ga_nil)) (le_add hX (by decide))) (ga_cons (g_catT (g_tup (ga_cons g_str ga_nil)) (g_var (pv 1) List.mem_cons_self) hX3) (ga_cons (g_tup (ga_cons g_str (ga_cons g_str ga_nil))) ga_nil)))))
      (pss_cons (ps_if (pt_cmpR op_eq (pe_call GT hr (by rfl) mgT kT bT .nil pass0 (pa_cons (pv 0) (pa_cons pe_int pa_nil))) pe_int (nomark _))
        (pss_one (ps_ret (pe_tup (pa_cons (g_pickC (s0 := s0) (m := 3) (Γ := [(3, .list (ncU (S.map PyData.str)))]) (pe_ix ix_list (pv 3) (pe_call GT hr (by rfl) mgT kT bT .nil pass0 (pa_cons (pv 0) (pa_cons pe_int pa_nil))) (fun _ _ => rfl)) List.mem_cons_self rfl (by decide) (by decide)) (pa_cons pe_str pa_nil))))) pss_nil)
      (pss_one (ps_alt (ps_ret (pe_tup (pa_cons (g_pick (s0 := s0) (Γ := [(2, .list (nc1 (S.map PyData.str) ++ nc2 (S.map PyData.str)))]) (pe_ix ix_list (pv 2) (pe_call GT hr (by rfl) mgT kT bT .nil pass0 (pa_cons (pv 0) (pa_cons (pe_callB call_len_seq (by rfl) B.len PySem.boot_len (pa_cons (pv 2) pa_nil)) pa_nil))) (fun _ _ => rfl)) List.mem_cons_self) (pa_cons pe_str pa_nil))))
        (ps_ret (pe_tup (pa_cons (g_pick (s0 := s0) (Γ := [(2, .list (nc1 (S.map PyData.str) ++ nc2 (S.map PyData.str) ++ nc3 (S.map PyData.str)))]) (pe_ix ix_list (pv 2) (pe_call GT hr (by rfl) mgT kT bT .nil pass0 (pa_cons (pv 0) (pa_cons (pe_callB call_len_seq (by rfl) B.len PySem.boot_len (pa_cons (pv 2) pa_nil)) pa_nil))) (fun _ _ => rfl)) List.mem_cons_self) (pa_cons pe_str pa_nil)))))))))), ?_⟩
    have dT : ∀ {H' : Hp}, L2.Same H H' → Dt K s0 H' (.ref t) (.tuple (S.map PyData.str)) := fun {H'} k => .of (.tup (off_seqT (sqT_sm hT k) (k _ _ hs)) (dv_strs _ hsz)) fun _ z => nomatch z
    refine ⟨⟨l, hs⟩, .cons rfl (dT sm_refl) .nil, fun H1 v1 k1 d1 => ⟨⟨l, k1 _ _ hs⟩, .cons rfl d1 (.cons rfl (dT k1) .nil), fun H2 v2 k2 d2 => ?_⟩⟩
    have k02 := sm_trans k1 k2
    refine ⟨.ref t, rfl, by show 0 ≤ sizeLine; decide, fun e he => ⟨.tuple (S.map PyData.str), .tuple [], .tup (sqT_sm hT (sm_trans k02 (sm_new sm_refl he))) (dp_str _), .tup (SqT.of (xs := []) upd_same) .nil, shapedT _ hcx, shapedT [] (fun _ h => nomatch h), _, rfl, ?_⟩⟩
    rw [eqv_nilT]
    have k3 : L2.Same H2 (upd H2 e (.tup [])) := sm_new sm_refl he
    generalize upd H2 e (.tup []) = H3 at k3 ⊢
    have k03 := sm_trans k02 k3
    by_cases hn : S = []
    · subst hn
      refine iteF ?_
      refine ⟨⟨l, k03 _ _ hs⟩, .cons rfl (dT k03) .nil, fun H4 v4 k4 d4 => ?_⟩
      have k04 := sm_trans k03 k4
      refine ⟨_, rfl, s0, l, n, 3, rfl, k04 _ _ hs, hl, by omega, by decide, by decide, fun l5 r5 hl5 h0 h3 => ⟨rfl, _, rfl, ite2 (fun _ => ?_) (fun _ => ?_)⟩⟩
      · have c5 : Ch s0 H (upd H4 s0 (.lst l5)) := (Ch.refl.sm k04).trans Ch.src
        refine ⟨l5, n + 1, rfl, upd_same, hl5, by omega, .cons rfl (d4.ch Ch.src) .nil, fun H6 v d l6 ch hs6 hl6 hm dv => ⟨by show 2 ≤ sizeLine; decide, fun p hp => ?_⟩⟩
        have k6 : L2.Same H6 (upd H6 p (.tup [v, .str "car"])) := sm_new sm_refl hp
        exact q _ p v d "car" l6 ((c5.trans ch).sm k6) (k6 _ _ hs6) hl6 upd_same (dv.same (off_sm k6)) (.inr ⟨rfl, nc_un hcx few nd hy d hm⟩)
      · have c5 : Ch s0 H (upd H4 s0 (.lst l5)) := (Ch.refl.sm k04).trans Ch.src
        refine .inl ⟨l5, n + 1, rfl, upd_same, hl5, by omega, .cons rfl ((d2.same (sm_trans k3 k4)).ch Ch.src) .nil, by show 0 < 14; decide, by show 14 ≤ 1000; decide, fun H6 v d l6 ch hs6 hl6 hm dv => ⟨by show 2 ≤ sizeLine; decide, fun p hp => ?_⟩⟩
        have k6 : L2.Same H6 (upd H6 p (.tup [v, .str "cars"])) := sm_new sm_refl hp
        exact q _ p v d "cars" l6 ((c5.trans ch).sm k6) (k6 _ _ hs6) hl6 upd_same (dv.same (off_sm k6)) (.inl ⟨rfl, nc_bad hcx few d hm⟩)
    · obtain ⟨x, r, rfl⟩ : ∃ x r, S = x :: r := by
        cases S with
        | nil => exact absurd rfl hn
        | cons x r => exact ⟨x, r, rfl⟩
      refine iteT ⟨⟨l, k03 _ _ hs⟩, .cons rfl (d2.same k3) (.cons rfl (dT k03) .nil), fun H3' v3' k3' d3' => ?_⟩
      have k03' := sm_trans k03 k3'
      refine ⟨⟨l, k03' _ _ hs⟩, .cons rfl (dT k03') .nil, fun H4 v4 k4 d4 => ?_⟩
      have k04 := sm_trans k03' k4
      refine ⟨_, rfl, s0, l, n, 3, rfl, k04 _ _ hs, hl, by omega, by decide, by decide, fun l5 r5 hl5 h0 h3 => ⟨rfl, _, rfl, ite2 (fun _ => ?_) (fun _ => ?_)⟩⟩
      · have c5 : Ch s0 H (upd H4 s0 (.lst l5)) := (Ch.refl.sm k04).trans Ch.src
        refine ⟨l5, n + 1, rfl, upd_same, hl5, by omega, .cons rfl (d4.ch Ch.src) .nil, fun H6 v d l6 ch hs6 hl6 hm dv => ⟨by show 2 ≤ sizeLine; decide, fun p hp => ?_⟩⟩
        have k6 : L2.Same H6 (upd H6 p (.tup [v, .str "car"])) := sm_new sm_refl hp
        exact q _ p v d "car" l6 ((c5.trans ch).sm k6) (k6 _ _ hs6) hl6 upd_same (dv.same (off_sm k6)) (.inr ⟨rfl, nc_un hcx few nd hy d hm⟩)
      · have c5 : Ch s0 H (upd H4 s0 (.lst l5)) := (Ch.refl.sm k04).trans Ch.src
        refine .inr ⟨l5, n + 1, rfl, upd_same, hl5, by omega, .cons rfl ((d3'.same k4).ch Ch.src) .nil, by show 0 < 16; decide, by show 16 ≤ 1000; decide, fun H6 v d l6 ch hs6 hl6 hm dv => ⟨by show 2 ≤ sizeLine; decide, fun p hp => ?_⟩⟩
        have k6 : L2.Same H6 (upd H6 p (.tup [v, .str "cars"])) := sm_new sm_refl hp
        exact q _ p v d "cars" l6 ((c5.trans ch).sm k6) (k6 _ _ hs6) hl6 upd_same (dv.same (off_sm k6)) (.inl ⟨rfl, fa_app (nc_bad hcx few) (nc_bad3 hcx few hn) d hm⟩)
end
end Ln


set_option Elab.async false
set_option linter.all false
set_option maxRecDepth 100000
set_option maxHeartbeats 8000000
namespace Ln
open PySem PySem.Spec PyProof.Rows L2 GxR
theorem scLaw : FnScope ["script", "k", "bag", "initial", "entries", "folk", "some", "bad", "due", "no_lane", "no_log", "kept", "asks", "door", "front", "diary", "picked", "told", "named", "name"] ["script"] (defScope sLaw) := ⟨rfl, rfl, rfl, by decide +kernel, rfl, by decide +kernel, by decide +kernel⟩
section
variable {P : Program} {w : World} {K : PySem.W.Frag} {mg : Str → Option Value} {base : Heap} {Ps : List Addr}
def spLaw (K : PySem.W.Frag) (Ps : List Addr) : Sp := fun vs H Q _ => ∃ (a : Addr) (ns : List Int), vs = [.ref a] ∧ SqL K H a (ns.map V.int) ∧ Tabs Ps H ∧ ∀ H', Q (.bl true) H'
theorem ok_law11 {f fC fG fT fB fF fN fO fR fA CL CG CC CU CB : Addr} {fd fdC fdG fdT fdB fdF fdN fdO fdR fdA : FuncData} (F : Fun K "law" "law" sLaw f fd) (B : Bi mg) (B2 : Bl mg) (eL : Er K mg CB "InvalidLane" CL) (eG : Er K mg CB "InvalidLog" CG) (eC : Er K mg CB "InvalidCars" CC) (eU : Er K mg CB "UnknownCar" CU)
    (GC : FnOk P w K mg base CX0 1 fC fdC ["script", "k"] (spCell K)) (mgC : mg "_law_cell_at" = some (.ref fC)) (kC : PySem.W.keepIn K (.ref fC) = true) (bC : Binds K fdC ["script", "k"] [])
    (GG : FnOk P w K mg base CX0 1 fG fdG ["cell", "k"] spBag) (mgG : mg "_law_bag" = some (.ref fG)) (kG : PySem.W.keepIn K (.ref fG) = true) (bG : Binds K fdG ["cell", "k"] [])
    (GT : FnOk P w K mg base CX0 1 fT fdT ["bag", "limit"] spTake) (mgT : mg "_law_take" = some (.ref fT)) (kT : PySem.W.keepIn K (.ref fT) = true) (bT : Binds K fdT ["bag", "limit"] [])
    (GB : FnOk P w K mg base CX0 3 fB fdB ["bag", "widest", "most"] spBuilt) (mgB : mg "_law_built" = some (.ref fB)) (kB : PySem.W.keepIn K (.ref fB) = true) (bB : Binds K fdB ["bag", "widest", "most"] [])
    (GF : FnOk P w K mg base CX0 1 fF fdF ["initial", "entries"] (spFolk K)) (mgF : mg "_law_folk" = some (.ref fF)) (kF : PySem.W.keepIn K (.ref fF) = true) (bF : Binds K fdF ["initial", "entries"] [])
    (GN : FnOk P w K mg base CX0 2 fN fdN ["bag", "line"] (spNoLane K)) (mgN : mg "_law_no_lane" = some (.ref fN)) (kN : PySem.W.keepIn K (.ref fN) = true) (bN : Binds K fdN ["bag", "line"] [])
    (GO : FnOk P w K mg base CX0 2 fO fdO ["bag", "initial", "entries"] (spNoLog K)) (mgO : mg "_law_no_log" = some (.ref fO)) (kO : PySem.W.keepIn K (.ref fO) = true) (bO : Binds K fdO ["bag", "initial", "entries"] [])
    (GR : FnOk P w K mg base CX0 2 fR fdR ["bag", "some"] (spNoCars K)) (mgR : mg "_law_no_cars" = some (.ref fR)) (kR : PySem.W.keepIn K (.ref fR) = true) (bR : Binds K fdR ["bag", "some"] [])
    (GA : FnOk P w K mg base CX0 12 fA fdA ["door", "front", "diary", "some", "named"] (spAsked K mg Ps CL CG CC CU CB)) (mgA : mg "_law_asked" = some (.ref fA)) (kA : PySem.W.keepIn K (.ref fA) = true) (bA : Binds K fdA ["door", "front", "diary", "some", "named"] []) :
    FnG P w K mg base 13 f fd ["script"] (spLaw K Ps) := by
  refine Fun.okG F scLaw (fun vs H Q E h => ?_) (fun cdv A outer s H vs Q E hr hgd h => ?_)
  · obtain ⟨a, ns, rfl, _⟩ := h
    rfl
  · obtain ⟨a, ns, rfl, hS, hT, q⟩ := h
    have hu : A.units + 3 + 64 < cLine := hr.units
    have hr1 := hr.mono (show 1 ≤ 12 by decide)
    have hr2 := hr.mono (show 2 ≤ 12 by decide)
    refine ⟨_, pss_cons (ps_for PassesOwn.never rfl (pi_range1 (by rfl) B2.rng (pa_cons (pe_callB (call_max2 rfl) (by rfl) B2.max (by decide +kernel) (pa_cons pe_int (pa_cons (pe_callB (call_min2 rfl) (by rfl) B2.min (by decide +kernel) (pa_cons pe_int (pa_cons (pe_callB call_len_seq (by rfl) B.len PySem.boot_len (pa_cons (pv 0) pa_nil)) pa_nil))) pa_nil))) pa_nil)) (pg_name (i := 1) scLaw.nd rfl (.inl rfl))
        (pss_cons (ps_set (i := 2) scLaw.nd rfl (.inr rfl) (pe_call GG hr1 (by rfl) mgG kG bG .nil pass0 (pa_cons (pe_call GC hr1 (by rfl) mgC kC bC .nil pass0 (pa_cons (pv 0) (pa_cons (pv 1) pa_nil))) (pa_cons (pv 1) pa_nil))))
        (pss_cons (ps_asg (pe_call GB (hr.mono (by decide)) (by rfl) mgB kB bB .nil pass0 (pa_cons (pv 2) (pa_cons pe_int (pa_cons pe_int pa_nil)))) (pg_tup (by rfl) (pgs_cons (pg_name (i := 3) scLaw.nd rfl (.inl rfl)) (pgs_cons (pg_name (i := 4) scLaw.nd rfl (.inl rfl)) pgs_nil))))
        (pss_cons (ps_set (i := 5) scLaw.nd rfl (.inl rfl) (pe_call GF hr1 (by rfl) mgF kF bF .nil pass0 (pa_cons (pv 3) (pa_cons (pv 4) pa_nil))))
        (pss_cons (ps_set (i := 6) scLaw.nd rfl (.inl rfl) (pe_callTy call_tuple_ofD (by rfl) B.tup (by decide +kernel) (pa_cons (pe_lc (own := [("name", 19)]) (g := gName 19) (tt := tTest (tOp rEq (tCall spTake [] E0 (tCons (tVar 2) (tCons (tC (.int 2)) tNil))) (tC (.int 0)))) (te := tVar 19) (by rfl) scLaw.nd (pi_list (pv 5)) (blkOk_by (own := [("name", 19)]) (N := ["script", "k", "bag", "initial", "entries", "folk", "some", "bad", "due", "no_lane", "no_log", "kept", "asks", "door", "front", "diary", "picked", "told", "named", "name"]) (sc := defScope sLaw) (by decide +kernel)) (fun _ _ _ _ _ => pg_name (i := 19) scLaw.nd rfl (Or.inl rfl)) (fun _ _ _ _ _ => pts_one (pt_cmpR op_eq (pe_call GT hr1 (by rfl) mgT kT bT .nil pass0 (pa_cons (pv 2) (pa_cons pe_int pa_nil))) pe_int (nomark _))) (fun _ _ _ _ _ => pv 19)) pa_nil)))
        (pss_cons (ps_asg (pe_call GR hr2 (by rfl) mgR kR bR .nil pass0 (pa_cons (pv 2) (pa_cons (pv 6) pa_nil))) (pg_tup (by rfl) (pgs_cons (pg_name (i := 7) scLaw.nd rfl (.inl rfl)) (pgs_cons (pg_name (i := 8) scLaw.nd rfl (.inl rfl)) pgs_nil))))
        (pss_cons (ps_par (i := 9) (j := 10) (by rfl) scLaw.nd rfl rfl (by decide) rfl rfl (pa_cons (pe_call GN hr2 (by rfl) mgN kN bN .nil pass0 (pa_cons (pv 2) (pa_cons (pv 3) pa_nil))) (pa_cons (pe_call GO hr2 (by rfl) mgO kO bO .nil pass0 (pa_cons (pv 2) (pa_cons (pv 3) (pa_cons (pv 4) pa_nil)))) pa_nil)) (by rfl))
        (pss_cons (ps_set (i := 11) scLaw.nd rfl (.inl rfl) (pe_callB (cr_reprD hgd hu) (by rfl) B2.rep (by decide +kernel) (pa_cons (pe_lst (pa_cons (pv 4) (pa_cons (pv 10) (pa_cons (pv 7) pa_nil)))) pa_nil)))
        (pss_cons (ps_set (i := 12) scLaw.nd rfl (.inl rfl) (pe_lst (pa_cons (pe_tup (pa_cons (pv 3) (pa_cons (pv 4) (pa_cons (pv 6) (pa_cons pe_str pa_nil))))) (pa_cons (pe_tup (pa_cons (pv 3) (pa_cons (pv 4) (pa_cons (pv 7) (pa_cons (pv 8) pa_nil))))) (pa_cons (pe_tup (pa_cons (pv 3) (pa_cons (pv 10) (pa_cons (pv 6) (pa_cons pe_str pa_nil))))) pa_nil)))))
        (pss_cons (ps_set (i := 12) scLaw.nd rfl (.inl rfl) (pe_op op_cat (pv 12) (pe_lst (pa_cons (pe_tup (pa_cons (pv 3) (pa_cons (pv 10) (pa_cons (pv 7) (pa_cons pe_str pa_nil))))) (pa_cons (pe_tup (pa_cons (pv 9) (pa_cons (pv 4) (pa_cons (pv 6) (pa_cons pe_str pa_nil))))) (pa_cons (pe_tup (pa_cons (pv 9) (pa_cons (pv 10) (pa_cons (pv 7) (pa_cons pe_str pa_nil))))) pa_nil))))))
        (pss_cons (ps_set (i := 13) scLaw.nd rfl (.inl rfl) (pe_call GT hr1 (by rfl) mgT kT bT .nil pass0 (pa_cons (pv 2) (pa_cons pe_int pa_nil))))
        (pss_one (ps_for PassesOwn.never rfl (pi_list (pv 12)) (pg_tup (by rfl) (pgs_cons (pg_name (i := 14) scLaw.nd rfl (.inl rfl)) (pgs_cons (pg_name (i := 15) scLaw.nd rfl (.inl rfl)) (pgs_cons (pg_name (i := 16) scLaw.nd rfl (.inl rfl)) (pgs_cons (pg_name (i := 17) scLaw.nd rfl (.inl rfl)) pgs_nil)))))
          (pss_cons (ps_set (i := 18) scLaw.nd rfl (.inl rfl) (pe_cmpR op_eq (pe_call GT hr1 (by rfl) mgT kT bT .nil pass0 (pa_cons (pv 2) (pa_cons pe_int pa_nil))) pe_int (nomark _)))
          (pss_one (ps_if (PW.pt (pw_or (pt_cmpR op_ne (pe_call GA hr (by rfl) mgA kA bA .nil pass0 (pa_cons (pv 13) (pa_cons (pv 14) (pa_cons (pv 15) (pa_cons (pv 16) (pa_cons (pv 18) pa_nil)))))) (pv 17) (nomark _)) (pw_or1 (pt_cmpR op_ne (pe_callB (cr_reprD hgd hu) (by rfl) B2.rep (by decide +kernel) (pa_cons (pe_lst (pa_cons (pv 4) (pa_cons (pv 10) (pa_cons (pv 7) pa_nil)))) pa_nil)) (pv 11) (nomark _)))))
            (pss_one (ps_ret pe_bl)) pss_nil))))))))))))))))
      (pss_one (ps_ret pe_bl)), ?_⟩
    refine ⟨.ref a, rfl, a, _, rfl, .inl hS, _, _, rfl, _, _, rfl, _, rfl, ?_, ?_, for_range (lo := 0) (n := _) (fun i σ H' => ∃ v1 v2 v3 v4 v5 v6 v7 v8 v9 v10 v11 v12 v13 v14 v15 v16 v17 v18 v19 : Option V, σ = [some (.ref a), v1, v2, v3, v4, v5, v6, v7, v8, v9, v10, v11, v12, v13, v14, v15, v16, v17, v18, v19] ∧ SqL K H' a (ns.map V.int) ∧ Tabs Ps H') ?_ ?_ ?_⟩
    · rw [List.length_map]
      split <;> split <;> omega
    · rw [List.length_map]
      split <;> split <;> omega
    · exact ⟨none, none, none, none, none, none, none, none, none, none, none, none, none, none, none, none, none, none, none, rfl, hS, hT⟩
    · rintro i σ Ha hi ⟨v1, v2, v3, v4, v5, v6, v7, v8, v9, v10, v11, v12, v13, v14, v15, v16, v17, v18, v19, rfl, hSa, hTa⟩
      have hi4 : i ≤ 64 := by
        rw [List.length_map] at hi
        split at hi <;> split at hi <;> omega
      have ek : [V.ref a, V.int (0 + (i : Int))] = [V.ref a, V.int ((i : Nat) : Int)] := by rw [Int.zero_add]
      have ek2 : ∀ c : Int, [V.int c, V.int (0 + (i : Int))] = [V.int c, V.int ((i : Nat) : Int)] := fun c => by rw [Int.zero_add]
      -- bag
      refine ⟨.ref a, rfl, _, rfl, a, ns, i, ek, hSa, fun c => ⟨_, rfl, c, i, ek2 c, hi4, fun s0 l0 hs0 hl0 => ?_⟩⟩
      have hSb : SqL K (upd Ha s0 (.lst l0)) a (ns.map V.int) := sq_same hSa (sm_new sm_refl hs0)
      have hTb : Tabs Ps (upd Ha s0 (.lst l0)) := tabs_new hTa hs0
      have off0 : Off K a s0 (ns.map V.int) := off_new hSa hs0
      have hsb : (upd Ha s0 (.lst l0)) s0 = some (.lst l0) := upd_same
      generalize upd Ha s0 (.lst l0) = Hb at hSb hTb hsb ⊢
      -- initial, entries
      refine ⟨_, rfl, s0, l0, 0, 6, 8, rfl, hsb, hl0, by decide, by decide, fun Hg pp t o xs as es m l3 bt hpp hpp2 => ⟨pp, _, rfl, SqT.of hpp2, rfl, _, _, rfl, _, _, rfl, rfl, ?_⟩⟩
      have hSg : SqL K Hg a (ns.map V.int) := by
        rcases off0 with n | e
        · exact bt.ch.seqL hSb n
        · exact .inr e
      have hTg : Tabs Ps Hg := bt.ch.tabs hsb hTb
      have G : Good xs es m := ⟨bt.nd, bt.cars, bt.ct, by have := bt.few1; omega, by have := bt.few2; omega⟩
      have d1 : s0 ≠ o := ne_of_none hsb bt.o0
      have hxs : xs.length ≤ 6 := bt.few1
      have hes : es.length ≤ 8 := bt.few2
      have S0 : StE K Ps a s0 ns as es (0 + (6 + 2 * 8 + 3)) [] [(t, xs)] [(o, as.map V.ref)] [] Hg := ⟨hTg, hSg, ⟨l3, bt.s1, bt.src⟩, bt.ev, off0, (fun _ h => nomatch h), fa_cons bt.t1 fa_nil, fa_cons ⟨bt.o1, d1.symm⟩ fa_nil, fun _ h => nomatch h⟩
      have xcar : ∀ x ∈ xs, carB x = true := fun x hx => bt.cars x (List.mem_append_left _ hx)
      have ecar : ∀ c, Ev.inn c ∈ es → carB c = true := fun c hc => bt.cars c (List.mem_append_right _ (mem_arrs hc))
      -- folk
      refine ⟨_, rfl, _, rfl, t, o, xs, as, es, rfl, bt.t1.sq, SqL.of bt.o1, EvT.at_ bt.ev, by omega, by omega, fun H1 fk sm1 hfk0 hfk => ?_⟩
      have S1 := (S0.same sm1).lcons (p := fk) hfk (ne_of_none bt.s1 hfk0).symm
      have hyy : ¬ ("yy" : Str) ∈ xs ++ arrs es := fun h => absurd (bt.pool _ h) (by decide +kernel)
      have fcar : ∀ x ∈ xs ++ arrs es, carB x = true := bt.cars
      have fnd : (xs ++ arrs es).Nodup := bt.nd
      have ffew : (xs ++ arrs es).length ≤ 20 := by
        have := arrs_len es
        rw [List.length_append]
        omega
      generalize hFe : xs ++ arrs es = F at hyy fcar fnd ffew S1 hfk
      -- some
      refine ⟨_, rfl, fk, rfl, ⟨_, SqL.of hfk⟩, fun D hD => ?_⟩
      obtain ⟨l1, hs1, hv1⟩ := S1.src
      have hDs : D ≠ s0 := (ne_of_none hs1 hD).symm
      refine lc_list (K := K) (a := fk) (xs := F.map V.str) (fun i H' => ∃ (l' : List V) (Z : List Str), Ch s0 H1 H' ∧ H' s0 = some (.lst l') ∧ SrcV (25 + i) l' ∧ H' D = some (.lst (Z.map V.str)) ∧ Z.Sublist (F.take i)) ?_ ?_ ?_ ?_
      · exact ⟨l1, [], Ch.refl.new hD, by rw [upd_ne hDs.symm]; exact hs1, hv1, upd_same, List.Sublist.slnil⟩
      · rintro i H' _ ⟨_, _, ch, _⟩
        exact SqL.of (ch _ _ hfk (ne_of_none bt.s1 hfk0).symm)
      · rintro i y H' hi ⟨l', Z, ch, hs', hv', hD', hZ⟩
        have hlt : i < F.length := by
          have h1 := (List.getElem?_eq_some_iff.mp hi).1
          rw [List.length_map] at h1
          exact h1
        rw [List.getElem?_map, List.getElem?_eq_getElem hlt] at hi
        obtain rfl := Option.some.inj hi
        have htk : F.take (i + 1) = F.take i ++ [F[i]] := by rw [List.take_add_one, List.getElem?_eq_getElem hlt]; rfl
        refine ⟨rfl, _, rfl, s0, l', 25 + i, 2, rfl, hs', hv', by omega, by decide, by decide, fun l2 r2 hv2 h0 h2 => ⟨rfl, _, rfl, ?_⟩⟩
        have c2 : Ch s0 H1 (upd H' s0 (.lst l2)) := ch.trans Ch.src
        have hD2 : (upd H' s0 (.lst l2)) D = some (.lst (Z.map V.str)) := by rw [upd_ne hDs]; exact hD'
        have hs2 : (upd H' s0 (.lst l2)) s0 = some (.lst l2) := upd_same
        refine ite2 (fun _ => ⟨_, rfl, _, hD2, small1000 ?_, l2, Z ++ [F[i]], c2.new hD, by rw [upd_ne hDs.symm]; exact hs2, hv2, ?_, ?_⟩) (fun _ => ⟨l2, Z, c2, hs2, hv2, hD2, ?_⟩)
        · rw [List.length_map]
          have := hZ.length_le
          rw [List.length_take] at this
          omega
        · rw [upd_same, List.map_append]
          rfl
        · rw [htk]
          exact hZ.append (List.Sublist.refl _)
        · rw [htk]
          exact hZ.trans (List.sublist_append_left _ _)
      rintro H2 ⟨l2, Z, ch2, hs2, hv2, hD2, hZ⟩
      rw [List.length_map, List.take_length] at hZ
      rw [List.length_map] at hv2
      have Zcar : ∀ x ∈ Z, carB x = true := fun x hx => fcar x (hZ.subset hx)
      have Znd : Z.Nodup := hZ.nodup fnd
      have Zfew : Z.length ≤ 20 := Nat.le_trans hZ.length_le ffew
      have Zk : ∀ x ∈ Z, x ∈ xs ++ arrs es := fun x hx => by rw [hFe]; exact hZ.subset hx
      have Zyy : ¬ ("yy" : Str) ∈ Z := fun h => hyy (hZ.subset h)
      have S2 := S1.ch ch2 hs2 hv2
      refine ⟨D, _, rfl, SqL.of hD2, fun pg ob hob hpg => ?_⟩
      have S3 := (S2.ntpD (L := Z) (xs := Z.map V.str) rfl hob hpg).mono (Γ' := []) (T' := [(pg, Z), (t, xs)]) (Θ' := [(o, as.map V.ref)]) (fun _ h => nomatch h) (by simp) (by simp) (fun _ h => h)
      generalize upd H2 pg _ = H3 at S3 ⊢
      -- bad
      obtain ⟨l3', hs3, hv3⟩ := S3.src
      refine ⟨_, rfl, _, rfl, s0, pg, l3', _, Z, rfl, hs3, hv3, by omega, (S3.tp (by simp)).sq, by omega, Zcar, Znd, Zyy, fun H8 pq vb db wd l8 ch8 hs8 hv8 hpq dvb badb => ?_⟩
      have S8 := (S3.ch ch8 hs8 hv8).dcons dvb
      refine ⟨pq, _, rfl, SqT.of hpq, rfl, _, _, rfl, _, _, rfl, rfl, ?_⟩
      have szb : SzA db := by rcases badb with ⟨_, h⟩ | ⟨_, h⟩ <;> exact h.2.1
      have rpb : Rp db 5 10000 := by rcases badb with ⟨_, h⟩ | ⟨_, h⟩ <;> exact h.2.2
      have hnn : 25 + F.length + 2 ≤ 100 := by omega
      generalize 25 + F.length + 2 = n8 at S8 hv8 hnn
      -- no lane, no log
      refine ⟨_, rfl, _, rfl, s0, t, l8, n8, xs, rfl, hs8, hv8, by omega, (S8.tp (by simp)).sq, by omega, xcar, fun H9 vn dn l9 ch9 hs9 hv9 dvn badn szn rpn => ?_⟩
      have S9 := (S8.ch ch9 hs9 hv9).dcons dvn
      refine ⟨_, rfl, _, rfl, _, rfl, s0, t, o, l9, _, xs, as, es, rfl, hs9, hv9, by omega, (S9.tp (by simp)).sq, S9.ls (by simp), d1.symm, S9.ev, by omega, by omega, xcar, ecar, fun H10 vg dg l10 ch10 hs10 hv10 dvg badg szg rpg => ?_⟩
      have S10 := (S9.ch ch10 hs10 hv10).dcons dvg
      -- kept
      have rpk : RpA [.list (es.map Ev.dat), dg, db] 5 40000 := (RpA.cons ((rp_evs ecar (by omega)).list) (RpA.cons rpg (RpA.cons rpb .nil))).mono (by decide) (by decide)
      refine ⟨_, _, rfl, _, rfl, _, rfl, _, rfl, by show 3 ≤ sizeLine; decide, fun q1 nq1 => ?_⟩
      have S11 := S10.nlst (xs := [.ref o, vg, vb]) nq1
      have kdv : ∀ {H' : Hp} {n : Nat} {Θ U : List (Addr × List V)} {q : Addr}, StE K Ps a s0 ns as es n [(vg, dg), (vn, dn), (vb, db)] [(pg, Z), (t, xs)] Θ U H' → (q, [.ref o, vg, vb]) ∈ Θ → (o, as.map V.ref) ∈ Θ → Dv K H' (.ref q) (.list [.list (es.map Ev.dat), dg, db]) := fun {H' n Θ U q} S h1 h2 =>
        .lst (SqL.of (S.ls h1)) (.cons (evs_dv (S.ls h2) S.ev ecar) (.cons (S.full (by simp)) (.cons (S.full (by simp)) .nil)))
      refine ⟨q1, _, 5, 40000, rfl, kdv S11 (by simp) (by simp), rpk, by decide, by decide, ?_⟩
      generalize upd H10 q1 _ = H11 at S11 ⊢
      -- asks
      refine ⟨_, rfl, _, rfl, _, rfl, by show 4 ≤ sizeLine; decide, fun u1 nu1 => ?_⟩
      have S12 := S11.ntup (xs := [.ref t, .ref o, .ref pg, .str "none"]) nu1
      generalize upd H11 u1 _ = H12 at S12 ⊢
      refine ⟨_, rfl, _, rfl, _, rfl, _, rfl, by show 4 ≤ sizeLine; decide, fun u2 nu2 => ?_⟩
      have S13 := S12.ntup (xs := [.ref t, .ref o, vb, .str wd]) nu2
      generalize upd H12 u2 _ = H13 at S13 ⊢
      refine ⟨_, rfl, _, rfl, _, rfl, by show 4 ≤ sizeLine; decide, fun u3 nu3 => ?_⟩
      have S14 := S13.ntup (xs := [.ref t, vg, .ref pg, .str "log"]) nu3
      generalize upd H13 u3 _ = H14 at S14 ⊢
      refine ⟨by show 3 ≤ sizeLine; decide, fun q2 nq2 => ?_⟩
      have S15 := S14.nlst (xs := [.ref u1, .ref u2, .ref u3]) nq2
      generalize upd H14 q2 _ = H15 at S15 ⊢
      refine ⟨_, rfl, _, rfl, _, rfl, _, rfl, by show 4 ≤ sizeLine; decide, fun u4 nu4 => ?_⟩
      have S16 := S15.ntup (xs := [.ref t, vg, vb, .str "log"]) nu4
      generalize upd H15 u4 _ = H16 at S16 ⊢
      refine ⟨_, rfl, _, rfl, _, rfl, by show 4 ≤ sizeLine; decide, fun u5 nu5 => ?_⟩
      have S17 := S16.ntup (xs := [vn, .ref o, .ref pg, .str "lane"]) nu5
      generalize upd H16 u5 _ = H17 at S17 ⊢
      refine ⟨_, rfl, _, rfl, _, rfl, by show 4 ≤ sizeLine; decide, fun u6 nu6 => ?_⟩
      have S18 := S17.ntup (xs := [vn, vg, vb, .str "lane"]) nu6
      generalize upd H17 u6 _ = H18 at S18 ⊢
      refine ⟨by show 3 ≤ sizeLine; decide, fun q3 nq3 => ?_⟩
      have S19 := S18.nlst (xs := [.ref u4, .ref u5, .ref u6]) nq3
      generalize upd H18 q3 _ = H19 at S19 ⊢
      refine ⟨q2, q3, _, _, rfl, rfl, S19.ls (p := q2) (xs := [.ref u1, .ref u2, .ref u3]) (by simp), S19.ls List.mem_cons_self, by show 6 ≤ sizeLine; decide, fun q4 nq4 => ?_⟩
      have S20 := (S19.nlst (xs := [.ref u1, .ref u2, .ref u3] ++ [.ref u4, .ref u5, .ref u6]) nq4).mono (Γ' := [(vg, dg), (vn, dn), (vb, db)]) (T' := [(pg, Z), (t, xs)]) (Θ' := [(q4, [.ref u1, .ref u2, .ref u3, .ref u4, .ref u5, .ref u6]), (o, as.map V.ref)]) (by simp) (by simp) (by simp) (fun _ h => h)
      generalize upd H19 q4 _ = H20 at S20 ⊢
      -- door
      obtain ⟨l20, hs20, hv20⟩ := S20.src
      refine ⟨_, rfl, s0, l20, _, 3, rfl, hs20, hv20, by omega, by decide, by decide, fun l21 r21 hv21 h0 h2 => ?_⟩
      have S21 := S20.draw hv21
      generalize upd H20 s0 (.lst l21) = H21 at S21 ⊢
      obtain ⟨door, rfl⟩ : ∃ door : Nat, r21 = (door : Int) := ⟨r21.toNat, by omega⟩
      have hdoor : door < 3 := by omega
      have kn1 : ("InvalidLane" : Str) ∈ kindNs := by decide +kernel
      have kn2 : ("InvalidLog" : Str) ∈ kindNs := by decide +kernel
      have kn3 : ("InvalidCars" : Str) ∈ kindNs := by decide +kernel
      have kn4 : ("UnknownCar" : Str) ∈ kindNs := by decide +kernel
      have w3 : kindW "InvalidCars" = "cars" := by decide +kernel
      have w4 : kindW "UnknownCar" = "car" := by decide +kernel
      have w1 : kindW "InvalidLane" = "lane" := by decide +kernel
      have w2 : kindW "InvalidLog" = "log" := by decide +kernel
      -- what is due
      have turn : ∀ {H' : Hp} {n : Nat}, StE K Ps a s0 ns as es n [(vg, dg), (vn, dn), (vb, db)] [(pg, Z), (t, xs)] [(q4, [.ref u1, .ref u2, .ref u3, .ref u4, .ref u5, .ref u6]), (o, as.map V.ref)] [(u6, [vn, vg, vb, .str "lane"]), (u5, [vn, .ref o, .ref pg, .str "lane"]), (u4, [.ref t, vg, vb, .str "log"]), (u3, [.ref t, vg, .ref pg, .str "log"]), (u2, [.ref t, .ref o, vb, .str wd]), (u1, [.ref t, .ref o, .ref pg, .str "none"])] H' →
          ∀ (j : Nat) (x : V), ([.ref u1, .ref u2, .ref u3, .ref u4, .ref u5, .ref u6] : List V)[j]? = some x → ∃ (u : Addr) (f d g : V) (told : Str), x = .ref u ∧ (u, [f, d, g, .str told]) ∈ [(u6, [vn, vg, vb, .str "lane"]), (u5, [vn, .ref o, .ref pg, .str "lane"]), (u4, [.ref t, vg, vb, .str "log"]), (u3, [.ref t, vg, .ref pg, .str "log"]), (u2, [.ref t, .ref o, vb, .str wd]), (u1, [.ref t, .ref o, .ref pg, .str "none"])] ∧
            ((GoodA K Ps [f, d, g] H' ∧ told = "none") ∨ ∃ C x, BadC K Ps CL CG CC CU [f, d, g] H' C ∧ x ∈ kindNs ∧ Er K mg CB x C ∧ told = kindW x) := by
        intro H' n S
        have hO := S.ls (p := o) (xs := as.map V.ref) (by simp)
        have xsB : laneB xs = true := G.laneB
        have esB : logB xs xs.length es = true := G.logB
        have gB : laneB Z = true := by
          unfold laneB
          rw [Bool.and_eq_true]
          exact ⟨List.all_eq_true.mpr Zcar, decide_eq_true Znd⟩
        have tT := S.tp (p := t) (L := xs) (by simp)
        have tG := S.tp (p := pg) (L := Z) (by simp)
        have dvT := tup_dv (K := K) tT xcar
        have dvG := tup_dv (K := K) tG Zcar
        have dvO := evs_dv (K := K) hO S.ev ecar
        have szT : SzA (.tuple (xs.map PyData.str)) := sz_tupL (by rw [List.length_map]; omega)
        have szG : SzA (.tuple (Z.map PyData.str)) := sz_tupL (by rw [List.length_map]; omega)
        have szO : SzA (.list (es.map Ev.dat)) := sz_lst (by rw [List.length_map]; omega)
        have fb : Dv K H' vb db := S.full (by simp)
        have fn : Dv K H' vn dn := S.full (by simp)
        have fg : Dv K H' vg dg := S.full (by simp)
        have r1 : reqLogO CL CG (.tuple (xs.map PyData.str)) (.list (es.map Ev.dat)) = none := by
          unfold reqLogO
          rw [laneO_strs xsB]
          exact if_pos (logD_evs esB)
        have r2 : reqLogO CL CG (.tuple (xs.map PyData.str)) dg = some CG := by
          unfold reqLogO
          rw [laneO_strs xsB]
          exact if_neg (by rw [badg]; exact Bool.false_ne_true)
        have r3 : ∀ e, reqLogO CL CG dn e = some CL := fun e => by
          unfold reqLogO
          rw [laneO_no badn]
        intro j x hx
        match j, hx with
        | 0, hx =>
          cases hx
          exact ⟨u1, _, _, _, _, rfl, by simp, .inl ⟨⟨t, o, pg, xs, as, es, Z, rfl, G.startAt tT, xsB, G.logAt hO S.ev, esB, ⟨tG.sq, by omega, fun x hx => car_sz (Zcar x hx)⟩, gB, Zk, S.tabs⟩, rfl⟩⟩
        | 1, hx =>
          cases hx
          refine ⟨u2, .ref t, .ref o, vb, wd, rfl, by simp, .inr ?_⟩
          rcases badb with ⟨hw, h1, _⟩ | ⟨hw, ⟨S', h1, h2, h3⟩, _⟩
          · exact ⟨CC, _, ⟨_, _, _, _, _, _, rfl, dvT, dvO, fb, szT, szO, szb, S.tabs, .inr (.inl ⟨r1, h1, rfl⟩)⟩, kn3, eC, by rw [hw, w3]⟩
          · exact ⟨CU, _, ⟨_, _, _, _, _, _, rfl, dvT, dvO, fb, szT, szO, szb, S.tabs, .inr (.inr ⟨xs, es, S', rfl, rfl, h1, xsB, esB, h2, by omega, ⟨"yy", h3, by rw [hFe]; exact hyy⟩, rfl⟩)⟩, kn4, eU, by rw [hw, w4]⟩
        | 2, hx =>
          cases hx
          exact ⟨u3, _, _, _, _, rfl, by simp, .inr ⟨CG, _, ⟨_, _, _, _, _, _, rfl, dvT, fg, dvG, szT, szg, szG, S.tabs, .inl r2⟩, kn2, eG, w2.symm⟩⟩
        | 3, hx =>
          cases hx
          exact ⟨u4, _, _, _, _, rfl, by simp, .inr ⟨CG, _, ⟨_, _, _, _, _, _, rfl, dvT, fg, fb, szT, szg, szb, S.tabs, .inl r2⟩, kn2, eG, w2.symm⟩⟩
        | 4, hx =>
          cases hx
          exact ⟨u5, _, _, _, _, rfl, by simp, .inr ⟨CL, _, ⟨_, _, _, _, _, _, rfl, fn, dvO, dvG, szn, szO, szG, S.tabs, .inl (r3 _)⟩, kn1, eL, w1.symm⟩⟩
        | 5, hx =>
          cases hx
          exact ⟨u6, _, _, _, _, rfl, by simp, .inr ⟨CL, _, ⟨_, _, _, _, _, _, rfl, fn, fg, fb, szn, szg, szb, S.tabs, .inl (r3 _)⟩, kn1, eL, w1.symm⟩⟩
        | j + 6, hx => cases hx
      -- the calls
      generalize hU : [(u6, [vn, vg, vb, .str "lane"]), (u5, [vn, .ref o, .ref pg, .str "lane"]), (u4, [.ref t, vg, vb, .str "log"]), (u3, [.ref t, vg, .ref pg, .str "log"]), (u2, [.ref t, .ref o, vb, .str wd]), (u1, [.ref t, .ref o, .ref pg, .str "none"])] = U at S21 turn
      refine ⟨_, rfl, q4, rfl, ⟨_, SqL.of (S21.ls List.mem_cons_self)⟩, for_list (K := K) (a := q4) (xs := [.ref u1, .ref u2, .ref u3, .ref u4, .ref u5, .ref u6]) (fun j σ H' => ∃ (w1 w14 w15 w16 w17 w18 w19 : Option V) (n : Nat), σ = [some (.ref a), w1, some (.ref s0), some (.ref t), some (.ref o), some (.ref fk), some (.ref pg), some vb, some (.str wd), some vn, some vg, some (.str (PyData.shown (.list [.list (es.map Ev.dat), dg, db]))), some (.ref q4), some (.int (door : Nat)), w14, w15, w16, w17, w18, w19] ∧
        StE K Ps a s0 ns as es n [(vg, dg), (vn, dn), (vb, db)] [(pg, Z), (t, xs)] [(q4, [.ref u1, .ref u2, .ref u3, .ref u4, .ref u5, .ref u6]), (o, as.map V.ref)] U H' ∧ n ≤ 1000 + j) ?_ ?_ ?_ ?_⟩
      · exact ⟨_, _, _, _, _, _, _, _, rfl, S21, by omega⟩
      · rintro j σ H' _ ⟨_, _, _, _, _, _, _, _, _, S, _⟩
        exact SqL.of (S.ls List.mem_cons_self)
      · rintro j x σ H30 hj ⟨w1', w14, w15, w16, w17, w18, w19, n, rfl, S30, hn⟩
        have hj6 : j < 6 := (List.getElem?_eq_some_iff.mp hj).1
        obtain ⟨u, fr, di, th, told, rfl, hu30, _⟩ := turn S30 j x hj
        refine ⟨u, _, rfl, SqT.of (S30.us hu30), rfl, _, _, rfl, _, _, rfl, _, _, rfl, _, _, rfl, rfl, ?_⟩
        -- by place or by name
        obtain ⟨l30, hs30, hv30⟩ := S30.src
        refine ⟨_, rfl, s0, l30, n, 2, rfl, hs30, hv30, by omega, by decide, by decide, fun l31 r31 hv31 h0 h2 => ⟨rfl, ?_⟩⟩
        have S31 := S30.draw hv31
        generalize upd H30 s0 (.lst l31) = H31 at S31 ⊢
        obtain ⟨u', fr', di', th', told', e', hu31, due⟩ := turn S31 j _ hj
        cases e'
        have e2 := (S31.us hu30).symm.trans (S31.us hu31)
        cases e2
        have key : ∀ {Qx : VK}, (∀ H', Kp Ps H31 H' → Qx (.str told) H') → AskQ K mg Ps CL CG CC CU CB [fr, di, th] H31 Qx := fun {Qx} hq => by
          rcases due with ⟨gd, e⟩ | ⟨C, x, bd, hx, er, e⟩
          · exact .inl ⟨gd, by rw [← e]; exact hq⟩
          · exact .inr ⟨C, x, bd, hx, er, by rw [← e]; exact hq⟩
        refine ⟨_, rfl, _, rfl, _, rfl, _, rfl, _, rfl, door, fr, di, th, _, rfl, hdoor, S31.tabs, key fun H32 k32 => ⟨_, rfl, rfl, _, rfl, ?_⟩⟩
        have S32 := S31.kp k32
        rw [decide_eq_true (rfl : V.str told = V.str told)]
        refine iteF ⟨_, rfl, _, rfl, _, rfl, by show 3 ≤ sizeLine; decide, fun q5 nq5 => ?_⟩
        have S33 := S32.nlst (xs := [.ref o, vg, vb]) nq5
        refine ⟨q5, _, 5, 40000, rfl, kdv S33 (by simp) (by simp), rpk, by decide, by decide, _, rfl, rfl, _, rfl, ?_⟩
        rw [decide_eq_true rfl]
        exact iteF ⟨_, _, _, _, _, _, _, _, rfl, S33.mono (fun _ h => h) (fun _ h => h) (fun _ h => List.mem_cons_of_mem _ h) (fun _ h => h), by omega⟩
      · rintro σ H30 ⟨w1', w14, w15, w16, w17, w18, w19, n, rfl, S30, hn⟩
        exact ⟨_, _, _, _, _, _, _, _, _, _, _, _, _, _, _, _, _, _, _, rfl, S30.scr, S30.tabs⟩
    · rintro σ Ha ⟨_, _, _, _, _, _, _, _, _, _, _, _, _, _, _, _, _, _, _, rfl, _, _⟩
      exact q Ha
end
end Ln


set_option Elab.async false
set_option linter.all false
set_option maxRecDepth 100000
set_option maxHeartbeats 2000000
namespace Ln
open PySem PySem.Spec PyProof.Rows L2 GxR LamX
/-! ### the law's call -/
/-- what is tracked as the law is called: the tables, and the script where the heap's written part has it not -/
def topH (K : PySem.W.Frag) (cs : List (Addr × Addr)) (a : Addr) (vs : List Value) (ns : List Int) : Hp := fun b =>
  if b ∈ cs.map (·.2) then some (.tbl #[]) else if b = a ∧ K.lookup a = none then some (.frz { cls := .type "list", data := .seq vs.toArray } (.lst (ns.map V.int))) else none
section
variable {P : Program} {w : World} {K : PySem.W.Frag} {cs : List (Addr × Addr)} {a b : Addr} {vs : List Value} {ns : List Int} {h : Heap} {o : HO}
theorem topH_of (e : topH K cs a vs ns b = some o) : (b ∈ cs.map (·.2) ∧ o = .tbl #[]) ∨ (b = a ∧ K.lookup a = none ∧ o = .frz { cls := .type "list", data := .seq vs.toArray } (.lst (ns.map V.int))) := by
  unfold topH at e
  by_cases q : b ∈ cs.map (·.2)
  · rw [if_pos q] at e
    exact .inl ⟨q, (Option.some.inj e).symm⟩
  · rw [if_neg q] at e
    by_cases r : b = a ∧ K.lookup a = none
    · rw [if_pos r] at e
      exact .inr ⟨r.1, r.2, (Option.some.inj e).symm⟩
    · rw [if_neg r] at e
      cases e
theorem topH_tab {p : Addr × Addr} (hp : p ∈ cs) : topH K cs a vs ns p.2 = some (.tbl #[]) := by
  unfold topH
  exact if_pos (List.mem_map.mpr ⟨p, hp, rfl⟩)
theorem tab_at (hT : ∀ p ∈ cs, h.get? p.2 = some { cls := .none, data := .fields #[] }) (hb : b ∈ cs.map (·.2)) : h.get? b = some { cls := .none, data := .fields #[] } := by
  obtain ⟨p, hp, rfl⟩ := List.mem_map.mp hb
  exact hT p hp
theorem scr_tab (hT : ∀ p ∈ cs, h.get? p.2 = some { cls := .none, data := .fields #[] }) (ha : h.get? a = some { cls := .type "list", data := .seq vs.toArray }) : a ∉ cs.map (·.2) := fun q => by
  have := tab_at hT q
  rw [ha] at this
  have := congrArg Obj.data (Option.some.inj this)
  cases this
theorem topH_sq (hT : ∀ p ∈ cs, h.get? p.2 = some { cls := .none, data := .fields #[] }) (ha : h.get? a = some { cls := .type "list", data := .seq vs.toArray }) (KX : K.In h) (hi : IntsAre vs ns) (hl : ns.length ≤ sizeLine) : SqL K (topH K cs a vs ns) a (ns.map V.int) := by
  cases hk : K.lookup a with
  | none =>
    refine .inl (.inr ⟨{ cls := .type "list", data := .seq vs.toArray }, ?_⟩)
    unfold topH
    rw [if_neg (scr_tab hT ha), if_pos ⟨rfl, hk⟩]
  | some ob =>
    have e := KX a ob hk
    rw [ha] at e
    obtain rfl := Option.some.inj e
    exact .inr ⟨_, vs.toArray, _, hk, rfl, rfl, rfl, by rw [List.size_toArray, hi.length]; exact hl, by simpa using vals_ints hi⟩
theorem topH_ok (hT : ∀ p ∈ cs, h.get? p.2 = some { cls := .none, data := .fields #[] }) (ha : h.get? a = some { cls := .type "list", data := .seq vs.toArray }) (hi : IntsAre vs ns) (hl : ns.length ≤ sizeLine) : HOk P w (topH K cs a vs ns) h := fun b o e => by
  rcases topH_of e with ⟨q, rfl⟩ | ⟨rfl, _, rfl⟩
  · exact tab_at hT q
  · exact ⟨ha, by rw [List.length_map]; exact hl, vs, _, vals_ints hi, ha⟩
/-- an object that is no list and no table is not tracked -/
theorem topH_non (hT : ∀ p ∈ cs, h.get? p.2 = some { cls := .none, data := .fields #[] }) (ha : h.get? a = some { cls := .type "list", data := .seq vs.toArray }) {ob : Obj} (e : h.get? b = some ob) (h1 : ∀ us n, ob.data ≠ .seq us n) (h2 : ob.data ≠ .fields #[]) : topH K cs a vs ns b = none := by
  cases q : topH K cs a vs ns b with
  | none => rfl
  | some u =>
    rcases topH_of q with ⟨z, _⟩ | ⟨rfl, _, _⟩
    · rw [tab_at hT z] at e
      exact absurd (congrArg Obj.data (Option.some.inj e)).symm h2
    · rw [ha] at e
      exact absurd (congrArg Obj.data (Option.some.inj e)).symm (h1 _ _)
theorem topH_K (hT : ∀ p ∈ cs, h.get? p.2 = some { cls := .none, data := .fields #[] }) (nT : ∀ p ∈ cs, K.lookup p.2 = none) {ob : Obj} (e : K.lookup b = some ob) : topH K cs a vs ns b = none := by
  cases q : topH K cs a vs ns b with
  | none => rfl
  | some u =>
    rcases topH_of q with ⟨z, _⟩ | ⟨rfl, z, _⟩
    · obtain ⟨p, hp, rfl⟩ := List.mem_map.mp z
      rw [nT p hp] at e
      cases e
    · rw [z] at e
      cases e
theorem Ns.top (hT : ∀ p ∈ cs, h.get? p.2 = some { cls := .none, data := .fields #[] }) (ha : h.get? a = some { cls := .type "list", data := .seq vs.toArray }) {d : Addr} {m : Str → Option Value} (e : h.Ns d m) : (hidT h (topH K cs a vs ns)).Ns d m := by
  obtain ⟨ob, es, ep, e1, e2, r⟩ := e
  exact ⟨ob, es, ep, hidT_get e1 (topH_non hT ha e1 (fun us n z => by rw [e2] at z; cases z) fun z => by rw [e2] at z; cases z), e2, r⟩
end
/-- the law is called on a script, nothing being shown -/
theorem law_callG {P : Program} {w : World} {K : PySem.W.Frag} {mg mb : Str → Option Value} {k : Nat} {fa a : Addr} {cs : List (Addr × Addr)} {fd : FuncData} {x : Str} {sp : Sp} {s : Shared} {vs : List Value} {ns : List Int} (KX : K.In s.heap) (hns : s.heap.Ns mainGlobals mg) (hb : s.heap.Ns builtinsNs mb) (hbb : ∀ x : Str, x ≠ "__name__" → mb x = bootBuiltins x) (hlim : s.heap.NoLimit) (hg : s.gens = #[])
    (hT : ∀ p ∈ cs, s.heap.get? p.2 = some { cls := .none, data := .fields #[] }) (nT : ∀ p ∈ cs, K.lookup p.2 = none) (C : ∀ p ∈ cs, PySem.W.CodeHd s.heap p.1 p.2)
    (hbm : ∃ (bm : Addr) (ob : Obj), mg "__builtins__" = some (.ref bm) ∧ bm ≠ builtinsNs ∧ s.heap.get? bm = some ob ∧ ob.cls = .type "module" ∧ ob.dict = some builtinsNs ∧ ob.data = .plain)
    (ha : s.heap.get? a = some { cls := .type "list", data := .seq vs.toArray }) (hi : IntsAre vs ns) (hl : ns.length ≤ sizeLine) (hr : Room k callerA)
    (F : ∀ base : Heap, K.In base → base.Ns mainGlobals mg → (∀ p ∈ cs, GxR.TabB base mg p.1 p.2) → FnG P w K mg base k fa fd [x] sp) (hbind : ∀ (s : Shared) (u : Value), BindsTo s fd ⟨[u], []⟩ [(x, u)])
    (hsp : ∀ H : Hp, (∀ p ∈ cs, H p.2 = some (.tbl #[])) → SqL K H a (ns.map V.int) → sp [.ref a] H (fun v _ => v = .bl true) E0) :
    codeAny (model P w) callerA (.call (.ref fa) ⟨[.ref a], []⟩) (fun r s' => r = .ok (.ret (.bool true)) ∧ OldK s.heap s'.heap ∧ s'.os = s.os ∧ AllBare s'.gens) s := by
  have hH : ∀ p ∈ cs, topH K cs a vs ns p.2 = some (.tbl #[]) := fun p hp => topH_tab hp
  have hok : HOk P w (topH K cs a vs ns) s.heap := topH_ok hT ha hi hl
  have hKb : K.In (hidT s.heap (topH K cs a vs ns)) := fun b ob e => hidT_get (KX b ob e) (topH_K hT nT e)
  have gG := Ns.top (K := K) (ns := ns) hT ha hns
  have TB : ∀ p ∈ cs, GxR.TabB (hidT s.heap (topH K cs a vs ns)) mg p.1 p.2 := fun p hp => by
    have hTp := hT p hp
    obtain ⟨bm, ob, b1, b2, b3, b4, b5, b6⟩ := hbm
    obtain ⟨og, eg, epg, q1, q2, _⟩ := hns
    refine ⟨?_, ⟨bm, ob, b1, b2, fun z => ?_, fun z => ?_, hidT_get b3 (topH_non hT ha b3 (fun us n z => by rw [b6] at z; cases z) fun z => by rw [b6] at z; cases z), b4, b5, b6⟩, fun z => ?_⟩
    · obtain ⟨o, us, file, tf, flags, tg, inF, text, tt, e1, r1, r2, r3, r⟩ := C p hp
      refine ⟨o, us, file, tf, flags, tg, inF, text, tt, hidT_get e1 (topH_non hT ha e1 (fun us n z => by rw [r2] at z; cases z) fun z => ?_), r1, r2, r3, r⟩
      rw [r2] at z
      cases z
      simp at r3
    · rw [z, q1] at b3
      cases b3
      rw [q2] at b6
      cases b6
    · rw [z, hTp] at b3
      cases b3
      cases b6
    · rw [z, hTp] at q1
      cases q1
      cases q2
  have e0 : Env0 P w K mg (hidT s.heap (topH K cs a vs ns)) callerA [] s (topH K cs a vs ns) :=
    ⟨rfl, ⟨hKb, gG, ⟨mb, Ns.top hT ha hb, hbb⟩, hlim.imp fun mc h1 => ⟨Ns.top hT ha h1.1, h1.2⟩⟩, fun b o e => of_hidT e, Nat.le_of_eq (hidT_size _ _), trivial, fun b hb => absurd (show b ∈ ([] : List Addr) from hb) (by simp), hok, .of_eq hg⟩
  refine codeAny_mono ((F _ hKb gG TB).run callerA [] s (topH K cs a vs ns) ⟨[.ref a], []⟩ [.ref a] [.ref a] _ _ hr rfl e0 (hbind s (.ref a)) (.cons rfl .nil) (hsp _ hH (topH_sq hT ha KX hi hl))) fun r s' h => ?_
  match r, h with
  | .error e, h => exact False.elim h
  | .ok .next, h => exact False.elim h
  | .ok .brk, h => exact False.elim h
  | .ok .cont, h => exact False.elim h
  | .ok (.ret u), ⟨v, H', os, bare, un, hok', r', q⟩ =>
    obtain rfl : v = .bl true := q
    obtain rfl : u = Value.bool true := r'
    have old : ∀ b o, b ∉ cs.map (·.2) → s.heap.get? b = some o → s'.heap.get? b = some o := fun b o nb e => by
      cases q : topH K cs a vs ns b with
      | none => exact un.keep b o e q (fun z => absurd (show b ∈ ([] : List Addr) from z) (by simp)) (by simp)
      | some u =>
        rcases topH_of q with ⟨z, _⟩ | ⟨rfl, _, rfl⟩
        · exact absurd z nb
        · rw [ha] at e
          obtain rfl := Option.some.inj e
          exact (hok' _ _ (un.frzs _ _ _ q)).1
    have tabs : ∀ p ∈ cs, ∃ more : Array Value, s'.heap.get? p.2 = some { cls := .none, data := .fields more } := fun p hp => let ⟨more, z⟩ := un.tbls p.2 #[] (hH p hp); ⟨_, hok' p.2 _ z⟩
    refine ⟨rfl, ⟨fun b o e => ?_, fun b o e => ?_⟩, os, bare⟩
    all_goals by_cases hb : b ∈ cs.map (·.2)
    · obtain ⟨p, hp, rfl⟩ := List.mem_map.mp hb
      obtain ⟨more, hm⟩ := tabs p hp
      obtain rfl := Option.some.inj ((hT p hp).symm.trans e)
      exact .inr (.inl ⟨((C p hp).tab (hT p hp)).isCodeTable, rfl, #[], more, rfl, by rw [Array.empty_append]; exact hm⟩)
    · exact .inl (old b o hb e)
    · obtain ⟨p, hp, rfl⟩ := List.mem_map.mp hb
      obtain ⟨more, hm⟩ := tabs p hp
      exact ⟨_, hm⟩
    · exact ⟨o, old b o hb e⟩
end Ln


set_option Elab.async false
set_option linter.all false
set_option maxRecDepth 100000
set_option maxHeartbeats 2000000
namespace Ln
open PySem PySem.Spec PyProof.Rows L2 GxR LamX
/-! ### what the top has written -/
theorem kbx0 {K : PySem.W.Frag} {x : Str} {st : Stmt} {f : Addr} {fd : FuncData} (F : Fun K x x st f fd)
    (h : ∀ (kV doc pm : Value) (an : Option Addr) (cdv ct u v y : Value), bindArgs (PySem.W.fnOf x x (defArgs st) (defBody st) (defScope st) .none kV doc pm an cdv ct) ⟨[], [("cars", u), ("start", v), ("log", y)]⟩ = (pure [("start", v), ("log", y), ("cars", u)] : Sem (List (Str × Value)))) : KBinds K fd ["start", "log", "cars"] ["cars", "start", "log"] rot3 rot3 := by
  obtain ⟨oc, od, kV, doc, pm, an, cdv, ct, osl, rfl, lk, hcd⟩ := F.ex
  refine ⟨fun s us ws hK hl => ?_, fun {vs us zs ws} r1 r2 => ?_⟩
  · match us, ws, hl with
    | [], [u, v, y], _ => exact .of_eq (h kV doc pm an cdv ct u v y)
  · match r1, r2 with
    | .nil, .nil => exact .nil
    | .nil, .cons _ .nil => exact .nil
    | .nil, .cons a (.cons b .nil) => exact .nil
    | .nil, .cons a (.cons b (.cons c .nil)) => exact .cons b (.cons c (.cons a .nil))
    | .nil, .cons a (.cons b (.cons c (.cons d e))) => exact .nil
    | .cons a b, _ => exact .nil
structure DefR (K : PySem.W.Frag) (x : Str) (st : Stmt) : Prop where
  ex : ∃ (f : Addr) (fd : FuncData), PySem.W.nsIn K mainGlobals x = some (some (.ref f)) ∧ Fun K x x st f fd
structure DefC (K : PySem.W.Frag) (x : Str) (st : Stmt) : Prop where
  ex : ∃ (f c p : Addr) (fd : FuncData), PySem.W.nsIn K mainGlobals x = some (some (.ref f)) ∧ FunC K x x st f fd c ∧ PySem.W.tabIn K x = some (c, p) ∧ K.lookup p = none
theorem def_mk {K : PySem.W.Frag} {x : Str} {st : Stmt} {f : Addr} {oc : Value} {od an : Option Addr} {osl : Array (Option Value)} {kV doc pm cdv ct : Value} (a : PySem.W.nsIn K mainGlobals x = some (some (.ref f)))
    (l : K.lookup f = some ⟨oc, od, .func (PySem.W.fnOf x x (defArgs st) (defBody st) (defScope st) .none kV doc pm an cdv ct), osl⟩) (c : PySem.W.codeIn K cdv x = true) (k : PySem.W.keepIn K (.ref f) = true) : DefR K x st := ⟨⟨_, _, a, fun_mk l c k⟩⟩
theorem defC_mk {K : PySem.W.Frag} {x : Str} {st : Stmt} {f cd p : Addr} {oc o1 : Value} {od an o2 : Option Addr} {osl o3 : Array (Option Value)} {us : Array Value} {kV doc pm ct : Value} (a : PySem.W.nsIn K mainGlobals x = some (some (.ref f)))
    (l : K.lookup f = some ⟨oc, od, .func (PySem.W.fnOf x x (defArgs st) (defBody st) (defScope st) .none kV doc pm an (.ref cd) ct), osl⟩) (c : PySem.W.codeIn K (.ref cd) x = true) (k : PySem.W.keepIn K (.ref f) = true)
    (lc : K.lookup cd = some ⟨o1, o2, .fields us, o3⟩) (hv : us[11]? = some (.ref p)) (hn : K.lookup p = none) : DefC K x st := by
  refine ⟨_, cd, p, _, a, ⟨⟨oc, od, kV, doc, pm, an, ct, osl, rfl, l, c⟩, k⟩, ?_, hn⟩
  unfold PySem.W.tabIn
  rw [a]
  simp only [l, PySem.W.fnOf, lc, hv]
/-- the tables, and the law's own promise -/
structure AllAt (P : Program) (w : World) (K : PySem.W.Frag) (mg : Str → Option Value) (fa : Addr) (cs : List (Addr × Addr)) (fd : FuncData) : Prop where
  bind : ∀ (s : Shared) (u : Value), BindsTo s fd ⟨[u], []⟩ [("script", u)]
  ok : ∀ base : Heap, K.In base → base.Ns mainGlobals mg → (∀ p ∈ cs, GxR.TabB base mg p.1 p.2) → FnG P w K mg base 13 fa fd ["script"] (spLaw K (cs.map (·.2)))
theorem all_mk {P : Program} {w : World} {K : PySem.W.Frag} {h : Heap} {mg : Str → Option Value} {fa : Addr} (X : K.In h) (G : h.Ns mainGlobals mg) (hfa : mg "law" = some (.ref fa))
    (D_is_car : DefC K "is_car" sIsCar)
    (D_is_lane : DefC K "is_lane" sIsLane)
    (D_is_arrival : DefR K "is_arrival" sIsArr)
    (D_is_departure : DefR K "is_departure" sIsDep)
    (D_has_word : DefR K "has_word" sHasW)
    (D_is_log : DefR K "is_log" sIsLog)
    (D_require_lane : DefR K "require_lane" sReqLane)
    (D_require_log : DefR K "require_log" sReqLog)
    (D_sizes : DefR K "sizes" sSizes)
    (D_numbers : DefR K "numbers" sNumbers)
    (D_can_stay : DefR K "can_stay" sCanStay)
    (D_why_cannot_stay : DefR K "why_cannot_stay" sWhyNotStay)
    (D_complete : DefR K "complete" sComplete)
    (D_require_cars : DefR K "require_cars" sReqCars)
    (D_extras : DefR K "extras" sExtras)
    (D_first_negative : DefR K "first_negative" sFirstNeg)
    (D_block_range : DefR K "block_range" sBlockR)
    (D_first_gap : DefR K "first_gap" sFirstGap)
    (D_departures_before_first : DefR K "departures_before_first" sDepB4)
    (D_side_conflict : DefR K "side_conflict" sSideC)
    (D_least_from_here : DefR K "least_from_here" sLeast)
    (D_list_arrivals : DefR K "list_arrivals" sListArr)
    (D_list_blocks : DefR K "list_blocks" sListBlk)
    (D_choose_arrivals : DefR K "choose_arrivals" sChoose)
    (D_law_cell_at : DefR K "_law_cell_at" sCell)
    (D_law_bag : DefR K "_law_bag" sBag)
    (D_law_take : DefR K "_law_take" sTake)
    (D_law_names : DefR K "_law_names" sNames)
    (D_law_built : DefR K "_law_built" sBuilt)
    (D_law_folk : DefR K "_law_folk" sFolk)
    (D_law_kind : DefR K "_law_kind" sKind)
    (D_law_no_lane : DefR K "_law_no_lane" sNoLane)
    (D_law_no_log : DefR K "_law_no_log" sNoLog)
    (D_law_no_cars : DefR K "_law_no_cars" sNoCars)
    (D_law_asked : DefR K "_law_asked" sAsked)
    (D_law : DefR K "law" sLaw)
    (z_isinstance : PySem.W.nsIn K mainGlobals "isinstance" = some none)
    (z_len : PySem.W.nsIn K mainGlobals "len" = some none)
    (z_all : PySem.W.nsIn K mainGlobals "all" = some none)
    (z_str : PySem.W.nsIn K mainGlobals "str" = some none)
    (z_tuple : PySem.W.nsIn K mainGlobals "tuple" = some none)
    (z_list : PySem.W.nsIn K mainGlobals "list" = some none)
    (z_set : PySem.W.nsIn K mainGlobals "set" = some none)
    (z_zip : PySem.W.nsIn K mainGlobals "zip" = some none)
    (z_max : PySem.W.nsIn K mainGlobals "max" = some none)
    (z_min : PySem.W.nsIn K mainGlobals "min" = some none)
    (z_abs : PySem.W.nsIn K mainGlobals "abs" = some none)
    (z_range : PySem.W.nsIn K mainGlobals "range" = some none)
    (z_repr : PySem.W.nsIn K mainGlobals "repr" = some none)
    (z_enumerate : PySem.W.nsIn K mainGlobals "enumerate" = some none)
    (z_sorted : PySem.W.nsIn K mainGlobals "sorted" = some none)
    (z_bool : PySem.W.nsIn K mainGlobals "bool" = some none)
    (z_dict : PySem.W.nsIn K mainGlobals "dict" = some none)
    (z_ValueError : PySem.W.nsIn K mainGlobals "ValueError" = some none)
    (z_er : erOk K ["InvalidLane", "InvalidLog", "InvalidCars", "UnknownCar"] = true)
    : ∃ (c1 p1 c2 p2 : Addr) (fd : FuncData), PySem.W.tabIn K "is_car" = some (c1, p1) ∧ PySem.W.tabIn K "is_lane" = some (c2, p2) ∧ K.lookup p1 = none ∧ K.lookup p2 = none ∧ 
      AllAt P w K mg fa [(c1, p1), (c2, p2)] fd := by
  have nn : ∀ {x : Str}, PySem.W.nsIn K mainGlobals x = some none → mg x = none := fun e => PySem.W.mg_none_of X G e
  have B : Bi mg := ⟨nn z_isinstance, nn z_len, nn z_all, nn z_str, nn z_tuple, nn z_list, nn z_set, nn z_zip⟩
  have B2 : Bl mg := ⟨nn z_max, nn z_min, nn z_abs, nn z_range, nn z_repr⟩
  have B3 : Bn mg := ⟨nn z_enumerate, nn z_range⟩
  obtain ⟨CB, ers⟩ := ers_of X G z_er
  have ernm := ers_names (x := "InvalidLane") X G (by decide +kernel) z_er
  obtain ⟨C_InvalidLane, er_InvalidLane⟩ := ers.all "InvalidLane" (by decide +kernel)
  obtain ⟨C_InvalidLog, er_InvalidLog⟩ := ers.all "InvalidLog" (by decide +kernel)
  obtain ⟨C_InvalidCars, er_InvalidCars⟩ := ers.all "InvalidCars" (by decide +kernel)
  obtain ⟨C_UnknownCar, er_UnknownCar⟩ := ers.all "UnknownCar" (by decide +kernel)
  obtain ⟨f0, c1, p1, fd0, a0, F0, t1, n1⟩ := D_is_car.ex
  have m0 := PySem.W.mg_of X G a0
  obtain ⟨f1, c2, p2, fd1, a1, F1, t2, n2⟩ := D_is_lane.ex
  have m1 := PySem.W.mg_of X G a1
  obtain ⟨f2, fd2, a2, F2⟩ := D_is_arrival.ex
  have m2 := PySem.W.mg_of X G a2
  obtain ⟨f3, fd3, a3, F3⟩ := D_is_departure.ex
  have m3 := PySem.W.mg_of X G a3
  obtain ⟨f4, fd4, a4, F4⟩ := D_has_word.ex
  have m4 := PySem.W.mg_of X G a4
  obtain ⟨f5, fd5, a5, F5⟩ := D_is_log.ex
  have m5 := PySem.W.mg_of X G a5
  obtain ⟨f6, fd6, a6, F6⟩ := D_require_lane.ex
  have m6 := PySem.W.mg_of X G a6
  obtain ⟨f7, fd7, a7, F7⟩ := D_require_log.ex
  have m7 := PySem.W.mg_of X G a7
  obtain ⟨f8, fd8, a8, F8⟩ := D_sizes.ex
  have m8 := PySem.W.mg_of X G a8
  obtain ⟨f9, fd9, a9, F9⟩ := D_numbers.ex
  have m9 := PySem.W.mg_of X G a9
  obtain ⟨f10, fd10, a10, F10⟩ := D_can_stay.ex
  have m10 := PySem.W.mg_of X G a10
  obtain ⟨f11, fd11, a11, F11⟩ := D_why_cannot_stay.ex
  have m11 := PySem.W.mg_of X G a11
  obtain ⟨f12, fd12, a12, F12⟩ := D_complete.ex
  have m12 := PySem.W.mg_of X G a12
  obtain ⟨f13, fd13, a13, F13⟩ := D_require_cars.ex
  have m13 := PySem.W.mg_of X G a13
  obtain ⟨f14, fd14, a14, F14⟩ := D_extras.ex
  have m14 := PySem.W.mg_of X G a14
  obtain ⟨f15, fd15, a15, F15⟩ := D_first_negative.ex
  have m15 := PySem.W.mg_of X G a15
  obtain ⟨f16, fd16, a16, F16⟩ := D_block_range.ex
  have m16 := PySem.W.mg_of X G a16
  obtain ⟨f17, fd17, a17, F17⟩ := D_first_gap.ex
  have m17 := PySem.W.mg_of X G a17
  obtain ⟨f18, fd18, a18, F18⟩ := D_departures_before_first.ex
  have m18 := PySem.W.mg_of X G a18
  obtain ⟨f19, fd19, a19, F19⟩ := D_side_conflict.ex
  have m19 := PySem.W.mg_of X G a19
  obtain ⟨f20, fd20, a20, F20⟩ := D_least_from_here.ex
  have m20 := PySem.W.mg_of X G a20
  obtain ⟨f21, fd21, a21, F21⟩ := D_list_arrivals.ex
  have m21 := PySem.W.mg_of X G a21
  obtain ⟨f22, fd22, a22, F22⟩ := D_list_blocks.ex
  have m22 := PySem.W.mg_of X G a22
  obtain ⟨f23, fd23, a23, F23⟩ := D_choose_arrivals.ex
  have m23 := PySem.W.mg_of X G a23
  obtain ⟨f24, fd24, a24, F24⟩ := D_law_cell_at.ex
  have m24 := PySem.W.mg_of X G a24
  obtain ⟨f25, fd25, a25, F25⟩ := D_law_bag.ex
  have m25 := PySem.W.mg_of X G a25
  obtain ⟨f26, fd26, a26, F26⟩ := D_law_take.ex
  have m26 := PySem.W.mg_of X G a26
  obtain ⟨f27, fd27, a27, F27⟩ := D_law_names.ex
  have m27 := PySem.W.mg_of X G a27
  obtain ⟨f28, fd28, a28, F28⟩ := D_law_built.ex
  have m28 := PySem.W.mg_of X G a28
  obtain ⟨f29, fd29, a29, F29⟩ := D_law_folk.ex
  have m29 := PySem.W.mg_of X G a29
  obtain ⟨f30, fd30, a30, F30⟩ := D_law_kind.ex
  have m30 := PySem.W.mg_of X G a30
  obtain ⟨f31, fd31, a31, F31⟩ := D_law_no_lane.ex
  have m31 := PySem.W.mg_of X G a31
  obtain ⟨f32, fd32, a32, F32⟩ := D_law_no_log.ex
  have m32 := PySem.W.mg_of X G a32
  obtain ⟨f33, fd33, a33, F33⟩ := D_law_no_cars.ex
  have m33 := PySem.W.mg_of X G a33
  obtain ⟨f34, fd34, a34, F34⟩ := D_law_asked.ex
  have m34 := PySem.W.mg_of X G a34
  obtain ⟨f35, fd35, a35, F35⟩ := D_law.ex
  have m35 := PySem.W.mg_of X G a35
  have b0 : Binds K fd0 ["value"] [] := F0.fn.binds fun _ _ _ _ _ _ us hl => match us, hl with | [_], _ => rfl
  have b1 : Binds K fd1 ["value"] [] := F1.fn.binds fun _ _ _ _ _ _ us hl => match us, hl with | [_], _ => rfl
  have b2 : Binds K fd2 ["value"] [] := F2.binds fun _ _ _ _ _ _ us hl => match us, hl with | [_], _ => rfl
  have b3 : Binds K fd3 ["value"] [] := F3.binds fun _ _ _ _ _ _ us hl => match us, hl with | [_], _ => rfl
  have b4 : Binds K fd4 ["value", "word", "length"] [] := F4.binds fun _ _ _ _ _ _ us hl => match us, hl with | [_, _, _], _ => rfl
  have b5 : Binds K fd5 ["start", "value"] [] := F5.binds fun _ _ _ _ _ _ us hl => match us, hl with | [_, _], _ => rfl
  have b6 : Binds K fd6 ["value"] [] := F6.binds fun _ _ _ _ _ _ us hl => match us, hl with | [_], _ => rfl
  have b7 : Binds K fd7 ["start", "log"] [] := F7.binds fun _ _ _ _ _ _ us hl => match us, hl with | [_, _], _ => rfl
  have b8 : Binds K fd8 ["start", "log"] [] := F8.binds fun _ _ _ _ _ _ us hl => match us, hl with | [_, _], _ => rfl
  have b9 : Binds K fd9 ["start", "log"] [] := F9.binds fun _ _ _ _ _ _ us hl => match us, hl with | [_, _], _ => rfl
  have b10 : Binds K fd10 ["start", "log", "cars"] [] := F10.binds fun _ _ _ _ _ _ us hl => match us, hl with | [_, _, _], _ => rfl
  have b11 : Binds K fd11 ["start", "log", "cars"] [] := F11.binds fun _ _ _ _ _ _ us hl => match us, hl with | [_, _, _], _ => rfl
  have b12 : Binds K fd12 ["start", "log", "cars"] [] := F12.binds fun _ _ _ _ _ _ us hl => match us, hl with | [_, _, _], _ => rfl
  have b13 : Binds K fd13 ["start", "log", "cars"] [] := F13.binds fun _ _ _ _ _ _ us hl => match us, hl with | [_, _, _], _ => rfl
  have b14 : Binds K fd14 ["start", "log", "cars"] [] := F14.binds fun _ _ _ _ _ _ us hl => match us, hl with | [_, _, _], _ => rfl
  have b15 : Binds K fd15 ["counts"] [] := F15.binds fun _ _ _ _ _ _ us hl => match us, hl with | [_], _ => rfl
  have b16 : Binds K fd16 ["start", "cars"] [] := F16.binds fun _ _ _ _ _ _ us hl => match us, hl with | [_, _], _ => rfl
  have b17 : Binds K fd17 ["start", "cars"] [] := F17.binds fun _ _ _ _ _ _ us hl => match us, hl with | [_, _], _ => rfl
  have b18 : Binds K fd18 ["log", "cars"] [] := F18.binds fun _ _ _ _ _ _ us hl => match us, hl with | [_, _], _ => rfl
  have b19 : Binds K fd19 ["start", "log", "cars"] [] := F19.binds fun _ _ _ _ _ _ us hl => match us, hl with | [_, _, _], _ => rfl
  have b20 : Binds K fd20 ["counts"] [] := F20.binds fun _ _ _ _ _ _ us hl => match us, hl with | [_], _ => rfl
  have b21 : Binds K fd21 ["log", "given", "room"] [] := F21.binds fun _ _ _ _ _ _ us hl => match us, hl with | [_, _, _], _ => rfl
  have b22 : Binds K fd22 ["start", "cars", "longest"] [] := F22.binds fun _ _ _ _ _ _ us hl => match us, hl with | [_, _, _], _ => rfl
  have b23 : Binds K fd23 ["arrivals", "length", "needed"] [] := F23.binds fun _ _ _ _ _ _ us hl => match us, hl with | [_, _, _], _ => rfl
  have b24 : Binds K fd24 ["script", "k"] [] := F24.binds fun _ _ _ _ _ _ us hl => match us, hl with | [_, _], _ => rfl
  have b25 : Binds K fd25 ["cell", "k"] [] := F25.binds fun _ _ _ _ _ _ us hl => match us, hl with | [_, _], _ => rfl
  have b26 : Binds K fd26 ["bag", "limit"] [] := F26.binds fun _ _ _ _ _ _ us hl => match us, hl with | [_, _], _ => rfl
  have b27 : Binds K fd27 ["bag", "many"] [] := F27.binds fun _ _ _ _ _ _ us hl => match us, hl with | [_, _], _ => rfl
  have b28 : Binds K fd28 ["bag", "widest", "most"] [] := F28.binds fun _ _ _ _ _ _ us hl => match us, hl with | [_, _, _], _ => rfl
  have b29 : Binds K fd29 ["initial", "entries"] [] := F29.binds fun _ _ _ _ _ _ us hl => match us, hl with | [_, _], _ => rfl
  have b30 : Binds K fd30 ["e"] [] := F30.binds fun _ _ _ _ _ _ us hl => match us, hl with | [_], _ => rfl
  have b31 : Binds K fd31 ["bag", "line"] [] := F31.binds fun _ _ _ _ _ _ us hl => match us, hl with | [_, _], _ => rfl
  have b32 : Binds K fd32 ["bag", "initial", "entries"] [] := F32.binds fun _ _ _ _ _ _ us hl => match us, hl with | [_, _, _], _ => rfl
  have b33 : Binds K fd33 ["bag", "some"] [] := F33.binds fun _ _ _ _ _ _ us hl => match us, hl with | [_, _], _ => rfl
  have b34 : Binds K fd34 ["door", "front", "diary", "some", "named"] [] := F34.binds fun _ _ _ _ _ _ us hl => match us, hl with | [_, _, _, _, _], _ => rfl
  obtain rfl : fa = f35 := by
    have e := hfa.symm.trans m35
    cases e
    rfl
  refine ⟨c1, p1, c2, p2, fd35, t1, t2, n1, n2, ?_, fun base Kb Gb TB => ?_⟩
  · obtain ⟨oc, od, kV, doc, pm, an, cdv, ct, osl, rfl, lk, hcd⟩ := F35.ex
    exact fun s u => .of_eq rfl
  have TB1 := TB (c1, p1) List.mem_cons_self
  have TB2 := TB (c2, p2) (List.mem_cons_of_mem _ List.mem_cons_self)
  have h1 : p1 ∈ [p1, p2] := List.mem_cons_self
  have h2 : p2 ∈ [p1, p2] := (List.mem_cons_of_mem _ List.mem_cons_self)
  have G0 : FnOk P w K mg base CX0 2 f0 fd0 ["value"] (spCar [p1, p2]) := ok_car F0 B TB1 h1
  have G1 : FnOk P w K mg base CX0 4 f1 fd1 ["value"] (spLane K [p1, p2]) := ok_lane F1 B TB2 h2 G0 m0 F0.kp b0
  have G4 : FnOk P w K mg base CX0 1 f4 fd4 ["value", "word", "length"] (spHasW K) := ok_hasW F4 B
  have G2 : FnOk P w K mg base CX0 3 f2 fd2 ["value"] (spEv K [p1, p2] arrB) := ok_arr F2 G4 m4 F4.kp b4 G0 m0 F0.kp b0
  have G3 : FnOk P w K mg base CX0 2 f3 fd3 ["value"] (spEv K [p1, p2] depB) := ok_dep F3 G4 m4 F4.kp b4
  have G6 : FnOk P w K mg base CX0 5 f6 fd6 ["value"] (spReqLane K [p1, p2]) := ok_reqLane F6 G1 m1 F1.kp b1
  have G5 : FnOk P w K mg base CX0 6 f5 fd5 ["start", "value"] (spLog K [p1, p2]) := ok_log F5 B G6 m6 F6.kp b6 G2 m2 F2.kp b2 G3 m3 F3.kp b3
  have G7 : FnOk P w K mg base CX0 7 f7 fd7 ["start", "log"] (spReqLog K [p1, p2]) := ok_reqLog F7 G5 m5 F5.kp b5
  have G8 : FnOk P w K mg base CX0 8 f8 fd8 ["start", "log"] (spSizes K [p1, p2]) := ok_sizes F8 B G7 m7 F7.kp b7
  have G9 : FnOk P w K mg base CX0 8 f9 fd9 ["start", "log"] (spNumbers K [p1, p2]) := ok_numbers F9 B G7 m7 F7.kp b7
  have G14 : FnOk P w K mg base CX0 9 f14 fd14 ["start", "log", "cars"] (spExtras K [p1, p2]) := ok_extras F14 B G8 m8 F8.kp b8
  have G15 : FnOk P w K mg base CX0 1 f15 fd15 ["counts"] (spFirstNeg K [p1, p2]) := ok_firstNeg F15 B3
  have G16 : FnOk P w K mg base CX0 1 f16 fd16 ["start", "cars"] (spBlockR K [p1, p2]) := ok_blockR F16 B3
  have G13 : FnOk P w K mg base CX0 9 f13 fd13 ["start", "log", "cars"] (spReqCars K [p1, p2]) := ok_reqCars F13 G7 m7 F7.kp b7 G1 m1 F1.kp b1 G9 m9 F9.kp b9
  have G17 : FnOk P w K mg base CX0 2 f17 fd17 ["start", "cars"] (spFirstGap K [p1, p2]) := ok_firstGap F17 G16 m16 F16.kp b16
  have G18 : FnOk P w K mg base CX0 1 f18 fd18 ["log", "cars"] (spDepB4 K [p1, p2]) := ok_depB4 F18
  have G19 : FnOk P w K mg base CX0 2 f19 fd19 ["start", "log", "cars"] (spSideC K [p1, p2]) := ok_sideC F19 B B2.min G16 m16 F16.kp b16 G18 m18 F18.kp b18
  have G11 : FnOk P w K mg base CX0 10 f11 fd11 ["start", "log", "cars"] (spWhyNS K [p1, p2]) := ok_whyNS F11 B G13 m13 F13.kp b13 G8 m8 F8.kp b8 G15 m15 F15.kp b15 G14 m14 F14.kp b14 G17 m17 F17.kp b17 G19 m19 F19.kp b19
  have G10 : FnOk P w K mg base CX0 11 f10 fd10 ["start", "log", "cars"] (spCanStay K [p1, p2]) := ok_canStay F10 G11 m11 F11.kp b11
  have G24 : FnOk P w K mg base CX0 1 f24 fd24 ["script", "k"] (spCell K) := ok_cell F24 B
  have G25 : FnOk P w K mg base CX0 1 f25 fd25 ["cell", "k"] (spBag) := ok_bag F25 B2
  have G26 : FnOk P w K mg base CX0 1 f26 fd26 ["bag", "limit"] (spTake) := ok_take F26
  have G27 : FnOk P w K mg base CX0 2 f27 fd27 ["bag", "many"] (spNames) := ok_names F27 B B2 G26 m26 F26.kp b26
  have G28 : FnOk P w K mg base CX0 3 f28 fd28 ["bag", "widest", "most"] (spBuilt) := ok_built F28 B B2 G26 m26 F26.kp b26 G27 m27 F27.kp b27
  have G29 : FnOk P w K mg base CX0 1 f29 fd29 ["initial", "entries"] (spFolk K) := ok_folk F29 B
  have G20 : FnOk P w K mg base CX0 1 f20 fd20 ["counts"] (spLeast K) := ok_least F20 B B2
  have G21 : FnOk P w K mg base CX0 1 f21 fd21 ["log", "given", "room"] (spListArr K [p1, p2]) := ok_listArr F21 B3
  have G22 : FnOk P w K mg base CX0 2 f22 fd22 ["start", "cars", "longest"] (spListBlk K [p1, p2]) := ok_listBlk F22 B B2 G16 m16 F16.kp b16
  have G23 : FnOk P w K mg base CX0 1 f23 fd23 ["arrivals", "length", "needed"] (spChoose K) := ok_choose F23
  have G12 : FnOk P w K mg base CX0 10 f12 fd12 ["start", "log", "cars"] (spComplete K [p1, p2]) := ok_complete F12 B B2 G13 m13 F13.kp b13 G8 m8 F8.kp b8 G14 m14 F14.kp b14 G20 m20 F20.kp b20 G21 m21 F21.kp b21 G22 m22 F22.kp b22 G23 m23 F23.kp b23
  have G31 : FnOk P w K mg base CX0 2 f31 fd31 ["bag", "line"] (spNoLane K) := ok_noLane F31 B G26 m26 F26.kp b26
  have G32 : FnOk P w K mg base CX0 2 f32 fd32 ["bag", "initial", "entries"] (spNoLog K) := ok_noLog F32 B G26 m26 F26.kp b26
  have G33 : FnOk P w K mg base CX0 2 f33 fd33 ["bag", "some"] (spNoCars K) := ok_noCars F33 B G26 m26 F26.kp b26
  have G30 : FnOk P w K mg base CX0 1 f30 fd30 ["e"] (spKind K mg CB) := ok_kind F30 B ernm (nn z_ValueError)
  have kb10 : KBinds K fd10 ["start", "log", "cars"] ["cars", "start", "log"] rot3 rot3 := kbx0 F10 fun _ _ _ _ _ _ _ _ _ => rfl
  have kb11 : KBinds K fd11 ["start", "log", "cars"] ["cars", "start", "log"] rot3 rot3 := kbx0 F11 fun _ _ _ _ _ _ _ _ _ => rfl
  have kb12 : KBinds K fd12 ["start", "log", "cars"] ["cars", "start", "log"] rot3 rot3 := kbx0 F12 fun _ _ _ _ _ _ _ _ _ => rfl
  have GcN : FnOk P w K mg base CX0 2 f0 fd0 ["value"] (spCarN K) := ok_carN F0 B TB1 h1
  have GcA : FnOk P w K mg base CX0 2 f0 fd0 ["value"] (spCarA K [p1, p2]) := ok_carA G0 GcN
  have GlN : FnOk P w K mg base CX0 4 f1 fd1 ["value"] (spLaneN K [p1, p2]) := ok_laneN F1 B TB2 h2 GcA m0 F0.kp b0
  have GlA : FnOk P w K mg base CX0 4 f1 fd1 ["value"] (spLaneA K [p1, p2]) := ok_laneA G1 GlN
  have GwA : FnOk P w K mg base CX0 1 f4 fd4 ["value", "word", "length"] (spHasWA K) := ok_hasWA F4 B
  have GaA : FnOk P w K mg base CX0 3 f2 fd2 ["value"] (spEvA K [p1, p2] arrBD) := ok_arrA F2 GwA m4 F4.kp b4 GcA m0 F0.kp b0
  have GdA : FnOk P w K mg base CX0 2 f3 fd3 ["value"] (spEvA K [p1, p2] depBD) := ok_depA F3 GwA m4 F4.kp b4
  have GgA : FnOk P w K mg base CX0 6 f5 fd5 ["start", "value"] (spLogA K [p1, p2]) := ok_logA F5 B G6 m6 F6.kp b6 GaA m2 F2.kp b2 GdA m3 F3.kp b3
  have GrX : FnOk P w K mg base (L2.CX P w) 5 f6 fd6 ["value"] (spReqLaneX K [p1, p2] C_InvalidLane) := ok_reqLaneX F6 er_InvalidLane.xc GlA m1 F1.kp b1
  have GgB : FnOk P w K mg base (L2.CX P w) 6 f5 fd5 ["start", "value"] (spLogXb K [p1, p2] C_InvalidLane) := ok_logXb F5 GrX m6 F6.kp b6
  have GgX : FnOk P w K mg base (L2.CX P w) 6 f5 fd5 ["start", "value"] (spLogX K [p1, p2] C_InvalidLane) := ok_logX GgA GgB
  have GqX : FnOk P w K mg base (L2.CX P w) 7 f7 fd7 ["start", "log"] (spReqLogX K [p1, p2] C_InvalidLane C_InvalidLog) := ok_reqLogX F7 er_InvalidLog.xc GgX m5 F5.kp b5
  have GeX : FnOk P w K mg base (L2.CX P w) 9 f13 fd13 ["start", "log", "cars"] (spCarsX K [p1, p2] C_InvalidLane C_InvalidLog C_InvalidCars C_UnknownCar) := ok_reqCarsX F13 er_InvalidCars.xc er_UnknownCar.xc GqX m7 F7.kp b7 GlA m1 F1.kp b1 G9 m9 F9.kp b9
  have GyX : FnOk P w K mg base (L2.CX P w) 10 f11 fd11 ["start", "log", "cars"] (spCarsX K [p1, p2] C_InvalidLane C_InvalidLog C_InvalidCars C_UnknownCar) := ok_whyNSX F11 GeX m13 F13.kp b13
  have GsX : FnOk P w K mg base (L2.CX P w) 11 f10 fd10 ["start", "log", "cars"] (spCarsX K [p1, p2] C_InvalidLane C_InvalidLog C_InvalidCars C_UnknownCar) := ok_canStayX F10 GyX m11 F11.kp b11
  have GmX : FnOk P w K mg base (L2.CX P w) 10 f12 fd12 ["start", "log", "cars"] (spCarsX K [p1, p2] C_InvalidLane C_InvalidLog C_InvalidCars C_UnknownCar) := ok_completeX F12 GeX m13 F13.kp b13
  have GyE : FnOk P w K mg base (L2.CX P w) 11 f11 fd11 ["start", "log", "cars"] (spEither K [p1, p2] C_InvalidLane C_InvalidLog C_InvalidCars C_UnknownCar) := (either_whyS G11 GyX).mono (by decide)
  have GmE : FnOk P w K mg base (L2.CX P w) 11 f12 fd12 ["start", "log", "cars"] (spEither K [p1, p2] C_InvalidLane C_InvalidLog C_InvalidCars C_UnknownCar) := (either_cm G12 GmX).mono (by decide)
  have GsE : FnOk P w K mg base (L2.CX P w) 11 f10 fd10 ["start", "log", "cars"] (spEither K [p1, p2] C_InvalidLane C_InvalidLog C_InvalidCars C_UnknownCar) := either_can G10 GsX
  have GA : FnOk P w K mg base CX0 12 f34 fd34 ["door", "front", "diary", "some", "named"] (spAsked K mg [p1, p2] C_InvalidLane C_InvalidLog C_InvalidCars C_UnknownCar CB) := ok_asked F34 ers.g GsE m10 F10.kp b10 kb10 GyE m11 F11.kp b11 kb11 GmE m12 F12.kp b12 kb12 G30 m30 F30.kp b30
  exact ok_law11 F35 B B2 er_InvalidLane er_InvalidLog er_InvalidCars er_UnknownCar G24 m24 F24.kp b24 G25 m25 F25.kp b25 G26 m26 F26.kp b26 G28 m28 F28.kp b28 G29 m29 F29.kp b29 G31 m31 F31.kp b31 G32 m32 F32.kp b32 G33 m33 F33.kp b33 GA m34 F34.kp b34
end Ln


set_option Elab.async false
set_option linter.all false
set_option maxRecDepth 100000
set_option maxHeartbeats 2000000
namespace Ln
open PySem PySem.Spec PyProof.Rows L2 GxR LamX
theorem walk_G {l : PySem.W.OpenLaw} {n : Nat} {q : Program} {loose : List Str} {XP : (Str → Option Value) → Heap → Prop} {YP : World → Heap → Prop} {d d1 d2 : DefRec} {K : Params → PySem.W.Frag} (hn : l.most = some n) (hn2 : n ≤ sizeLine) (hdf : d.params.defaults = []) (hY : ∀ (w : World) (h : Heap), YP w h → (K w.params).In h)
    (r1 : (recsOf q).find? (fun e => e.name == PySem.Str.ofString "is_car") = some d1) (r2 : (recsOf q).find? (fun e => e.name == PySem.Str.ofString "is_lane") = some d2)
    (F : ∀ (w : World) (mg : Str → Option Value) (fa : Addr) (h : Heap), (K w.params).In h → h.Ns mainGlobals mg → mg d.name = some (.ref fa) → ∃ (c1 p1 c2 p2 : Addr) (fd : FuncData), PySem.W.tabIn (K w.params) "is_car" = some (c1, p1) ∧ PySem.W.tabIn (K w.params) "is_lane" = some (c2, p2) ∧
      (K w.params).lookup p1 = none ∧ (K w.params).lookup p2 = none ∧ AllAt l.prog w (K w.params) mg fa [(c1, p1), (c2, p2)] fd) :
    PySem.W.WalkO q loose XP YP l.row.toRowW d [] (fun f vs => PySem.call f vs) := by
  refine Att.attach_callB hn hdf fun w s₀ s₁ mg mb fa o pm cd doc a vs ns G Y ho hd hcd hmg hobj hints hlen hbits hg => ?_
  have KX := hY w _ Y
  obtain ⟨c1, p1, c2, p2, fd, t1, t2, n1, n2, all⟩ := F w mg fa _ KX G.T.g hmg
  have T1 := PySem.W.tab_of G.T KX r1 t1
  have T2 := PySem.W.tab_of G.T KX r2 t2
  have two : ∀ {φ : Addr × Addr → Prop}, φ (c1, p1) → φ (c2, p2) → ∀ p ∈ [(c1, p1), (c2, p2)], φ p := fun x y p hp => by
    rcases List.mem_cons.mp hp with rfl | hp
    · exact x
    rcases List.mem_cons.mp hp with rfl | hp
    · exact y
    cases hp
  refine law_callG KX G.T.g G.T.b G.T.builtins G.T.nolimit hg (two T1.2 T2.2) (two n1 n2) (two T1.1 T2.1) G.T.bmain hobj hints (Nat.le_trans hlen hn2) ⟨rfl, by decide, by decide⟩ all.ok all.bind fun H hH hS => ⟨a, ns, rfl, hS, fun p hp => ?_, fun H' => rfl⟩
  obtain ⟨x, hx, rfl⟩ := List.mem_map.mp hp
  exact ⟨#[], hH x hx, by first | trivial | exact .nil | simp [TriplesOk]⟩
end Ln


set_option maxRecDepth 100000
open PySem PySem.W PyProof.Rows
set_option maxHeartbeats 0 in
theorem PySem.Challenge.cw_openlane_k11_stayers_errors_holds : PySem.Challenge.rw_openlane_k11_stayers_errors.Holds := by
  w_on; o_law; k_head; (case hw => w_witness2)
  k_fill
  refine Ln.walk_G (l := PySem.Challenge.rw_openlane_k11_stayers_errors) (n := 63) rfl (by decide) rfl (fun w h Y => PySem.W.kIn_of Y) rfl rfl ?F
  case F =>
    intro w mg fa h KX G hmg
    refine' Ln.all_mk KX G hmg ?D0 ?D1 ?D2 ?D3 ?D4 ?D5 ?D6 ?D7 ?D8 ?D9 ?D10 ?D11 ?D12 ?D13 ?D14 ?D15 ?D16 ?D17 ?D18 ?D19 ?D20 ?D21 ?D22 ?D23 ?D24 ?D25 ?D26 ?D27 ?D28 ?D29 ?D30 ?D31 ?D32 ?D33 ?D34 ?D35 ?z0 ?z1 ?z2 ?z3 ?z4 ?z5 ?z6 ?z7 ?z8 ?z9 ?z10 ?z11 ?z12 ?z13 ?z14 ?z15 ?z16 ?z17 ?zer
    (case D0 => refine' Ln.defC_mk ?a ?l ?c ?k ?lc ?hv ?hn; (case a => k_is); (case l => k_is); (case c => k_is); (case k => k_is); (case lc => k_is); (case hv => rfl); (case hn => kernel_rfl))
    (case D1 => refine' Ln.defC_mk ?a ?l ?c ?k ?lc ?hv ?hn; (case a => k_is); (case l => k_is); (case c => k_is); (case k => k_is); (case lc => k_is); (case hv => rfl); (case hn => kernel_rfl))
    (case D2 => refine' Ln.def_mk ?a ?l ?c ?k; (case a => k_is); (case l => k_is); (case c => k_is); (case k => k_is))
    (case D3 => refine' Ln.def_mk ?a ?l ?c ?k; (case a => k_is); (case l => k_is); (case c => k_is); (case k => k_is))
    (case D4 => refine' Ln.def_mk ?a ?l ?c ?k; (case a => k_is); (case l => k_is); (case c => k_is); (case k => k_is))
    (case D5 => refine' Ln.def_mk ?a ?l ?c ?k; (case a => k_is); (case l => k_is); (case c => k_is); (case k => k_is))
    (case D6 => refine' Ln.def_mk ?a ?l ?c ?k; (case a => k_is); (case l => k_is); (case c => k_is); (case k => k_is))
    (case D7 => refine' Ln.def_mk ?a ?l ?c ?k; (case a => k_is); (case l => k_is); (case c => k_is); (case k => k_is))
    (case D8 => refine' Ln.def_mk ?a ?l ?c ?k; (case a => k_is); (case l => k_is); (case c => k_is); (case k => k_is))
    (case D9 => refine' Ln.def_mk ?a ?l ?c ?k; (case a => k_is); (case l => k_is); (case c => k_is); (case k => k_is))
    (case D10 => refine' Ln.def_mk ?a ?l ?c ?k; (case a => k_is); (case l => k_is); (case c => k_is); (case k => k_is))
    (case D11 => refine' Ln.def_mk ?a ?l ?c ?k; (case a => k_is); (case l => k_is); (case c => k_is); (case k => k_is))
    (case D12 => refine' Ln.def_mk ?a ?l ?c ?k; (case a => k_is); (case l => k_is); (case c => k_is); (case k => k_is))
    (case D13 => refine' Ln.def_mk ?a ?l ?c ?k; (case a => k_is); (case l => k_is); (case c => k_is); (case k => k_is))
    (case D14 => refine' Ln.def_mk ?a ?l ?c ?k; (case a => k_is); (case l => k_is); (case c => k_is); (case k => k_is))
    (case D15 => refine' Ln.def_mk ?a ?l ?c ?k; (case a => k_is); (case l => k_is); (case c => k_is); (case k => k_is))
    (case D16 => refine' Ln.def_mk ?a ?l ?c ?k; (case a => k_is); (case l => k_is); (case c => k_is); (case k => k_is))
    (case D17 => refine' Ln.def_mk ?a ?l ?c ?k; (case a => k_is); (case l => k_is); (case c => k_is); (case k => k_is))
    (case D18 => refine' Ln.def_mk ?a ?l ?c ?k; (case a => k_is); (case l => k_is); (case c => k_is); (case k => k_is))
    (case D19 => refine' Ln.def_mk ?a ?l ?c ?k; (case a => k_is); (case l => k_is); (case c => k_is); (case k => k_is))
    (case D20 => refine' Ln.def_mk ?a ?l ?c ?k; (case a => k_is); (case l => k_is); (case c => k_is); (case k => k_is))
    (case D21 => refine' Ln.def_mk ?a ?l ?c ?k; (case a => k_is); (case l => k_is); (case c => k_is); (case k => k_is))
    (case D22 => refine' Ln.def_mk ?a ?l ?c ?k; (case a => k_is); (case l => k_is); (case c => k_is); (case k => k_is))
    (case D23 => refine' Ln.def_mk ?a ?l ?c ?k; (case a => k_is); (case l => k_is); (case c => k_is); (case k => k_is))
    (case D24 => refine' Ln.def_mk ?a ?l ?c ?k; (case a => k_is); (case l => k_is); (case c => k_is); (case k => k_is))
    (case D25 => refine' Ln.def_mk ?a ?l ?c ?k; (case a => k_is); (case l => k_is); (case c => k_is); (case k => k_is))
    (case D26 => refine' Ln.def_mk ?a ?l ?c ?k; (case a => k_is); (case l => k_is); (case c => k_is); (case k => k_is))
    (case D27 => refine' Ln.def_mk ?a ?l ?c ?k; (case a => k_is); (case l => k_is); (case c => k_is); (case k => k_is))
    (case D28 => refine' Ln.def_mk ?a ?l ?c ?k; (case a => k_is); (case l => k_is); (case c => k_is); (case k => k_is))
    (case D29 => refine' Ln.def_mk ?a ?l ?c ?k; (case a => k_is); (case l => k_is); (case c => k_is); (case k => k_is))
    (case D30 => refine' Ln.def_mk ?a ?l ?c ?k; (case a => k_is); (case l => k_is); (case c => k_is); (case k => k_is))
    (case D31 => refine' Ln.def_mk ?a ?l ?c ?k; (case a => k_is); (case l => k_is); (case c => k_is); (case k => k_is))
    (case D32 => refine' Ln.def_mk ?a ?l ?c ?k; (case a => k_is); (case l => k_is); (case c => k_is); (case k => k_is))
    (case D33 => refine' Ln.def_mk ?a ?l ?c ?k; (case a => k_is); (case l => k_is); (case c => k_is); (case k => k_is))
    (case D34 => refine' Ln.def_mk ?a ?l ?c ?k; (case a => k_is); (case l => k_is); (case c => k_is); (case k => k_is))
    (case D35 => refine' Ln.def_mk ?a ?l ?c ?k; (case a => k_is); (case l => k_is); (case c => k_is); (case k => k_is))
    (case zer => kernel_rfl)
    (case z0 => k_is); (case z1 => k_is); (case z2 => k_is); (case z3 => k_is); (case z4 => k_is); (case z5 => k_is); (case z6 => k_is); (case z7 => k_is); (case z8 => k_is); (case z9 => k_is); (case z10 => k_is); (case z11 => k_is); (case z12 => k_is); (case z13 => k_is); (case z14 => k_is); (case z15 => k_is); (case z16 => k_is); (case z17 => k_is)
#print axioms PySem.Challenge.cw_openlane_k11_stayers_errors_holds

