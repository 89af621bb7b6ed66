import PyProof.Rows.All
import Wide.All
import OpenK.AllK
import Wide.FinOn
import HandS.AnyAll
import PyProof.GenQ
import PyProof.GenRules
import HandS.GenOver
import HandS.SetKeys
import HandS.Strs
import PyProof.WalksMore
import HandS.Base
import HandS.ForMost
import HandS.IsInst
import HandS.Wide
import HandS.Defaults
import HandS.Style
import HandS.Zip
import HandS.Flow
import HandS.DeepEq
import HandS.More
import HandS.Iter
import HandS.Walk
import KE.GoesEnum
import HandS.TupAny
import HandS.Dict
import HandS.Words
import HandS.TupSets
import HandS.Conv
import HandS.SortInts
import HandS.TupLe
import PyProof.Rows.RegFStrParts
import HandS.EndTab
import KE.KNest
import PySem.Challenge.RW_openlane_k14_reasons_for_lanes
set_option Elab.async false
set_option linter.all false
set_option maxRecDepth 100000
set_option maxHeartbeats 2000000
namespace Ln
open PySem PySem.Spec PyProof.Rows L2 GxR

theorem bare_set {s : Shared} {g : Nat} {x : GenState} (h : AllBare s.gens) (hx : x.bare = true) : AllBare (s.setGen g x).gens := by
  intro y hy
  obtain ⟨i, hi, e⟩ := Array.mem_iff_getElem.mp hy
  have sz : (s.setGen g x).gens.size = s.gens.size := by simp [Shared.setGen]
  have hi' : i < s.gens.size := by omega
  by_cases z : i = g
  · have q : (s.setGen g x).gens[i]? = some x := by
      show (s.gens.setIfInBounds g x)[i]? = some x
      subst z
      simp [hi']
    rw [Array.getElem?_eq_getElem hi, e] at q
    cases q
    exact hx
  · have q : (s.setGen g x).gens[i]? = s.gens[i]? := by
      show (s.gens.setIfInBounds g x)[i]? = s.gens[i]?
      exact Array.getElem?_setIfInBounds_ne (Ne.symm z)
    rw [Array.getElem?_eq_getElem hi, e] at q
    exact h y (Array.mem_of_getElem? q.symm)

/-- the context of a generator expression's own frame -/
def genCx (X : Cx) (cenv : Env) (A' : Around) (x : Str) (fp : List Addr) (s4 : Shared) (H4 : Hp) (pn : List (Addr × Obj)) : Cx where
  prog := X.prog
  w := X.w
  K := X.K
  mg := X.mg
  base := X.base
  A := A'
  N := [x]
  s_0 := s4
  H_0 := H4
  env := cenv
  outer := X.stack
  stack := cenv :: X.stack
  ex := fp
  fn := fun _ => true
  calm := true
  pn := pn
  xe := fun _ _ => False

structure GSc (scope : Scope) (x : Str) : Prop where
  kind : scope.kind = .function
  co : scope.isCoroutine = false
  cell : ∀ y ∈ scope.names, y.2 ≠ .cell
  free : ∀ y ∈ scope.names, y.2 ≠ .free
  dot : scope.names.lookup (".0" : Str) = some NameKind.local
  loc : scope.names.lookup x = some .local

theorem clo_nil {cells : List (Str × Addr)} : ∀ {names : List (Str × NameKind)} {acc : List (Str × Addr)}, (∀ y ∈ names, y.2 ≠ .free) → cloFrom cells names acc = acc
  | [], _, _ => rfl
  | (n, k) :: r, acc, h => by
    have hk : k ≠ .free := h (n, k) List.mem_cons_self
    unfold cloFrom
    rw [if_neg (by simpa using hk)]
    exact clo_nil fun y hy => h y (List.mem_cons_of_mem _ hy)

theorem over_comp {A : Around} {elt : Expr} {gs : List Comprehension} {scope : Scope} {pos : Pos} {it acc : Value} {env : Env} :
    A.over (.compLoop (.GeneratorExp elt gs scope pos) 0 it acc env) [] = A.deeper env := by
  first
    | rfl
    | (obtain ⟨hd, d, fr, gs, u⟩ := A; simp [Around.over, Around.deeper, marksOver, frameCount, unitsOf, envsOf, guardsOf, pushEnvs, pushGuards, Code.envs, Code.env?, Code.isFrame, Code.guards, Code.isGuard, Code.weight, Code.frames, Code.isCreation, Code.isCaller, Code.cUnits])
theorem over_start {A : Around} {elt : Expr} {gs : List Comprehension} {scope : Scope} {pos : Pos} {it acc : Value} {env : Env} :
    A.over (.compStart (.GeneratorExp elt gs scope pos) 0 it acc env) [] = A.deeper env := by
  first
    | rfl
    | (obtain ⟨hd, d, fr, gs, u⟩ := A; simp [Around.over, Around.deeper, marksOver, frameCount, unitsOf, envsOf, guardsOf, pushEnvs, pushGuards, Code.envs, Code.env?, Code.isFrame, Code.guards, Code.isGuard, Code.weight, Code.frames, Code.isCreation, Code.isCaller, Code.cUnits])


def YA (Y : Cx) (Q : VK) : Protocol := fun _ _ v s kap =>
  ∃ (b : Bool) (H : Hp), v = .bool b ∧ Inv Y [] [none] H s ∧ if b = true then ∀ s', s'.heap = s.heap → s'.os = s.os → AllBare s'.gens → kap (.send .none) s' else Q (.bl false) H
def RA (Y : Cx) (Q : VK) : Nat → Shared → Shared → Prop := fun _ _ s => ∃ H, Inv Y [] [none] H s ∧ Q (.bl true) H
def RestA (Y : Cx) (fp : List Addr) (tn : Nat → Heap → Prop) (W : Nat → Nat → Hp → Prop) (n i : Nat) (s : Shared) : Prop :=
  ∃ m H, m < n ∧ Inv Y [] [none] H s ∧ tn i s.heap ∧ (∀ b ∈ fp, H b = none) ∧ W i m H
/-- what is asked of each turn -/
def TurnA (J : It) (te : TE) (W : Nat → Nat → Hp → Prop) (Q : VK) : Prop := ∀ i m H, W i m H →
  (J.stop i H ∧ Q (.bl true) H) ∨ (J.go i H ∧ ∀ v H', J.yld i H v H' → te [some v] H' fun y H3 => ∃ b, y = .bl b ∧ if b = true then ∃ m', m' < m ∧ W (i + 1) m' H3 else Q (.bl false) H3)
theorem inv_none {Y : Cx} {v : Option V} {pins : List (Addr × Obj)} {H : Hp} {s : Shared} (I : Inv Y pins [v] H s) : Inv Y pins [none] H s :=
  I.weak rfl fun i u e => by
    match i, e with
    | 0, e => cases e
    | i + 1, e => simp at e
theorem inv_same {Y : Cx} {pins : List (Addr × Obj)} {σ : L2.St} {H : Hp} {s s' : Shared} (I : Inv Y pins σ H s) (hh : s'.heap = s.heap) (ho : s'.os = s.os) (hg : AllBare s'.gens) : Inv Y pins σ H s' :=
  I.call' (ch := []) ho (by rw [hh]; exact Un.refl) (by rw [hh]; exact I.hok) hg fun b z => by simp at z

section
variable {X : Cx} {elt iter : Expr} {x : Str} {px pos : Pos} {scope : Scope} {it : Addr} {fp : List Addr} {tn : Nat → Heap → Prop} {J : It} {te : TE} {W : Nat → Nat → Hp → Prop} {Q : VK} {cenv : Env} {s4 : Shared} {H4 : Hp} {pn : List (Addr × Obj)} {A2 : Around}
theorem seg_all (hsc : GSc scope x) (hcs : cenv.scope = scope)
    (hE : PE (genCx X cenv (A2.deeper cenv) x fp s4 H4 pn) elt te) (T : Turn X.prog X.w X.K (.Name x px) J fp it tn)
    (hst : ∀ H : Hp, (∀ b ∈ fp, H b = none) → ∀ b ∈ fp, FpOk (genCx X cenv (A2.deeper cenv) x fp s4 H4 pn) [] H b) (turn : TurnA J te W Q) :
    ∀ (n i : Nat) (s₀ s : Shared), RestA (genCx X cenv (A2.deeper cenv) x fp s4 H4 pn) fp tn W n i s →
      Seg (model X.prog X.w) A2 (fun n s₀ r s₁ => r = .ok .next ∧ RA (genCx X cenv (A2.deeper cenv) x fp s4 H4 pn) Q n s₀ s₁) (YA (genCx X cenv (A2.deeper cenv) x fp s4 H4 pn) Q) n s₀
        (.compLoop (.GeneratorExp elt [⟨.Name x px, iter, [], 0⟩] scope pos) 0 (.ref it) .none cenv)
        ((model X.prog X.w).den (.compLoop (.GeneratorExp elt [⟨.Name x px, iter, [], 0⟩] scope pos) 0 (.ref it) .none cenv)) [] s := by
  intro n
  induction n with
  | zero =>
    intro i s₀ s ⟨m, _, hm, _⟩
    exact absurd hm (Nat.not_lt_zero m)
  | succ n ih =>
    intro i s₀ s ⟨m, H, hm, I, st, fr, w⟩
    have ov : A2.over (.compLoop (.GeneratorExp elt [⟨.Name x px, iter, [], 0⟩] scope pos) 0 (.ref it) .none cenv) [] = A2.deeper cenv := over_comp
    show Seg _ A2 _ _ _ s₀ _ ((compTurn (.GeneratorExp elt [⟨.Name x px, iter, [], 0⟩] scope pos) 0 (.ref it) .none cenv).onRaise (leaving cenv)) [] s
    rw [compTurn_gen, Sem.onRaise_eq_wrap]
    refine seg_bind_wrap (wpAny_standAt (seg_bind_wrap ?_))
    rw [ov]
    rcases turn i m H w with ⟨stop, q⟩ | ⟨go, step⟩
    · refine thn (T.done (genCx X cenv (A2.deeper cenv) x fp s4 H4 pn) rfl rfl rfl rfl i [] s [none] H _ I (hst H fr) st stop) fun r s1 h1 => ?_
      obtain ⟨rfl, I1⟩ := h1
      exact seg_end (.ok .next) ⟨rfl, H, I1, q⟩
    · refine thn (T.item (genCx X cenv (A2.deeper cenv) x fp s4 H4 pn) rfl rfl rfl rfl i [] s [none] H _ I (hst H fr) st go) fun r s1 h1 => ?_
      obtain ⟨u, rfl, h1⟩ := h1
      refine seg_bind_wrap ?_
      rw [ov]
      refine thn h1 fun _ s2 h2 => ?_
      obtain ⟨v, H2, I2, r2, y2, st2, fr2⟩ := h2
      have I2' := I2.pinned (hst H2 fr2) (T.obj _ _ st2)
      refine seg_bind_wrap ?_
      rw [ov]
      have hpg : PG (genCx X cenv (A2.deeper cenv) x fp s4 H4 pn) (.Name x px) (gName 0) := pg_name (X := genCx X cenv (A2.deeper cenv) x fp s4 H4 pn) (List.nodup_cons.mpr ⟨by simp, List.nodup_nil⟩) rfl (.inl (by show cenv.scope.names.lookup x = _; rw [hcs]; exact hsc.loc)) (.inl rfl)
      refine wpAny_mono (hpg.run _ s2 [none] H2 v u (fun σ' H' => σ' = [some v] ∧ H' = H2) I2' r2 ⟨rfl, rfl⟩) (fun _ s3 h3 => ?_) fun _ _ z => False.elim z
      obtain ⟨σ3, H3, I3, e3, e4⟩ := h3
      subst e3
      have e4 := e4.symm
      subst e4
      refine seg_bind_wrap ?_
      refine wpAny_of_eq (a := true) (by simp only [List.forIn_nil]) ?_
      simp only [if_true]
      have hy : ∀ v, yieldOut cenv v = yieldValue v := fun v => by simp only [yieldOut, hcs, hsc.co, Bool.false_eq_true, if_false]
      simp only [hy]
      rw [Sem.bind_eq_wrap', Sem.bind_eq_wrap', Sem.wrap_wrap, Sem.wrap_wrap]
      refine seg_wrap ?_
      rw [ov]
      refine wpAny_mono (hE.run _ s3 [some v] H2 _ I3 (step v H2 y2)) (fun y s5 h5 => ?_) fun _ _ z => False.elim z
      obtain ⟨v5, H5, I5, r5, b, rfl, hb⟩ := h5
      obtain rfl : y = Value.bool b := r5
      have I6 := inv_none I5
      have fr5 : ∀ b ∈ fp, H5 b = none := fun c hc => by
        obtain ⟨o, e, d⟩ := T.obj _ _ st2 c hc
        exact (I5.pin (c, o) (List.mem_append_right _ (List.mem_append_right _ (mem_pinsAt hc e)))).2.1
      have st5 : tn (i + 1) s5.heap := T.keep _ _ _ st2 fun c hc o e => (I5.pin (c, o) (List.mem_append_right _ (List.mem_append_right _ (mem_pinsAt hc e)))).1
      refine seg_at (seg_yield rfl rfl rfl ⟨b, H5, rfl, I6.unpinned, ?_⟩)
      cases b with
      | false => exact hb
      | true =>
        obtain ⟨m', hm', w'⟩ := hb
        intro s6 hh ho hbare
        refine seg_again rfl (ih (i + 1) s6 s6 ⟨m', H5, by omega, inv_same I6.unpinned hh ho hbare, by rw [hh]; exact st5, fr5, w'⟩)
end

section
variable {X : Cx} {elt iter : Expr} {x : Str} {px pos : Pos} {scope : Scope} {it : Addr} {fp : List Addr} {tn : Nat → Heap → Prop} {J : It} {te : TE} {W : Nat → Nat → Hp → Prop} {Q : VK} {cenv : Env} {s4 : Shared} {H4 : Hp} {pn : List (Addr × Obj)} {A2 : Around}
theorem seg_all0 (hsc : GSc scope x) (hcs : cenv.scope = scope)
    (hE : PE (genCx X cenv (A2.deeper cenv) x fp s4 H4 pn) elt te) (T : Turn X.prog X.w X.K (.Name x px) J fp it tn)
    (hst : ∀ H : Hp, (∀ b ∈ fp, H b = none) → ∀ b ∈ fp, FpOk (genCx X cenv (A2.deeper cenv) x fp s4 H4 pn) [] H b) (turn : TurnA J te W Q)
    (n : Nat) (s₀ s : Shared) (h : RestA (genCx X cenv (A2.deeper cenv) x fp s4 H4 pn) fp tn W n 0 s) :
      Seg (model X.prog X.w) A2 (fun n s₀ r s₁ => r = .ok .next ∧ RA (genCx X cenv (A2.deeper cenv) x fp s4 H4 pn) Q n s₀ s₁) (YA (genCx X cenv (A2.deeper cenv) x fp s4 H4 pn) Q) n s₀
        (.compStart (.GeneratorExp elt [⟨.Name x px, iter, [], 0⟩] scope pos) 0 (.ref it) .none cenv)
        ((model X.prog X.w).den (.compStart (.GeneratorExp elt [⟨.Name x px, iter, [], 0⟩] scope pos) 0 (.ref it) .none cenv)) [] s := by
  have hl := seg_all (iter := iter) (pos := pos) hsc hcs hE T hst turn n 0 s₀ s h
  obtain ⟨m, H, _, I, st, _⟩ := h
  show Seg _ A2 _ _ _ s₀ _ ((compStart (.GeneratorExp elt [⟨.Name x px, iter, [], 0⟩] scope pos) 0 (.ref it) .none cenv).onRaise (leaving cenv)) [] s
  unfold compStart
  rw [Sem.onRaise_eq_wrap]
  show Seg _ A2 _ _ _ s₀ _ (Sem.wrap _ _ _ _ (ask >>= _)) [] s
  refine seg_bind_wrap (wpAny_askSetting ?_)
  split
  · exact seg_again rfl hl
  · first
      | exact seg_bind_wrap (wpAny_rule (seg_bind_wrap (wpAny_standAt (seg_bind_wrap (T.self _ 0 s _ _ st (seg_again rfl hl))))))
      | (refine seg_bind_wrap (wpAny_rule ?_)
         show Seg _ A2 _ _ _ s₀ _ (Sem.wrap _ _ _ _ (standAt iter.pos >>= _)) [] s
         exact seg_bind_wrap (wpAny_standAt (seg_bind_wrap (T.self _ 0 s _ _ st (seg_again rfl hl)))))

theorem loop_all {Y : Cx} {ag : Addr} {go : Obj} {g : Nat} {A : Around} {R : Result → Shared → Prop} (hpn : (ag, go) ∈ Y.pn) (hgo : ∀ h : Heap, h.get? ag = some go → h.IsGen ag g) (hh : A.handled = none) (hd : A.depth < recursionLimit)
    (hR : ∀ (b : Bool) (H : Hp) (s : Shared), Inv Y [] [none] H s → Q (.bl b) H → R (.ok (.ret (.bool b))) s) :
    ∀ (n : Nat) (s : Shared), s.heap.IsGen ag g → s.heap.NoLimit →
      (∃ gs, s.gens[g]? = some gs ∧ gs.Goes (model Y.prog Y.w) A.in1.in1 (fun n s₀ r s₁ => r = .ok .next ∧ RA Y Q n s₀ s₁) (YA Y Q) n (.send .none) (s.setGen g .running)) →
      codeAny (model Y.prog Y.w) A (.builtin "all.loop" ⟨[.ref ag], []⟩) R s := by
  have ends : ∀ (n : Nat) (s s₁ : Shared), RA Y Q n (s.setGen g .running) s₁ → ∀ h', (∀ b o, s₁.heap.get? b = some o → h'.get? b = some o) → R (.ok (.ret (.bool true))) { s₁.setGen g .finished with heap := h' } := by
    intro n s s₁ ⟨H, I, q⟩ h' hk
    refine hR true H _ ?_ q
    exact I.call' (ch := []) rfl (Un.kept hk) (I.hok.kept hk) (bare_set I.bare rfl) fun b z => by simp at z
  intro n
  induction n with
  | zero =>
    intro s hg hl ⟨gs, hgs, hgo'⟩
    refine codeAny_builtin F.entry_all_loop ?_
    rw [Around.under_plainId F.plain_all_loop _]
    show wpAny _ A.in1 (pyNext (.ref ag) >>= fun r => _) _ _ s
    refine wpAny_bind (wpAny_pyNext_genexpQ (A := A.in1) (P := RA Y Q) hh hl hd hg hgs hgo' (fun v s₁ gs' hbare hv => ?_) fun s₁ hp h' hk => ?_)
    · obtain ⟨b, H, rfl, I, hb⟩ := hv
      refine wpAny_bind (wpAny_holding (wpAny_truthy_bool ?_))
      refine wpAny_bind (wpAny_letGo ?_)
      cases b with
      | true => exact False.elim (hb s₁ rfl rfl I.bare)
      | false =>
        simp only [Bool.false_eq_true, if_false]
        exact wpAny_bind (wpAny_rule (wpAny_pure (hR false H _ (inv_same I rfl rfl (bare_set I.bare hbare)) hb)))
    · exact wpAny_bind (wpAny_rule (wpAny_pure (ends _ _ _ hp h' hk)))
  | succ n ih =>
    intro s hg hl ⟨gs, hgs, hgo'⟩
    have hgl : g < s.gens.size := (Array.getElem?_eq_some_iff.mp hgs).1
    refine codeAny_builtin F.entry_all_loop ?_
    rw [Around.under_plainId F.plain_all_loop _]
    show wpAny _ A.in1 (pyNext (.ref ag) >>= fun r => _) _ _ s
    refine wpAny_bind (GenW.wpAny_gsz (n := g + 1) hgl (wpAny_pyNext_genexpQ (A := A.in1) (P := RA Y Q) hh hl hd hg hgs hgo' (fun v s₁ gs' hbare hv => ?_) fun s₁ hp h' hk => ?_))
    · intro hsz
      obtain ⟨b, H, rfl, I, hb⟩ := hv
      refine wpAny_bind (wpAny_holding (wpAny_truthy_bool ?_))
      refine wpAny_bind (wpAny_letGo ?_)
      have sz : (s₁.setGen g gs').gens.size = s₁.gens.size := by simp [Shared.setGen]
      have hsz1 : g < s₁.gens.size := by
        have : g + 1 ≤ (s₁.setGen g gs').gens.size := hsz
        omega
      cases b with
      | true =>
        simp only [if_true]
        refine wpAny_pure ⟨plainId_quiet F.plain_all_loop _, ih _ (hgo _ ?_) I.nolimit ⟨gs', ?_, ?_⟩⟩
        · exact (I.pin (ag, go) (List.mem_append_left _ hpn)).1
        · show (s₁.gens.setIfInBounds g gs')[g]? = some gs'
          simp [hsz1]
        · exact hb _ rfl rfl (bare_set (s := s₁.setGen g gs') (bare_set I.bare hbare) rfl)
      | false =>
        simp only [Bool.false_eq_true, if_false]
        exact wpAny_bind (wpAny_rule (wpAny_pure (hR false H _ (inv_same I rfl rfl (bare_set I.bare hbare)) hb)))
    · intro _
      exact wpAny_bind (wpAny_rule (wpAny_pure (ends _ _ _ hp h' hk)))
end

def tAllG (P : Addr) (wi : TI) (te : TE) : TE := fun σ H Q => wi σ H fun J H1 => TabG H1 P ∧ ∃ W : Nat → Nat → Hp → Prop, (∀ H2, Tabbed P H1 H2 → ∃ m, W 0 m H2) ∧ TurnA J te W Q
section
variable {X : Cx}
theorem boot_all : bootBuiltins "all" = some (.builtin "all") := by decide +kernel
/-- all(elt for x in iter): elt anything that raises nothing -/
theorem pe_allG {c P : Addr} {elt iter : Expr} {x : Str} {px p pos gpos : Pos} {scope : Scope} {wi : TI} {te : TE} {k : Nat}
    (hr : Room (k + 1) X.A) (hc : X.calm = true) (hg : Gl X "all") (hm : X.mg "all" = none) (TB : TabB X.base X.mg c P) (hcode : X.env.code = .ref c) (S : GSc scope x) (hi : PI X (.Name x px) iter wi)
    (hE : ∀ (C : Addr) (code : Value) (bi : Addr) (A' : Around) (fp : List Addr) (s4 : Shared) (H4 : Hp) (pn : List (Addr × Obj)), Room k A' → PE (genCx X (genEnv scope [] C code bi X.env) A' x fp s4 H4 pn) elt te)
    (hs : ∀ v, genFold iter X.env v = pure v := by intro _; rfl)
    (he : starEach [.GeneratorExp elt [⟨.Name x px, iter, [], 0⟩] scope gpos] X.env = (false, eval (.GeneratorExp elt [⟨.Name x px, iter, [], 0⟩] scope gpos) X.env) :: starEach [] X.env := by rfl) :
    PE X (.Call (.Name "all" p) [.GeneratorExp elt [⟨.Name x px, iter, [], 0⟩] scope gpos] [] pos) (tAllG P wi te) := by
  refine ⟨fun pins s σ H Q I h => ?_⟩
  refine wpAny_Call_Name_kw (ld_blt I hg hm boot_all ?_)
  refine PyProof.Rows.callWith_builtin1 ?_ he (by rfl)
  rw [he]
  show wpAny (model X.prog X.w) X.A (spliced ((false, eval (.GeneratorExp elt [⟨.Name x px, iter, [], 0⟩] scope gpos) X.env) :: backTo pos (starEach [] X.env))) _ _ s
  have hclo : closureFor scope X.env = pure [] := by
    rw [closure_ok fun y hy e => absurd e (S.free y hy), clo_nil S.free]
  refine Calls.spliced_cons (wpAny_GeneratorExp_make S.co hclo S.cell S.dot S.kind hr.depth ?_ hs)
  refine thn (hi.run pins s σ H _ I h) fun xv s1 h1 => thn h1 fun itv s2 h2 => ?_
  obtain ⟨it, fp, tn, J, H2, rfl, I2, T, st2, f2, ⟨ps, hP, htr⟩, W, hW, turn⟩ := h2
  refine ⟨I2.nolimit, ?_⟩
  have hPs : s2.heap.get? P = some { cls := .none, data := .fields ps } := I2.hok P _ hP
  have cd : PySem.W.CodeHd s2.heap c P := TB.code.keeps I2.bk
  have fpP : ∀ b ∈ fp, b ≠ P := fun b hb e => by
    have := (f2 b hb).1
    rw [e, hP] at this
    cases this
  have cont : ∀ (code : Value) (h3 : Heap) (tk : Nat) (H3 : Hp), Inv X pins σ H3 { s2 with heap := h3, toks := tk } → Tabbed P H2 H3 → tn 0 h3 →
      wpAny (model X.prog X.w) X.A (builtinsFor X.env.globals X.env.builtins) (fun bi s4 =>
        ∀ h', h'.Ns s4.heap.objs.size (fun y => if y = ".0" then some (.ref it) else none) → Heap.SameBut s4.heap.objs.size (s4.heap.push { cls := .type "frame", data := .dict #[] }) h' →
          wpAny (model X.prog X.w) X.A (call (.builtin "all") [.ref h'.objs.size]) (EP X pins σ Q) X.xe { s4 with
            gens := s4.gens.push (.fresh (.compStart (.GeneratorExp elt [⟨.Name x px, iter, [], 0⟩] scope gpos) 0 (.ref it) .none (genEnv scope [] s4.heap.objs.size code bi X.env))),
            toks := s4.toks + 1 + 1 + 1,
            heap := h'.push { cls := .type "generator", data := .fields #[.int s4.gens.size 0, .str "<genexpr>" (s4.toks + 1), .str (X.env.qual ++ "<genexpr>") (s4.toks + 1 + 1)] } }) X.xe { s2 with heap := h3, toks := tk } := by
    intro code h3 tk H3 I3 hT st3
    have fr3 : ∀ b ∈ fp, H3 b = none := fun b hb => (hT.2 b (fpP b hb)).trans (f2 b hb).1
    obtain ⟨bm, ob, e1, e2, e3, e4, e5, e6, e7, e8⟩ := TB.bm
    refine wpAny_builtinsFor (m := X.mg) (by rw [I3.ok.glob]; exact I3.mod.glob.keeps I3.bk) e1 e2 (I3.bk _ _ e5) e6 e7 e8 ?_
    intro h' hn' hs'
    generalize hs3 : ({ s2 with heap := h3, toks := tk } : Shared) = s3 at *
    generalize hgo : ({ cls := .type "generator", data := .fields #[.int s3.gens.size 0, .str "<genexpr>" (s3.toks + 1), .str (X.env.qual ++ "<genexpr>") (s3.toks + 1 + 1)] } : Obj) = go
    have hgd : ∀ h : Heap, ∀ a, h.get? a = some go → h.IsGen a s3.gens.size := fun h a e => ⟨go, _, _, e, by rw [← hgo], by rw [← hgo], by rw [← hgo]⟩
    have hgp : ∀ h : Heap, (h.push go).get? h.objs.size = some go := fun h => Heap.get?_push_size _ (by rw [← hgo]; rfl)
    have hgc : ∀ v, go.data ≠ .cell v := fun v e => by rw [← hgo] at e; cases e
    have hsz : h'.objs.size = s3.heap.objs.size + 1 := by rw [hs'.1, Heap.size_push]
    have keep' : ∀ b o, s3.heap.get? b = some o → h'.get? b = some o := fun b o e => hs'.extBut b o (Nat.ne_of_lt (Heap.lt_size e)) (Heap.get?_push_of_some _ e)
    have keepG : ∀ b o, s3.heap.get? b = some o → (h'.push go).get? b = some o := fun b o e => Heap.get?_push_of_some _ (keep' b o e)
    have st3' : tn 0 s3.heap := by rw [← hs3]; exact st3
    have nstk : ∀ b, s3.heap.objs.size ≤ b → b ∉ frs X.stack := fun b hb z => by
      rcases List.mem_cons.mp (I3.stkSub b z) with e | e
      · have := I3.lt
        rw [e] at hb
        exact Nat.lt_irrefl _ (Nat.lt_of_lt_of_le this hb)
      · exact I3.nofs hb e
    have fpl : ∀ b ∈ fp, b < s3.heap.objs.size := fun b hb => by
      obtain ⟨o, e, _⟩ := T.obj _ _ st3' b hb
      exact Heap.lt_size e
    have fpS : ∀ b ∈ fp, b ∉ frs X.stack := fun b hb z => by
      obtain ⟨_, g1, g2, _⟩ := f2 b hb
      rcases List.mem_cons.mp (I3.stkSub b z) with e | e
      · exact g1 e
      · exact g2 e
    have hH3 : ∀ b, s3.heap.objs.size ≤ b → H3 b = none := fun b hb => I3.hok.fresh hb
    refine call_function_tree F.kind_all F.plain_all F.entry_all (F.args_all1 _) ?_
    unfold Builtin.«all»
    refine wpAny_bind (m := oneArg "all" _) (wpAny_pure ?_)
    refine wpAny_bind (wpAny_pyIter_gen (g := s3.gens.size) (hgd _ _ (hgp h')) ?_)
    refine wpAny_pure ⟨plainId_quiet F.plain_all_loop _, ?_⟩
    have hroomk : Room k (X.A.in1.in1.deeper (genEnv scope [] s3.heap.objs.size code builtinsNs X.env)) :=
      ⟨hr.hd, by have := hr.dp; show X.A.depth + 1 + 3 * k + 5 < _; omega, by have := hr.un; show X.A.units + 1 + 1 + 3 + 16 * k + 200 < _; omega⟩
    have cnil : ∀ {y : Str} {c' : Addr}, (([] : List (Str × Addr)).lookup y) = some c' → False := fun e => by cases e
    have kin : ∀ {y : Str}, ¬ (scope.names.lookup y = some .cell ∨ scope.names.lookup y = some .free) := fun {y} e => by
      rcases e with e | e
      · exact S.cell _ (PySem.mem_of_lookup e) rfl
      · exact S.free _ (PySem.mem_of_lookup e) rfl
    have IY : Inv (genCx X (genEnv scope [] s3.heap.objs.size code builtinsNs X.env) (X.A.in1.in1.deeper (genEnv scope [] s3.heap.objs.size code builtinsNs X.env)) x fp s3 H3 [(h'.objs.size, go)]) [] [none] H3
        { s3 with gens := (s3.gens.push (.fresh (.compStart (.GeneratorExp elt [⟨.Name x px, iter, [], 0⟩] scope gpos) 0 (.ref it) .none (genEnv scope [] s3.heap.objs.size code builtinsNs X.env)))), toks := s3.toks + 1 + 1 + 1, heap := h'.push go } := by
      refine ⟨⟨I3.ok.mod, S.kind, I3.ok.glob, rfl, Nat.le_refl _, fun y z c' e _ => (cnil e).elim, fun y e => (kin e).elim, fun y c' _ e => (cnil e).elim, fun _ => hr.hd, Around.frames_deeper I3.ok.frames, .inr ⟨rfl, rfl⟩,
        fun b hb => ⟨Nat.ne_of_lt (fpl b hb), fun y c' e => (cnil e).elim⟩, I3.bs, Nat.le_trans I3.ok.bsz I3.sz, fun b o e hb => ?_, fpS, I3.stack, I3.stkFree⟩,
        rfl, I3.bare.push rfl, Un.kept keepG, ⟨_, hn'.keeps fun b o e => Heap.get?_push_of_some _ e, fun i y v e1 e2 _ => ?_⟩, fun y c' e => (cnil e).elim, hH3 _ (Nat.le_refl _), fun y c' e => (cnil e).elim, fun p hp => ?_, I3.hok.kept keepG, rfl⟩
      · obtain ⟨_, _, _, g3, _⟩ := f2 b hb
        rcases g3 with g3 | g3
        · exact I2.ok.noex b o e g3
        · have h1 := Heap.lt_size e
          have h2 := I2.ok.bsz
          exact Nat.lt_irrefl _ (Nat.lt_of_lt_of_le h1 (Nat.le_trans h2 g3))
      · match i, e2 with
        | 0, e2 => cases e2
        | i + 1, e2 => simp at e2
      · have hp2 : p ∈ ([(h'.objs.size, go)] ++ [] : List (Addr × Obj)) := hp
        have hp' : p = (h'.objs.size, go) := by simpa using hp2
        subst hp'
        exact ⟨hgp h', hH3 _ (by rw [hsz]; exact Nat.le_succ _), by show h'.objs.size ≠ s3.heap.objs.size; rw [hsz]; exact Nat.succ_ne_self _, nstk _ (by rw [hsz]; exact Nat.le_succ _), hgc⟩
    have hst : ∀ H' : Hp, (∀ b ∈ fp, H' b = none) → ∀ b ∈ fp, FpOk (genCx X (genEnv scope [] s3.heap.objs.size code builtinsNs X.env) (X.A.in1.in1.deeper (genEnv scope [] s3.heap.objs.size code builtinsNs X.env)) x fp s3 H3 [(h'.objs.size, go)]) [] H' b :=
      fun H' hf b hb => ⟨hf b hb, Nat.ne_of_lt (fpl b hb), fpS b hb, .inl hb, fun y c' e => (cnil e).elim, fun p hp => by
        have hp2 : p ∈ ([(h'.objs.size, go)] ++ [] : List (Addr × Obj)) := hp
        have hp' : p = (h'.objs.size, go) := by simpa using hp2
        subst hp'
        show h'.objs.size ≠ b
        rw [hsz]
        exact Nat.ne_of_gt (Nat.lt_succ_of_lt (fpl b hb))⟩
    obtain ⟨m, w0⟩ := hW H3 hT
    refine loop_all (Q := Q) (go := go) (g := s3.gens.size) (A := X.A) (Y := genCx X (genEnv scope [] s3.heap.objs.size code builtinsNs X.env) (X.A.in1.in1.deeper (genEnv scope [] s3.heap.objs.size code builtinsNs X.env)) x fp s3 H3 [(h'.objs.size, go)])
      (by exact List.mem_singleton.mpr rfl) (fun h e => hgd h _ e) hr.hd hr.depth (fun b H' s' I' q' => ?_) (m + 1) _ (hgd _ _ (hgp h')) IY.nolimit ⟨_, Array.getElem?_push_size .., rfl, ?_⟩
    · refine ⟨.bl b, H', ?_, rfl, q'⟩
      refine I3.call' (ch := fp) I'.os I'.base I'.hok I'.bare fun b hb => ?_
      obtain ⟨_, g1, _, g3, g4, g5⟩ := f2 b hb
      exact ⟨g3, g1, g4, g5⟩
    · exact seg_all0 S rfl (hE _ _ _ _ _ _ _ _ hroomk) T hst turn (m + 1) _ _ ⟨m, H3, Nat.lt_succ_self m, inv_same IY rfl rfl (bare_set IY.bare rfl), T.keep _ _ _ st3' fun b _ o e => keepG b o e, fr3, w0⟩
  cases hf : codeAmong gpos ps.toList with
  | none =>
    refine wpAny_genexprCodeX hcode (cd.code hPs htr) (cd.tab hPs) hf fun c' h' tk hx hge hlt hco' _ htab' _ => ?_
    obtain ⟨o1, vs, f1, tf, fl, tg, inF, tx, tt, op, _, _, _, _, _, _, _, _, _, htr', _⟩ := hco'
    have J3 := inv_tab (h' := h') (g' := s2.gens) (d' := s2.drawn) (t' := tk) I2 hP (fun b u hb e => hx b u hb e) htab'.2 I2.bare
    exact thn (cont _ h' tk _ J3 ⟨⟨_, upd_same, htr'⟩, fun b hb => upd_ne hb⟩ (T.keep _ _ _ st2 fun b hb o e => hx b o (fpP b hb) e)) fun bi s4 h4 h'' a1 a2 => Calls.spliced_nil (h4 h'' a1 a2)
  | some cv =>
    refine wpAny_genexprCode_hit hcode (cd.code hPs htr) hf ?_
    exact thn (cont cv s2.heap s2.toks H2 I2 ⟨⟨ps, hP, htr⟩, fun _ _ => rfl⟩ st2) fun bi s4 h4 h'' a1 a2 => Calls.spliced_nil (h4 h'' a1 a2)
end
end Ln


set_option Elab.async false
set_option linter.all false
set_option maxRecDepth 100000
set_option maxHeartbeats 4000000
namespace Ln
open PySem PySem.Spec PyProof.Rows L2

theorem keyIs_scan {k : Key} {v : Value} (h : keyIs k v = true) : v.scannable = true := by
  rcases keyIs_shape h with ⟨i, t, _, rfl⟩ | ⟨x, t, _, rfl⟩ <;> rfl

/-- whether k is among the keys l -/
def memK (l : List Key) (k : Key) : Bool := l.any fun j => decide (j = k)
theorem memK_iff {l : List Key} {k : Key} : memK l k = true ↔ k ∈ l := by
  unfold memK
  rw [List.any_eq_true]
  constructor
  · intro ⟨j, hj, e⟩
    rw [← of_decide_eq_true e]
    exact hj
  · intro h
    exact ⟨k, h, decide_eq_true rfl⟩
theorem memK_app {l : List Key} {k k' : Key} : memK (l ++ [k]) k' = (memK l k' || decide (k' = k)) := by
  unfold memK
  rw [List.any_append]
  congr 1
  show (decide (k = k') || false) = _
  rw [Bool.or_false]
  by_cases e : k = k'
  · rw [e]
  · rw [decide_eq_false e, decide_eq_false fun q => e q.symm]
theorem setOf_eq {P : Program} {w : World} {h : Heap} {a : Addr} {S S' : Key → Bool} {n : Nat} (hS : h.SetOf (mixKind P w) a S n) (e : ∀ k, S k = S' k) : h.SetOf (mixKind P w) a S' n := by
  have : S = S' := funext e
  subst this
  exact hS
/-- the set of the first i keys stands at a: m members -/
def SetUp (P : Program) (w : World) (h : Heap) (a : Addr) (ks : List Key) (i : Nat) : Prop :=
  ∃ m, h.SetOf (mixKind P w) a (memK (ks.take i)) m ∧ m ≤ i ∧ (m = i ↔ (ks.take i).Nodup)
theorem nodup_snoc {α : Type} {l : List α} {x : α} : (l ++ [x]).Nodup ↔ l.Nodup ∧ x ∉ l := by
  rw [List.nodup_append]
  constructor
  · intro ⟨a, _, c⟩
    exact ⟨a, fun hx => c x hx x List.mem_cons_self rfl⟩
  · intro ⟨a, b⟩
    refine ⟨a, List.nodup_cons.mpr ⟨by simp, List.nodup_nil⟩, fun y hy z hz e => ?_⟩
    rw [List.mem_singleton] at hz
    exact b (by rw [← hz, ← e]; exact hy)
theorem setUp_step {P : Program} {w : World} {h' : Heap} {a : Addr} {ks : List Key} {i m : Nat} {k : Key} (hk : ks[i]? = some k) (hm : m ≤ i) (hn : m = i ↔ (ks.take i).Nodup)
    (hs : h'.SetOf (mixKind P w) a (fun k' => memK (ks.take i) k' || decide (k' = k)) (if memK (ks.take i) k then m else m + 1)) : SetUp P w h' a ks (i + 1) := by
  have ht : ks.take (i + 1) = ks.take i ++ [k] := by rw [List.take_add_one, hk]; rfl
  refine ⟨if memK (ks.take i) k then m else m + 1, setOf_eq hs (fun k' => by rw [ht, memK_app]), ?_, ?_⟩
  · split <;> omega
  · rw [ht, nodup_snoc]
    by_cases e : k ∈ ks.take i
    · rw [if_pos (memK_iff.mpr e)]
      exact ⟨fun q => by omega, fun q => absurd e q.2⟩
    · rw [if_neg fun q => e (memK_iff.mp q)]
      exact ⟨fun q => ⟨hn.mp (by omega), e⟩, fun q => by have := hn.mpr q.1; omega⟩

section
variable {P : Program} {w : World} {A : Around} {R : Result → Shared → Prop} {it : Addr} {fp wr : List Addr} {G : Array GenState → Array GenState → Prop} {n : Nat} {Pv : Nat → Value → Prop} {St : Nat → Shared → Prop}
theorem loop_keys (W : WalksS P w A.in1 it fp wr G n Pv St) (S : Addr) (hSf : S ∉ fp) (ks : List Key) (hval : ∀ (i : Nat) (v : Value), Pv i v → ∃ k : Key, ks[i]? = some k ∧ keyIs k v = true) (hb : n + 1 < scanBound) :
    ∀ (d i : Nat) (s : Shared), n - i = d → i ≤ n → St i s → SetUp P w s.heap S ks i →
      (∀ s', Moved (S :: wr) G s s' → SetUp P w s'.heap S ks n → R (.ok (.ret .none)) s') →
      codeAny (model P w) A (.builtin "set.update.loop" ⟨[.ref S, .ref it], []⟩) R s := by
  have nwr : S ∉ wr := fun z => hSf (W.sub _ z)
  have more : ∀ b ∈ wr, b ∈ S :: wr := fun b z => List.mem_cons_of_mem S z
  intro d
  induction d with
  | zero =>
    intro i s hd hi st ⟨m, hS, hm, hn⟩ hR
    obtain rfl : i = n := by omega
    refine codeAny_builtin PyProof.Rows.F.entry_set_update_loop ?_
    rw [Around.under_plainId (PyProof.Rows.F.plain_set_update_loop) _]
    show wpAny (model P w) A.in1 (pyNext (.ref it) >>= _) _ _ s
    refine wpAny_bind (W.done s _ _ st fun s1 hmv => ?_)
    exact wpAny_pure (hR s1 (hmv.mono more) ⟨m, setOf_at hS fun o e => hmv.heap S o nwr e, hm, hn⟩)
  | succ d ih =>
    intro i s hd hi st ⟨m, hS, hm, hn⟩ hR
    have hlt : i < n := by omega
    refine codeAny_builtin PyProof.Rows.F.entry_set_update_loop ?_
    rw [Around.under_plainId (PyProof.Rows.F.plain_set_update_loop) _]
    show wpAny (model P w) A.in1 (pyNext (.ref it) >>= _) _ _ s
    refine wpAny_bind (W.item i s _ _ hlt st fun v s1 hv st1 hmv => ?_)
    obtain ⟨k, hk, kv⟩ := hval i v hv
    have hS1 := setOf_at hS fun o e => hmv.heap S o nwr e
    show wpAny (model P w) A.in1 (holding [v] (setAdd S v) >>= _) _ _ s1
    refine wpAny_bind (wpAny_holding ?_)
    unfold setAdd
    refine wpAny_holding (wpAny_bind ((mixKind P w).pyHash (k := k) kv ?_))
    refine wpAny_setAddHashed_of (knd := mixKind P w) (s := { s1 with toks := s1.toks + 1 }) kv (keyIs_scan kv) hS1 (by omega) fun h2 sb hS2 => ?_
    refine wpAny_pure ⟨plainId_quiet (PyProof.Rows.F.plain_set_update_loop) _, ih (i + 1) _ (by omega) hlt (W.frame _ s1 _ _ st1 (Nat.le_succ _) fun b hbf o e => ?_) (setUp_step hk hm hn hS2) fun s3 hm3 hS3 => ?_⟩
    · exact (sb.2 b fun z => hSf (z ▸ hbf)).trans e
    · refine hR s3 (Moved.trans W.gtrans ((hmv.mono more).then_heap (Nat.le_succ _) fun b o hbw e => ?_) hm3) hS3
      exact (sb.2 b fun z => hbw (by rw [z]; exact List.mem_cons_self)).trans e
end

abbrev sObj (led : Bool) : Obj := { cls := .type "set", dict := none, data := .set #[] 0 (.fresh 0 0 led) }
section
variable {P : Program} {w : World} {A : Around} {E : Value → Shared → Prop} {s : Shared}
theorem call_set_keys {l : Addr} {items : Array Value} {ks : List Key} {Q : Value → Shared → Prop}
    (hh : A.handled = none) (hl : s.heap.IsTuple l items) (hk : ks.length = items.size) (hi : ∀ (i : Nat) (v : Value), items[i]? = some v → ∃ k : Key, ks[i]? = some k ∧ keyIs k v = true) (hb : items.size + 1 < scanBound)
    (h : ∀ (h' : Heap) (tk : Nat), SetUp P w h' s.heap.objs.size ks items.size → (∀ b o, b < s.heap.objs.size → s.heap.get? b = some o → h'.get? b = some o) → Q (.ref s.heap.objs.size) { s with heap := h', toks := tk }) :
    wpAny (model P w) A (call (.type "set") [.ref l]) Q E s := by
  obtain ⟨mro1, mro2, hmro⟩ := PySem.F.called_set.mro
  have made := PySem.F.called_set.made
  have subs := PySem.F.called_set.sub
  refine wpAny_call (codeAny_of_tree ?_)
  show wpAny (model P w) _ (callAny (.type "set") _) _ _ _
  refine wpAny_pure ⟨Code.quiet_builtin _ (by decide +kernel), codeAny_builtin (PySem.F.entry_type_call) ?_⟩
  rw [Around.under_plain (weight_type_call_type "set" [Value.ref l] []) rfl]
  have notT := PySem.F.called_set.notType
  have canC := PySem.F.called_set.canCreate
  have chk := PySem.F.typeCall_set_1 (Value.ref l)
  repeat (any_goals (first | assumption | wp_step))
  refine codeAny_mono (code_set_new_1 (.ref l) (E := E) (Q₁ := fun ob s1 => ∃ led, ob = .ref s.heap.objs.size ∧ s1 = { s with heap := s.heap.push (sObj led) }) fun led => ⟨led, rfl, rfl⟩) fun r s1 hr => ?_
  match r, hr with
  | .error e, hr => exact hr
  | .ok .next, hr => exact hr.elim
  | .ok .brk, hr => exact hr.elim
  | .ok .cont, hr => exact hr.elim
  | .ok (.ret ob), hr =>
    obtain ⟨led, rfl, rfl⟩ := hr
    have hS : (s.heap.push (sObj led)).get? s.heap.objs.size = some (sObj led) := Heap.get?_push_size _ rfl
    have tyS : Shared.TypeIs { s with heap := s.heap.push (sObj led) } (.ref s.heap.objs.size) "set" := ⟨_, hS, rfl⟩
    have lkI := PySem.F.called_set.init.lookup
    have bdI := PySem.F.called_set.init.bind (.ref s.heap.objs.size)
    repeat (any_goals (first | assumption | wp_step))
    refine codeAny_mono (codeAny_call_builtin (R := wants (fun r s2 => r = .none ∧ ∃ h' tk, s2 = { s with heap := h', toks := tk } ∧ SetUp P w h' s.heap.objs.size ks items.size ∧ (∀ b o, b < s.heap.objs.size → s.heap.get? b = some o → h'.get? b = some o)) E)
      (PySem.F.called_set.init.plain) (PySem.F.entry_set_init) (check_set_init_1 tyS ?_)) fun r2 s2 hr2 => ?_
    · obtain ⟨ob, hob, hcl, nl, hdl⟩ := hl
      obtain ⟨oc, od, oda, osl⟩ := ob
      simp only at hcl hdl
      subst hcl
      subst hdl
      have hob1 : (s.heap.push (sObj led)).get? l = some { cls := .type "tuple", dict := od, data := .seq items nl, slots := osl } := Heap.get?_push_of_some _ hob
      have n1 := PySem.F.sub_tuple_set
      have n2 := PySem.F.sub_tuple_frozenset
      have n3 : (Value.type "tuple" == Value.type "dict") = false := by decide
      have tup1 : (s.heap.push (sObj led)).IsTuple l items := ⟨_, hob1, rfl, nl, rfl⟩
      unfold Builtin.«set.__init__» noKeywords Builtin.Frozenset.updateFrom
      generalize hPI : pyIter = PI
      wp_walk
      subst hPI
      refine wpAny_pyIter_tuple tup1 (wpAny_bind (wpAny_runValue ?_))
      have lS : l < s.heap.objs.size := Heap.lt_size hob
      have hne : l ≠ (s.heap.push (sObj led)).objs.size := by
        rw [Heap.size_push]
        exact Nat.ne_of_lt (Nat.lt_succ_of_lt lS)
      have nS : s.heap.objs.size ∉ [(s.heap.push (sObj led)).objs.size, l] := by
        rw [Heap.size_push]
        intro z
        rcases List.mem_cons.mp z with z | z
        · exact absurd z (Nat.ne_of_lt (Nat.lt_succ_self _))
        · exact absurd (List.mem_singleton.mp z) (Nat.ne_of_gt lS)
      refine loop_keys ((Walks.tuple (show A.in1.in1.in1.handled = none by simp [hh]) _ l hne items).toS) s.heap.objs.size nS ks hi hb (items.size - 0) 0 _ (by omega) (Nat.zero_le _) ⟨⟨_, Heap.get?_push_size _ rfl, rfl, rfl⟩, tup1.push _⟩ ?hS0 ?hR
      case hS0 =>
        have got : ((s.heap.push (sObj led)).push { cls := .type "tuple_iterator", data := .fields #[.ref l, .int 0 0] }).get? s.heap.objs.size = some (sObj led) := Heap.get?_push_of_some _ hS
        have e0 : ((s.heap.push (sObj led)).push { cls := .type "tuple_iterator", data := .fields #[.ref l, .int 0 0] }).SetOf (mixKind P w) s.heap.objs.size (memK (ks.take 0)) 0 :=
          ⟨_, #[], 0, _, got, ⟨rfl, rfl, rfl⟩, rfl, (fun e he => by simp at he), (fun k => by simp [memK]), (by decide), (by rfl), rfl⟩
        exact ⟨0, e0, Nat.le_refl _, by simp⟩
      case hR =>
        intro s3 hmv hS3
        obtain ⟨h3, g3, d3, t3, o3⟩ := s3
        have eg : g3 = s.gens := hmv.gens
        have ed : d3 = s.drawn := hmv.drawn
        have eo : o3 = s.os := hmv.os
        subst eg ed eo
        show wpAny (model P w) _ _ _ _ _
        refine wpAny_pure ?_
        show wpAny (model P w) _ (ret Value.none) _ _ _
        refine wpAny_pure ⟨rfl, h3, t3, rfl, hS3, fun b o hb2 e => ?_⟩
        refine hmv.heap b o (fun z => ?_) (Heap.get?_push_of_some _ (Heap.get?_push_of_some _ e))
        rcases List.mem_cons.mp z with z | z
        · exact Nat.ne_of_lt hb2 z
        · have z := List.mem_singleton.mp z
          rw [Heap.size_push] at z
          exact Nat.ne_of_lt (Nat.lt_succ_of_lt hb2) z
    · match r2, hr2 with
      | .error e, hr2 => exact hr2
      | .ok .next, hr2 => exact hr2.elim
      | .ok .brk, hr2 => exact hr2.elim
      | .ok .cont, hr2 => exact hr2.elim
      | .ok (.ret r), hr2 =>
        obtain ⟨rfl, h3, t3, rfl, hS3, hk3⟩ := hr2
        repeat (any_goals (first | assumption | wp_step))
        exact h _ _ hS3 hk3
end
end Ln


set_option maxRecDepth 100000
namespace Ln
open PySem
/-! ### the text -/
def topS (i : Nat) : Stmt := PySem.Challenge.pw_openlane_k14_reasons_for_lanes.main.body.getD i (.Pass ⟨0, 0, 0, 0⟩)
abbrev sIsCar : Stmt := topS 5
abbrev sIsLane : Stmt := topS 6
abbrev sIsArr : Stmt := topS 7
abbrev sIsDep : Stmt := topS 8
abbrev sHasW : Stmt := topS 9
abbrev sIsLog : Stmt := topS 10
abbrev sReqLane : Stmt := topS 11
abbrev sReqLog : Stmt := topS 12
abbrev sSizes : Stmt := topS 13
abbrev sNumbers : Stmt := topS 14
abbrev sCell : Stmt := topS 31
abbrev sBag : Stmt := topS 33
abbrev sTake : Stmt := topS 34
abbrev sNames : Stmt := topS 35
abbrev sBuilt : Stmt := topS 36
abbrev sOpp : Stmt := topS 15
abbrev sDepC : Stmt := topS 16
abbrev sExtras : Stmt := topS 18
abbrev sFirstNeg : Stmt := topS 19
abbrev sBlockR : Stmt := topS 20
abbrev sIsPoss : Stmt := topS 22
abbrev sWhyNot : Stmt := topS 23
abbrev sReqFin : Stmt := topS 24
abbrev sHasRC : Stmt := topS 25
abbrev sHasBlk : Stmt := topS 26
abbrev sFirstPk : Stmt := topS 27
abbrev sArrSt : Stmt := topS 28
abbrev sSwitch : Stmt := topS 29
abbrev sLaw : Stmt := topS 45
abbrev sBent : Stmt := topS 40
abbrev sFolk : Stmt := topS 39
abbrev sSame : Stmt := topS 32
abbrev sSwC : Stmt := topS 42
abbrev sReason : Stmt := topS 43
abbrev sLived : Stmt := topS 37
abbrev sSided : Stmt := topS 41
abbrev sTruth : Stmt := topS 44
abbrev sCounts : Stmt := topS 38
end Ln


set_option Elab.async false
set_option linter.all false
set_option maxRecDepth 100000
set_option maxHeartbeats 2000000
namespace Ln
open PySem PySem.Spec PyProof.Rows L2 GxR
/-! ### the text -/
/-- a def of the text, its code object known -/
structure FunC (K : PySem.W.Frag) (x qual : Str) (st : Stmt) (f : Addr) (fd : FuncData) (c : Addr) : Prop where
  ex : ∃ (oc : Value) (od : Option Addr) (kV doc pm : Value) (an : Option Addr) (ct : Value) (osl : Array (Option Value)),
    fd = PySem.W.fnOf x qual (defArgs st) (defBody st) (defScope st) .none kV doc pm an (.ref c) ct ∧ K.lookup f = some ⟨oc, od, .func fd, osl⟩ ∧ PySem.W.codeIn K (.ref c) qual = true
  kp : PySem.W.keepIn K (.ref f) = true
theorem FunC.fn {K : PySem.W.Frag} {x qual : Str} {st : Stmt} {f : Addr} {fd : FuncData} {c : Addr} (F : FunC K x qual st f fd c) : Fun K x qual st f fd := by
  obtain ⟨oc, od, kV, doc, pm, an, ct, osl, e, lk, hc⟩ := F.ex
  exact ⟨⟨oc, od, kV, doc, pm, an, .ref c, ct, osl, e, lk, hc⟩, F.kp⟩
theorem FunC.ok {P : Program} {w : World} {K : PySem.W.Frag} {mg : Str → Option Value} {base : Heap} {x qual : Str} {st : Stmt} {f : Addr} {fd : FuncData} {c : Addr} {N ps : List Str} {k : Nat} {sp : Sp} (F : FunC K x qual st f fd c) (S : FnScope N ps (defScope st))
    (len : ∀ vs H Q E, sp vs H Q E → vs.length = ps.length)
    (hbody : ∀ (A : Around) (outer : List Env) (s : Shared) (H : Hp) (vs : List V) (Q : VK) (E : XK), Room k (A.deeper (envOfC qual (defScope st) s.heap.objs.size f (.ref c))) → sp vs H Q E →
      ∃ t, PSs (cxOf CX0 P w K mg base N qual (defScope st) f (.ref c) A outer s H E).nox (defBody st) t ∧ t { nx := fun _ H' => Q .non H', rt := Q } (start N vs) H) : FnOk P w K mg base CX0 (k + 1) f fd ps sp := by
  obtain ⟨oc, od, kV, doc, pm, an, ct, osl, rfl, lk, hcd⟩ := F.ex
  refine fn_of lk hcd S len fun A outer s H vs Q E hr hsp => ?_
  obtain ⟨t, h, q⟩ := hbody A outer s H vs Q E hr hsp
  exact ⟨t, h.nox, q⟩

/-! ### heaps -/
/-- what stood stands, but for the tables Ps, which may have grown -/
structure Kp (Ps : List Addr) (H H' : Hp) : Prop where
  at_ : ∀ b o, H b = some o → b ∉ Ps → H' b = some o
  tab : ∀ p ∈ Ps, TabG H' p
def Tabs (Ps : List Addr) (H : Hp) : Prop := ∀ p ∈ Ps, TabG H p
section
variable {Ps : List Addr} {H H1 H2 : Hp} {a p : Addr} {o : HO} {K : PySem.W.Frag} {xs : List V}
theorem Kp.refl (h : Tabs Ps H) : Kp Ps H H := ⟨fun _ _ e _ => e, h⟩
theorem Kp.tabs (h : Kp Ps H H1) : Tabs Ps H1 := h.tab
theorem Kp.trans (h : Kp Ps H H1) (k : Kp Ps H1 H2) : Kp Ps H H2 := ⟨fun b o e n => k.at_ b o (h.at_ b o e n) n, k.tab⟩
theorem tab_ne (h : Tabs Ps H) (e : H a = some o) (hn : ∀ q, o ≠ .tbl q) : a ∉ Ps := fun z => by
  obtain ⟨ps, e2, _⟩ := h a z
  rw [e2] at e
  exact hn ps (Option.some.inj e).symm
theorem tab_free (h : Tabs Ps H) (e : H a = none) : a ∉ Ps := fun z => by
  obtain ⟨ps, e2, _⟩ := h a z
  rw [e2] at e
  cases e
theorem Kp.new (h : Tabs Ps H) (e : H p = none) : Kp Ps H (upd H p o) :=
  ⟨fun b u q _ => by rw [upd_ne (ne_of_none q e)]; exact q, fun q hq => by
    obtain ⟨ps, e2, t⟩ := h q hq
    exact ⟨ps, by rw [upd_ne (ne_of_none e2 e)]; exact e2, t⟩⟩
theorem Kp.tabbed (h : Tabs Ps H) (hp : p ∈ Ps) (t : Tabbed p H H1) : Kp Ps H H1 :=
  ⟨fun b u q n => (t.2 b fun z => n (z ▸ hp)).trans q, fun q hq => by
    by_cases e : q = p
    · rw [e]
      exact t.1
    · obtain ⟨ps, e2, r⟩ := h q hq
      exact ⟨ps, (t.2 q e).trans e2, r⟩⟩
theorem Kp.lst (k : Kp Ps H H1) (h : Tabs Ps H) (e : H a = some (.lst xs)) : H1 a = some (.lst xs) := k.at_ a _ e (tab_ne h e fun q z => by cases z)
theorem Kp.tup (k : Kp Ps H H1) (h : Tabs Ps H) (e : H a = some (.tup xs)) : H1 a = some (.tup xs) := k.at_ a _ e (tab_ne h e fun q z => by cases z)
theorem Kp.ext {φ : Heap → Prop} (k : Kp Ps H H1) (h : Tabs Ps H) (e : H a = some (.ext φ)) : H1 a = some (.ext φ) := k.at_ a _ e (tab_ne h e fun q z => by cases z)
theorem Kp.seqL (k : Kp Ps H H1) (h : Tabs Ps H) (e : SqL K H a xs) : SqL K H1 a xs := by
  rcases e with (e | ⟨ob, e⟩) | e
  · exact .inl (.inl (k.lst h e))
  · exact .inl (.inr ⟨ob, k.at_ a _ e (tab_ne h e fun q z => by cases z)⟩)
  · exact .inr e
theorem Kp.seqT (k : Kp Ps H H1) (h : Tabs Ps H) (e : SqT K H a xs) : SqT K H1 a xs := by
  rcases e with (e | ⟨ob, e⟩) | e
  · exact .inl (.inl (k.tup h e))
  · exact .inl (.inr ⟨ob, k.at_ a _ e (tab_ne h e fun q z => by cases z)⟩)
  · exact .inr e
/-- what is free behind was free before, tables apart -/
theorem Kp.free (k : Kp Ps H H1) (h : Tabs Ps H) (e : H1 p = none) : H p = none := by
  cases q : H p with
  | none => rfl
  | some u =>
    by_cases z : p ∈ Ps
    · exact absurd e (by
        obtain ⟨ps, e2, _⟩ := k.tab p z
        rw [e2]
        exact fun y => by cases y)
    · rw [k.at_ p u q z] at e
      cases e
end
end Ln


set_option Elab.async false
set_option linter.all false
set_option maxRecDepth 100000
set_option maxHeartbeats 2000000
namespace Ln
open PySem PySem.Spec PyProof.Rows L2 GxR
/-- the program's text as it stands: what its defs lean on -/
structure Bi (mg : Str → Option Value) : Prop where
  isi : mg "isinstance" = none
  len : mg "len" = none
  all : mg "all" = none
  str : mg "str" = none
  tup : mg "tuple" = none
  lst : mg "list" = none
  set : mg "set" = none
  zip : mg "zip" = none
def lowB (c : Nat) : Bool := decide (97 ≤ c) && decide (c ≤ 122)
def carB (x : Str) : Bool := decide (1 ≤ x.length) && decide (x.length ≤ 4) && x.cps.toList.all lowB
theorem scIsCar : FnScope ["value"] ["value"] (defScope sIsCar) := ⟨rfl, rfl, rfl, by decide +kernel, rfl, by decide +kernel, by decide +kernel⟩
section
variable {P : Program} {w : World} {K : PySem.W.Frag} {mg : Str → Option Value} {base : Heap} {Ps : List Addr}
def spCar (Ps : List Addr) : Sp := fun vs H Q _ => ∃ c : Str, vs = [.str c] ∧ c.length ≤ sizeLine ∧ Tabs Ps H ∧ ∀ H', Kp Ps H H' → Q (.bl (carB c)) H'
theorem ok_car {f c P1 : Addr} {fd : FuncData} (F : FunC K "is_car" "is_car" sIsCar f fd c) (B : Bi mg) (TB : TabB base mg c P1) (hP : P1 ∈ Ps) : FnOk P w K mg base CX0 2 f fd ["value"] (spCar Ps) := by
  refine F.ok scIsCar (fun vs H Q E h => ?_) (fun A outer s H vs Q E hr h => ?_)
  · obtain ⟨z, rfl, _⟩ := h
    rfl
  · obtain ⟨z, rfl, hz, hT, q⟩ := h
    refine ⟨_, pss_cons (ps_if (PW.pt (pw_or (pt_not (pt_val (pe_callB call_isi (by rfl) B.isi (by decide +kernel) (pa_cons (pv 0) (pa_cons (pe_bltn (by rfl) B.str (by decide +kernel) (v := .ty "str") rfl) pa_nil)))))
        (pw_or1 (pt_not (pt_chain op_le op_le pe_int (pe_callB call_len_str (by rfl) B.len PySem.boot_len (pa_cons (pv 0) pa_nil)) pe_int)))))
        (pss_one (ps_ret pe_bl)) pss_nil)
      (pss_one (ps_ret (pe_allG (k := 0) hr rfl (by rfl) B.all TB rfl ⟨rfl, rfl, by decide +kernel, by decide +kernel, rfl, rfl⟩ (pi_str (pv 0))
        (fun _ _ _ _ _ _ _ _ _ => pe_chain op_le_str op_le_str pe_str (pv 0) pe_str)))), ?_⟩
    refine ⟨_, rfl, .str z, .ty "str", .type "str", .type "str", true, rfl, .ty _, .base (.str z), kit_ty (by decide +kernel), true, rfl, ?_⟩
    refine iteF ?_
    refine ⟨.str z, rfl, z, rfl, hz, 1, (z.length : Int), rfl, rfl, _, rfl, ?_⟩
    have out : ¬ (1 ≤ z.length ∧ z.length ≤ 4) → Q (.bl false) H := fun hn => by
      have e : carB z = false := by
        unfold carB
        by_cases a : 1 ≤ z.length
        · by_cases b : z.length ≤ 4
          · exact absurd ⟨a, b⟩ hn
          · simp [b]
        · simp [a]
      have := q H (Kp.refl hT)
      rw [e] at this
      exact this
    refine ite2 (fun h1 => ?_) (fun h1 => ?_)
    · have h1 : (1 : Int) ≤ z.length := of_decide_eq_true h1
      refine ⟨_, _, rfl, rfl, _, rfl, ?_⟩
      by_cases h4 : z.length ≤ 4
      · rw [decide_eq_true (show (z.length : Int) ≤ 4 by omega)]
        refine iteF ?_
        -- all('a' <= letter <= 'z' ..)
        refine ⟨.str z, rfl, z, rfl, hT P1 hP, fun i m H' => m = z.length - i ∧ Kp Ps H H' ∧ i ≤ z.length ∧ (z.cps.toList.take i).all lowB = true, fun H2 hH => ⟨z.length, by omega, Kp.tabbed hT hP hH, Nat.zero_le _, rfl⟩, fun i m H' hW => ?_⟩
        obtain ⟨rfl, kp, hi, hall⟩ := hW
        by_cases hlt : i < z.length
        · refine .inr ⟨hlt, fun v H3 hy => ?_⟩
          obtain ⟨rfl, c, hc, rfl⟩ := hy
          have cl : ∀ y : Nat, (⟨#[y]⟩ : Str).cps.toList = [y] := fun y => rfl
          have ca : ("a" : Str).cps.toList = [97] := by decide +kernel
          have cz : ("z" : Str).cps.toList = [122] := by decide +kernel
          have lt1 : ∀ x y : Nat, ([x] < [y]) ↔ x < y := fun x y => by rw [List.cons_lt_cons_iff]; simp
          refine ⟨.str ⟨#[c]⟩, rfl, _, _, rfl, rfl, _, rfl, ?_⟩
          have hcl : z.cps.toList[i]? = some c := by rw [Array.getElem?_toList]; exact hc
          have fin : lowB c = false → Q (.bl false) H3 := fun e => by
            have e2 : carB z = false := by
              unfold carB
              have : z.cps.toList.all lowB = false := by
                rw [List.all_eq_false]
                exact ⟨c, List.mem_of_getElem? hcl, by rw [e]; simp⟩
              rw [this, Bool.and_false]
            have := q H3 kp
            rw [e2] at this
            exact this
          by_cases h97 : 97 ≤ c
          · have e1 : (!decide ((⟨#[c]⟩ : Str).cps.toList < ("a" : Str).cps.toList)) = true := by rw [ca, cl, decide_eq_false (by rw [lt1]; omega)]; rfl
            rw [e1]
            refine iteT ⟨_, _, rfl, rfl, _, rfl, ?_⟩
            by_cases h122 : c ≤ 122
            · have e2 : (!decide (("z" : Str).cps.toList < (⟨#[c]⟩ : Str).cps.toList)) = true := by rw [cz, cl, decide_eq_false (by rw [lt1]; omega)]; rfl
              rw [e2]
              refine iteT ⟨z.length - (i + 1), by omega, rfl, kp, hlt, ?_⟩
              rw [List.take_add_one, hcl, List.all_append, hall]
              simp [lowB, h97, h122]
            · have e2 : (!decide (("z" : Str).cps.toList < (⟨#[c]⟩ : Str).cps.toList)) = false := by rw [cz, cl, decide_eq_true (by rw [lt1]; omega)]; rfl
              rw [e2]
              exact iteF (fin (by simp [lowB, h122]))
          · have e1 : (!decide ((⟨#[c]⟩ : Str).cps.toList < ("a" : Str).cps.toList)) = false := by rw [ca, cl, decide_eq_true (by rw [lt1]; omega)]; rfl
            rw [e1]
            exact iteF ⟨_, rfl, iteF (fin (by simp [lowB, h97]))⟩
        · refine .inl ⟨by show z.cps.size ≤ i; exact Nat.le_of_not_lt hlt, ?_⟩
          have e : carB z = true := by
            have : i = z.length := by omega
            rw [this, List.take_of_length_le (Nat.le_of_eq (by show z.cps.toList.length = z.cps.size; simp))] at hall
            have a : 1 ≤ z.length := by omega
            simp [carB, a, h4, hall]
          have := q H' kp
          rw [e] at this
          exact this
      · rw [decide_eq_false (show ¬ (z.length : Int) ≤ 4 by omega)]
        exact iteT (out (by omega))
    · have h1 : ¬ (1 : Int) ≤ z.length := fun z => h1 (decide_eq_true z)
      exact ⟨_, rfl, iteT (out (by omega))⟩
end
end Ln


set_option Elab.async false
set_option linter.all false
set_option maxRecDepth 100000
set_option maxHeartbeats 2000000
namespace Ln
open PySem PySem.Spec PyProof.Rows L2 GxR
section
variable {X : Cx}
/-- set(t), t a tuple of texts -/
def rSetT (K : PySem.W.Frag) (P : Program) (w : World) : List V → Hp → VK → Prop := fun vs H Q => ∃ (a : Addr) (xs : List Str), vs = [.ref a] ∧ SqT K H a (xs.map V.str) ∧ xs.length ≤ 1000 ∧
  ∀ p n, H p = none → n ≤ xs.length → (n = xs.length ↔ xs.Nodup) → Q (.ref p) (upd H p (SetK P w p (memK (xs.map Sum.inr)) n))
theorem nodup_inr {xs : List Str} : (xs.map (Sum.inr : Str → Key)).Nodup ↔ xs.Nodup := by
  constructor
  · intro h
    exact (List.pairwise_map.mp h).imp fun hne e => hne (by rw [e])
  · intro h
    exact List.pairwise_map.mpr (h.imp fun hne e => hne (Sum.inr.inj e))
theorem cr_setT (hc : X.calm = true) : CallR X (.type "set") (rSetT X.K X.prog X.w) := by
  intro pins s σ H vs us Q I r h
  obtain ⟨a, xs, rfl, hS, hlen, q⟩ := h
  obtain ⟨u, rfl, r1⟩ := vals1 r
  obtain rfl : u = Value.ref a := r1
  obtain ⟨its, rv, p, _⟩ := I.tuple hS
  have hl : its.toArray.size = xs.length := by rw [List.size_toArray, ← rv.length, List.length_map]
  refine call_set_keys (ks := xs.map Sum.inr) (I.ok.hd hc) (show s.heap.IsTuple a its.toArray from p) (by rw [hl, List.length_map]) (fun i v hv => ?_) (by rw [hl]; unfold scanBound; omega) fun h' tk hS' hk => ?_
  · have hv' : its[i]? = some v := by simpa using hv
    have hi : i < xs.length := by
      rw [← hl]
      exact (Array.getElem?_eq_some_iff.mp hv).1
    have hx : (xs.map V.str)[i]? = some (V.str xs[i]) := by rw [List.getElem?_map, List.getElem?_eq_getElem hi]; rfl
    obtain ⟨u, hu, ru⟩ := rv.get hx
    rw [hv'] at hu
    obtain rfl : v = u := Option.some.inj hu
    obtain ⟨t, rfl⟩ := ru
    exact ⟨Sum.inr xs[i], by rw [List.getElem?_map, List.getElem?_eq_getElem hi]; rfl, keyIs_str _ _⟩
  · rw [hl] at hS'
    obtain ⟨m, hm, hle, hn⟩ := hS'
    rw [List.take_of_length_le (by rw [List.length_map]; exact Nat.le_refl _)] at hm hn
    have hf : H s.heap.objs.size = none := I.hok.fresh (Nat.le_refl _)
    exact ⟨.ref s.heap.objs.size, _, I.laid (t' := tk) (fun b u e => hk b u (Heap.lt_size e) e) (Nat.le_refl _) (setK_new hm), rfl, q _ m hf hle (hn.trans nodup_inr)⟩
theorem call_len_setK : CallR X (.builtin "len") (fun vs H Q => ∃ a S n, vs = [.ref a] ∧ H a = some (SetK X.prog X.w a S n) ∧ n ≤ 1000 ∧ Q (.int (n : Nat)) H) := by
  intro pins s σ H vs us Q I r h
  obtain ⟨a, S, n, rfl, ha, hn, q⟩ := h
  obtain ⟨u, rfl, r1⟩ := vals1 r
  obtain rfl : u = Value.ref a := r1
  obtain ⟨o, es, ep, t, ho, hex, hd, _, _, _, hf, hsz⟩ := setK_get I ha
  subst hsz
  exact call_len_set ho hex hd hf (by omega) ⟨.int es.size, H, I.tok _, ⟨_, rfl⟩, q⟩
end
theorem tyx_tup {K : PySem.W.Frag} {H : Hp} {a : Addr} {xs : List V} (h : SqT K H a xs) : TyX K H (.ref a) (.type "tuple") := by
  rcases h with (h | ⟨o, h⟩) | ⟨o, its, n, hk, hc, _⟩
  · exact .base (.tup h)
  · exact .fTuple h
  · exact .kTuple hk hc
theorem tyx_lst {K : PySem.W.Frag} {H : Hp} {a : Addr} {xs : List V} (h : SqL K H a xs) : TyX K H (.ref a) (.type "list") := by
  rcases h with (h | ⟨o, h⟩) | ⟨o, its, n, hk, hc, _⟩
  · exact .base (.lst h)
  · exact .base (.frz h)
  · exact .kList hk hc
def laneB (xs : List Str) : Bool := xs.all carB && decide xs.Nodup
theorem scIsLane : FnScope ["value"] ["value"] (defScope sIsLane) := ⟨rfl, rfl, rfl, by decide +kernel, rfl, by decide +kernel, by decide +kernel⟩
section
variable {P : Program} {w : World} {K : PySem.W.Frag} {mg : Str → Option Value} {base : Heap} {Ps : List Addr}
def spLane (K : PySem.W.Frag) (Ps : List Addr) : Sp := fun vs H Q _ => ∃ (a : Addr) (xs : List Str), vs = [.ref a] ∧ SqT K H a (xs.map V.str) ∧ xs.length ≤ 1000 ∧ (∀ x ∈ xs, x.length ≤ sizeLine) ∧ Tabs Ps H ∧ ∀ H', Kp Ps H H' → Q (.bl (laneB xs)) H'
theorem ok_lane {f c P1 fC : Addr} {fd fdC : FuncData} (F : FunC K "is_lane" "is_lane" sIsLane f fd c) (B : Bi mg) (TB : TabB base mg c P1) (hP : P1 ∈ Ps)
    (GC : FnOk P w K mg base CX0 2 fC fdC ["value"] (spCar Ps)) (mgC : mg "is_car" = some (.ref fC)) (kC : PySem.W.keepIn K (.ref fC) = true) (bC : Binds K fdC ["value"] []) : FnOk P w K mg base CX0 4 f fd ["value"] (spLane K Ps) := by
  refine F.ok scIsLane (fun vs H Q E h => ?_) (fun A outer s H vs Q E hr h => ?_)
  · obtain ⟨a, xs, rfl, _⟩ := h
    rfl
  · obtain ⟨a, xs, rfl, hS, hlen, hsz, hT, q⟩ := h
    refine ⟨_, pss_cons (ps_if (PW.pt (pw_or (pt_not (pt_val (pe_callB call_isi (by rfl) B.isi (by decide +kernel) (pa_cons (pv 0) (pa_cons (pe_bltn (by rfl) B.tup (by decide +kernel) (v := .ty "tuple") rfl) pa_nil)))))
        (pw_or1 (pt_not (pt_val (pe_allG (k := 2) hr rfl (by rfl) B.all TB rfl ⟨rfl, rfl, by decide +kernel, by decide +kernel, rfl, rfl⟩ (pi_tup (pv 0))
          (fun _ _ _ _ _ _ _ _ hk => pe_call GC hk rfl mgC kC bC .nil pass0 (pa_cons (pv 0) pa_nil))))))))
        (pss_one (ps_ret pe_bl)) pss_nil)
      (pss_one (ps_ret (pe_cmpR op_eq (pe_callB call_len_setK (by rfl) B.len PySem.boot_len (pa_cons (pe_callTy (cr_setT rfl) (by rfl) B.set (by decide +kernel) (pa_cons (pv 0) pa_nil)) pa_nil))
        (pe_callB call_len_seq (by rfl) B.len PySem.boot_len (pa_cons (pv 0) pa_nil)) (nomark _)))), ?_⟩
    refine ⟨_, rfl, .ref a, .ty "tuple", .type "tuple", .type "tuple", true, rfl, .ty _, tyx_tup hS, kit_ty (by decide +kernel), true, rfl, ?_⟩
    refine iteF ?_
    -- all(is_car(entry) ..)
    refine ⟨.ref a, rfl, a, rfl, ⟨_, hS⟩, hT P1 hP, fun i m H' => m = xs.length - i ∧ Kp Ps H H' ∧ i ≤ xs.length ∧ (xs.take i).all carB = true, fun H2 hH => ⟨xs.length, by omega, Kp.tabbed hT hP hH, Nat.zero_le _, rfl⟩, fun i m H' hW => ?_⟩
    obtain ⟨rfl, kp, hi, hall⟩ := hW
    have hS' := kp.seqT hT hS
    by_cases hlt : i < xs.length
    · have hx : (xs.map V.str)[i]? = some (V.str xs[i]) := by rw [List.getElem?_map, List.getElem?_eq_getElem hlt]; rfl
      refine .inr ⟨⟨_, _, hS', hx⟩, fun v H3 hy => ?_⟩
      obtain ⟨rfl, fv⟩ := hy
      obtain rfl : v = V.str xs[i] := Option.some.inj ((fv _ hS').symm.trans hx)
      refine ⟨_, rfl, xs[i], rfl, hsz _ (List.getElem_mem hlt), kp.tab, fun H4 kp4 => ⟨_, rfl, ?_⟩⟩
      refine ite2 (fun hc => ?_) (fun hc => ?_)
      · refine ⟨_, ?_, rfl, kp.trans kp4, hlt, ?_⟩
        · omega
        · rw [List.take_add_one, List.getElem?_eq_getElem hlt, List.all_append, hall]
          simp [hc]
      · have e : laneB xs = false := by
          unfold laneB
          have : xs.all carB = false := List.all_eq_false.mpr ⟨xs[i], List.getElem_mem hlt, hc⟩
          rw [this, Bool.false_and]
        have := q H4 (kp.trans kp4)
        rw [e] at this
        exact ⟨false, rfl, iteT this⟩
    · refine .inl ⟨⟨_, hS', by rw [List.length_map]; omega⟩, true, rfl, iteF ?_⟩
      have hall' : xs.all carB = true := by
        rw [List.take_of_length_le (by omega)] at hall
        exact hall
      refine ⟨.ref a, rfl, a, xs, rfl, hS', hlen, fun p n hp hn hnd => ?_⟩
      have k2 : Kp Ps H' (upd H' p (SetK P w p (memK (xs.map Sum.inr)) n)) := Kp.new kp.tab hp
      refine ⟨p, _, n, rfl, upd_same, by omega, .ref a, rfl, a, _, rfl, .inr (k2.seqT kp.tab hS'), rfl, ?_⟩
      have e : laneB xs = decide (V.int (n : Nat) = V.int ((xs.map V.str).length : Nat)) := by
        unfold laneB
        rw [hall', Bool.true_and, List.length_map]
        by_cases hh : xs.Nodup
        · rw [decide_eq_true hh, decide_eq_true (by rw [hnd.mpr hh])]
        · rw [decide_eq_false hh, decide_eq_false fun z => hh (hnd.mp (by have := V.int.inj z; omega))]
      have := q _ (kp.trans k2)
      rw [e] at this
      exact this
end
end Ln


set_option Elab.async false
set_option linter.all false
set_option maxRecDepth 100000
set_option maxHeartbeats 2000000
namespace Ln
open PySem PySem.Spec PyProof.Rows L2 GxR
/-- an event -/
inductive Ev where
  | inn (c : Str)
  | out
def Ev.vals : Ev → List V
  | .inn c => [.str "in", .str c]
  | .out => [.str "out"]
/-- a statement that is never reached -/
theorem ps_dead {X : Cx} {st : Stmt} : PS X st (fun _ _ _ => False) := ⟨fun _ _ _ _ _ _ h => h.elim⟩
theorem scHasW : FnScope ["value", "word", "length"] ["value", "word", "length"] (defScope sHasW) := ⟨rfl, rfl, rfl, by decide +kernel, rfl, by decide +kernel, by decide +kernel⟩
theorem scIsArr : FnScope ["value"] ["value"] (defScope sIsArr) := ⟨rfl, rfl, rfl, by decide +kernel, rfl, by decide +kernel, by decide +kernel⟩
theorem scIsDep : FnScope ["value"] ["value"] (defScope sIsDep) := ⟨rfl, rfl, rfl, by decide +kernel, rfl, by decide +kernel, by decide +kernel⟩
theorem scReqLane : FnScope ["value"] ["value"] (defScope sReqLane) := ⟨rfl, rfl, rfl, by decide +kernel, rfl, by decide +kernel, by decide +kernel⟩
section
variable {P : Program} {w : World} {K : PySem.W.Frag} {mg : Str → Option Value} {base : Heap} {Ps : List Addr}
def spHasW (K : PySem.W.Frag) : Sp := fun vs H Q _ => ∃ (a : Addr) (y wd : Str) (ys : List V) (n : Int), vs = [.ref a, .str wd, .int n] ∧ SqT K H a (.str y :: ys) ∧ Q (.bl (decide (((ys.length + 1 : Nat) : Int) = n) && decide (y = wd))) H
theorem ok_hasW {f : Addr} {fd : FuncData} (F : Fun K "has_word" "has_word" sHasW f fd) (B : Bi mg) : FnOk P w K mg base CX0 1 f fd ["value", "word", "length"] (spHasW K) := by
  refine F.ok scHasW (fun vs H Q E h => ?_) (fun cdv A outer s H vs Q E hr h => ?_)
  · obtain ⟨a, y, wd, ys, n, rfl, _⟩ := h
    rfl
  · obtain ⟨a, y, wd, ys, n, rfl, hS, q⟩ := h
    refine ⟨_, pss_one (ps_ret (pe_and (pe_callB call_isi (by rfl) B.isi (by decide +kernel) (pa_cons (pv 0) (pa_cons (pe_bltn (by rfl) B.tup (by decide +kernel) (v := .ty "tuple") rfl) pa_nil)))
      (pe_and (pe_cmpR op_eq (pe_callB call_len_seq (by rfl) B.len PySem.boot_len (pa_cons (pv 0) pa_nil)) (pv 2) (nomark _))
      (pe_and (pe_callB call_isi (by rfl) B.isi (by decide +kernel) (pa_cons (pe_ix ix_tup (pv 0) pe_int (fun _ _ => rfl)) (pa_cons (pe_bltn (by rfl) B.str (by decide +kernel) (v := .ty "str") rfl) pa_nil)))
      (pe_one (pe_cmpR op_eq (pe_ix ix_tup (pv 0) pe_int (fun _ _ => rfl)) (pv 1) (nomark _))))))), ?_⟩
    refine ⟨.ref a, rfl, .ref a, .ty "tuple", .type "tuple", .type "tuple", true, rfl, .ty _, tyx_tup hS, kit_ty (by decide +kernel), true, rfl, iteT ?_⟩
    refine ⟨.ref a, rfl, a, _, rfl, .inr hS, .int n, rfl, rfl, _, rfl, ?_⟩
    have e1 : decide (V.int (((.str y :: ys : List V).length : Nat) : Int) = V.int n) = decide (((ys.length + 1 : Nat) : Int) = n) := by
      by_cases h : ((ys.length + 1 : Nat) : Int) = n
      · rw [decide_eq_true h]
        exact decide_eq_true (by rw [← h]; rfl)
      · rw [decide_eq_false h]
        exact decide_eq_false fun z => h (V.int.inj z)
    rw [e1]
    refine ite2 (fun hn => ?_) (fun hn => ?_)
    · refine ⟨.ref a, rfl, a, _, 0, .str y, rfl, rfl, hS, atI_nat (j := 0) rfl, .str y, .ty "str", .type "str", .type "str", true, rfl, .ty _, .base (.str y), kit_ty (by decide +kernel), true, rfl, iteT ?_⟩
      refine ⟨.ref a, rfl, a, _, 0, .str y, rfl, rfl, hS, atI_nat (j := 0) rfl, .str wd, rfl, rfl, ?_⟩
      have e2 : decide (V.str y = V.str wd) = decide (y = wd) := by
        by_cases h : y = wd
        · rw [decide_eq_true h, decide_eq_true (by rw [h])]
        · rw [decide_eq_false h, decide_eq_false fun z => h (V.str.inj z)]
      rw [e2]
      rw [hn, Bool.true_and] at q
      exact q
    · have hn' : decide (((ys.length + 1 : Nat) : Int) = n) = false := by simpa using hn
      rw [hn', Bool.false_and] at q
      exact q
def spEv (K : PySem.W.Frag) (Ps : List Addr) (g : Ev → Bool) : Sp := fun vs H Q _ => ∃ (a : Addr) (e : Ev), vs = [.ref a] ∧ SqT K H a e.vals ∧ (∀ c, e = .inn c → c.length ≤ sizeLine) ∧ Tabs Ps H ∧ ∀ H', Kp Ps H H' → Q (.bl (g e)) H'
def arrB : Ev → Bool
  | .inn c => carB c
  | .out => false
def depB : Ev → Bool
  | .inn _ => false
  | .out => true
theorem ne_io : ¬ (("in" : Str) = "out") := by decide +kernel
theorem ne_oi : ¬ (("out" : Str) = "in") := by decide +kernel
theorem ok_arr {f fH fC : Addr} {fd fdH fdC : FuncData} (F : Fun K "is_arrival" "is_arrival" sIsArr f fd)
    (GH : FnOk P w K mg base CX0 1 fH fdH ["value", "word", "length"] (spHasW K)) (mgH : mg "has_word" = some (.ref fH)) (kH : PySem.W.keepIn K (.ref fH) = true) (bH : Binds K fdH ["value", "word", "length"] [])
    (GC : FnOk P w K mg base CX0 2 fC fdC ["value"] (spCar Ps)) (mgC : mg "is_car" = some (.ref fC)) (kC : PySem.W.keepIn K (.ref fC) = true) (bC : Binds K fdC ["value"] []) : FnOk P w K mg base CX0 3 f fd ["value"] (spEv K Ps arrB) := by
  refine F.ok scIsArr (fun vs H Q E h => ?_) (fun cdv A outer s H vs Q E hr h => ?_)
  · obtain ⟨a, e, rfl, _⟩ := h
    rfl
  · obtain ⟨a, e, rfl, hS, hsz, hT, q⟩ := h
    refine ⟨_, pss_one (ps_ret (pe_and (pe_call GH (hr.mono (by decide)) (by rfl) mgH kH bH .nil pass0 (pa_cons (pv 0) (pa_cons pe_str (pa_cons pe_int pa_nil))))
      (pe_one (pe_call GC hr (by rfl) mgC kC bC .nil pass0 (pa_cons (pe_ix ix_tup (pv 0) pe_int (fun _ _ => rfl)) pa_nil))))), ?_⟩
    cases e with
    | inn c =>
      refine ⟨.ref a, rfl, a, "in", "in", [.str c], 2, rfl, hS, _, rfl, ?_⟩
      rw [decide_eq_true (show ((([V.str c] : List V).length + 1 : Nat) : Int) = 2 from rfl), decide_eq_true (rfl : ("in" : Str) = "in")]
      refine iteT ⟨.ref a, rfl, a, _, 1, .str c, rfl, rfl, hS, atI_nat (j := 1) rfl, c, rfl, hsz c rfl, hT, fun H' kp => q H' kp⟩
    | out =>
      refine ⟨.ref a, rfl, a, "out", "in", [], 2, rfl, hS, _, rfl, ?_⟩
      rw [decide_eq_false ne_oi, Bool.and_false]
      exact iteF (q H (Kp.refl hT))
theorem ok_dep {f fH : Addr} {fd fdH : FuncData} (F : Fun K "is_departure" "is_departure" sIsDep f fd)
    (GH : FnOk P w K mg base CX0 1 fH fdH ["value", "word", "length"] (spHasW K)) (mgH : mg "has_word" = some (.ref fH)) (kH : PySem.W.keepIn K (.ref fH) = true) (bH : Binds K fdH ["value", "word", "length"] []) : FnOk P w K mg base CX0 2 f fd ["value"] (spEv K Ps depB) := by
  refine F.ok scIsDep (fun vs H Q E h => ?_) (fun cdv A outer s H vs Q E hr h => ?_)
  · obtain ⟨a, e, rfl, _⟩ := h
    rfl
  · obtain ⟨a, e, rfl, hS, hsz, hT, q⟩ := h
    refine ⟨_, pss_one (ps_ret (pe_call GH hr (by rfl) mgH kH bH .nil pass0 (pa_cons (pv 0) (pa_cons pe_str (pa_cons pe_int pa_nil))))), ?_⟩
    cases e with
    | inn c =>
      refine ⟨.ref a, rfl, a, "in", "out", [.str c], 1, rfl, hS, ?_⟩
      rw [decide_eq_false ne_io, Bool.and_false]
      exact q H (Kp.refl hT)
    | out =>
      refine ⟨.ref a, rfl, a, "out", "out", [], 1, rfl, hS, ?_⟩
      rw [decide_eq_true (rfl : ("out" : Str) = "out")]
      exact q H (Kp.refl hT)
/-- nothing is handed back, what stood stands -/
def spReqLane (K : PySem.W.Frag) (Ps : List Addr) : Sp := fun vs H Q _ => ∃ (a : Addr) (xs : List Str), vs = [.ref a] ∧ SqT K H a (xs.map V.str) ∧ xs.length ≤ 1000 ∧ (∀ x ∈ xs, x.length ≤ sizeLine) ∧ laneB xs = true ∧ Tabs Ps H ∧ ∀ H', Kp Ps H H' → Q .non H'
theorem ok_reqLane {f fL : Addr} {fd fdL : FuncData} (F : Fun K "require_lane" "require_lane" sReqLane f fd)
    (GL : FnOk P w K mg base CX0 4 fL fdL ["value"] (spLane K Ps)) (mgL : mg "is_lane" = some (.ref fL)) (kL : PySem.W.keepIn K (.ref fL) = true) (bL : Binds K fdL ["value"] []) : FnOk P w K mg base CX0 5 f fd ["value"] (spReqLane K Ps) := by
  refine F.ok scReqLane (fun vs H Q E h => ?_) (fun cdv A outer s H vs Q E hr h => ?_)
  · obtain ⟨a, xs, rfl, _⟩ := h
    rfl
  · obtain ⟨a, xs, rfl, hS, hlen, hsz, hB, hT, q⟩ := h
    refine ⟨_, pss_one (ps_if (pt_not (pt_val (pe_call GL hr (by rfl) mgL kL bL .nil pass0 (pa_cons (pv 0) pa_nil)))) (pss_one ps_dead) pss_nil), ?_⟩
    refine ⟨.ref a, rfl, a, xs, rfl, hS, hlen, hsz, hT, fun H' kp => ⟨_, rfl, ?_⟩⟩
    rw [hB]
    exact iteF (q H' kp)
end
end Ln


set_option Elab.async false
set_option linter.all false
set_option maxRecDepth 100000
set_option maxHeartbeats 2000000
namespace Ln
open PySem PySem.Spec PyProof.Rows L2 GxR
theorem pair_at {α β : Type} {F : α → β → Prop} : ∀ {as : List α} {bs : List β}, Paired F as bs → ∀ (i : Nat) (b : β), bs[i]? = some b → ∃ a, as[i]? = some a ∧ F a b
  | _, _, .nil, i, b, h => by simp at h
  | _, _, .cons r t, 0, b, h => by
    have e := Option.some.inj h
    exact ⟨_, rfl, e ▸ r⟩
  | _, _, .cons r t, i + 1, b, h => by
    obtain ⟨a, e, q⟩ := pair_at t i b (by simpa using h)
    exact ⟨a, by simpa using e, q⟩
theorem Paired.imp {α β : Type} {F G : α → β → Prop} {as : List α} {bs : List β} (h : Paired F as bs) (f : ∀ a b, F a b → G a b) : Paired G as bs := Paired.mapP h f
/-- may the log es be, the cars used, n present -/
def logB : List Str → Nat → List Ev → Bool
  | _, _, [] => true
  | u, n, .inn c :: r => if carB c = true ∧ ¬ c ∈ u then logB (c :: u) (n + 1) r else false
  | u, n, .out :: r => if 0 < n then logB u (n - 1) r else false
theorem Kp.upd {Ps : List Addr} {H H1 : Hp} {u : Addr} {o : HO} (k : Kp Ps H H1) (hT : Tabs Ps H) (hu : H u = none) : Kp Ps H (upd H1 u o) := by
  have nu := tab_free hT hu
  exact ⟨fun b q e n => by rw [upd_ne (ne_of_none e hu)]; exact k.at_ b q e n, fun q hq => by
    obtain ⟨ps, e, r⟩ := k.tab q hq
    exact ⟨ps, by rw [upd_ne (fun z : q = u => nu (by rw [← z]; exact hq))]; exact e, r⟩⟩
/-- a log's events, each a tuple -/
def EvsAt (K : PySem.W.Frag) (H : Hp) (as : List Addr) (es : List Ev) : Prop := Paired (fun a (e : Ev) => SqT K H a e.vals) as es
theorem EvsAt.kp {K : PySem.W.Frag} {Ps : List Addr} {H H1 : Hp} {as : List Addr} {es : List Ev} (h : EvsAt K H as es) (k : Kp Ps H H1) (hT : Tabs Ps H) : EvsAt K H1 as es := Paired.imp h fun _ _ q => k.seqT hT q
theorem scIsLog : FnScope ["start", "value", "used", "present", "event"] ["start", "value"] (defScope sIsLog) := ⟨rfl, rfl, rfl, by decide +kernel, rfl, by decide +kernel, by decide +kernel⟩
/-- a lane and a log of modest size -/
structure LaneAt (K : PySem.W.Frag) (H : Hp) (a : Addr) (xs : List Str) : Prop where
  at_ : SqT K H a (xs.map V.str)
  few : xs.length ≤ 400
  sz : ∀ x ∈ xs, x.length ≤ sizeLine
structure LogAt (K : PySem.W.Frag) (H : Hp) (l : Addr) (as : List Addr) (es : List Ev) : Prop where
  at_ : SqL K H l (as.map V.ref)
  evs : EvsAt K H as es
  few : es.length ≤ 400
  sz : ∀ c, Ev.inn c ∈ es → c.length ≤ sizeLine
theorem LaneAt.kp {K : PySem.W.Frag} {Ps : List Addr} {H H1 : Hp} {a : Addr} {xs : List Str} (h : LaneAt K H a xs) (k : Kp Ps H H1) (hT : Tabs Ps H) : LaneAt K H1 a xs := ⟨k.seqT hT h.at_, h.few, h.sz⟩
theorem LogAt.kp {K : PySem.W.Frag} {Ps : List Addr} {H H1 : Hp} {l : Addr} {as : List Addr} {es : List Ev} (h : LogAt K H l as es) (k : Kp Ps H H1) (hT : Tabs Ps H) : LogAt K H1 l as es := ⟨k.seqL hT h.at_, h.evs.kp k hT, h.few, h.sz⟩
section
variable {P : Program} {w : World} {K : PySem.W.Frag} {mg : Str → Option Value} {base : Heap} {Ps : List Addr}
def spLog (K : PySem.W.Frag) (Ps : List Addr) : Sp := fun vs H Q _ => ∃ (a l : Addr) (xs : List Str) (as : List Addr) (es : List Ev), vs = [.ref a, .ref l] ∧ LaneAt K H a xs ∧ laneB xs = true ∧ LogAt K H l as es ∧ Tabs Ps H ∧ ∀ H', Kp Ps H H' → Q (.bl (logB xs xs.length es)) H'
theorem ok_log {f fR fA fD : Addr} {fd fdR fdA fdD : FuncData} (F : Fun K "is_log" "is_log" sIsLog f fd) (B : Bi mg)
    (GR : FnOk P w K mg base CX0 5 fR fdR ["value"] (spReqLane K Ps)) (mgR : mg "require_lane" = some (.ref fR)) (kR : PySem.W.keepIn K (.ref fR) = true) (bR : Binds K fdR ["value"] [])
    (GA : FnOk P w K mg base CX0 3 fA fdA ["value"] (spEv K Ps arrB)) (mgA : mg "is_arrival" = some (.ref fA)) (kA : PySem.W.keepIn K (.ref fA) = true) (bA : Binds K fdA ["value"] [])
    (GD : FnOk P w K mg base CX0 2 fD fdD ["value"] (spEv K Ps depB)) (mgD : mg "is_departure" = some (.ref fD)) (kD : PySem.W.keepIn K (.ref fD) = true) (bD : Binds K fdD ["value"] []) :
    FnOk P w K mg base CX0 6 f fd ["start", "value"] (spLog K Ps) := by
  refine F.ok scIsLog (fun vs H Q E h => ?_) (fun cdv A outer s H vs Q E hr h => ?_)
  · obtain ⟨a, l, xs, as, es, rfl, _⟩ := h
    rfl
  · obtain ⟨a, l, xs, as, es, rfl, hL, hB, hE, hT, q⟩ := h
    refine ⟨_, pss_cons (ps_expr (pe_call GR hr (by rfl) mgR kR bR .nil pass0 (pa_cons (pv 0) pa_nil)))
      (pss_cons (ps_if (pt_not (pt_val (pe_callB call_isi (by rfl) B.isi (by decide +kernel) (pa_cons (pv 1) (pa_cons (pe_bltn (by rfl) B.lst (by decide +kernel) (v := .ty "list") rfl) pa_nil))))) (pss_one (ps_ret pe_bl)) pss_nil)
      (pss_cons (ps_set (i := 2) scIsLog.nd rfl (.inl rfl) (pe_callTy (cr_setT rfl) (by rfl) B.set (by decide +kernel) (pa_cons (pv 0) pa_nil)))
      (pss_cons (ps_set (i := 3) scIsLog.nd rfl (.inl rfl) (pe_callB call_len_seq (by rfl) B.len PySem.boot_len (pa_cons (pv 0) pa_nil)))
      (pss_cons (ps_for PassesOwn.never rfl (pi_list (pv 1)) (pg_name (i := 4) scIsLog.nd rfl (.inl rfl))
        (pss_one (ps_if (PW.pt (pw_and (pt_val (pe_call GA (hr.mono (by decide)) (by rfl) mgA kA bA .nil pass0 (pa_cons (pv 4) pa_nil))) (pw_and1 (pt_cmpR or_snotinK (pe_ix ix_tup (pv 4) pe_int (fun _ _ => rfl)) (pv 2) (by rfl)))))
          (pss_cons (ps_expr (pe_saddK (pv 2) (pa_cons (pe_ix ix_tup (pv 4) pe_int (fun _ _ => rfl)) pa_nil))) (pss_one (ps_aug (i := 3) scIsLog.nd rfl (.inl rfl) pe_int ip_add)))
          (pss_one (ps_if (PW.pt (pw_and (pt_val (pe_call GD (hr.mono (by decide)) (by rfl) mgD kD bD .nil pass0 (pa_cons (pv 4) pa_nil))) (pw_and1 (pt_cmpR op_gt (pv 3) pe_int (nomark _)))))
            (pss_one (ps_aug (i := 3) scIsLog.nd rfl (.inl rfl) pe_int ip_sub))
            (pss_one (ps_ret pe_bl)))))))
      (pss_one (ps_ret pe_bl)))))), ?_⟩
    -- require_lane(start)
    refine ⟨.ref a, rfl, a, xs, rfl, hL.at_, by have := hL.few; omega, hL.sz, hB, hT, fun H1 k1 => ?_⟩
    have hL1 := hL.kp k1 hT
    have hE1 := hE.kp k1 hT
    refine ⟨.ref l, rfl, .ref l, .ty "list", .type "list", .type "list", true, rfl, .ty _, tyx_lst hE1.at_, kit_ty (by decide +kernel), true, rfl, iteF ?_⟩
    -- used = set(start); present = len(start)
    refine ⟨.ref a, rfl, a, xs, rfl, hL1.at_, by have := hL.few; omega, fun u n hu hn _ => ?_⟩
    have hu0 : H u = none := k1.free hT hu
    have k2 : Kp Ps H (upd H1 u (SetK P w u (memK (xs.map Sum.inr)) n)) := k1.upd hT hu0
    have hL2 := hL.kp k2 hT
    refine ⟨.ref a, rfl, a, _, rfl, .inr hL2.at_, ?_⟩
    have hE2 := hE.kp k2 hT
    refine ⟨.ref l, rfl, l, rfl, ⟨_, hE2.at_⟩, for_list (K := K) (a := l) (xs := as.map V.ref) (fun i σ H' => ∃ (v4 : Option V) (m : Nat) (S : Key → Bool) (us : List Str) (c : Nat), σ = [some (.ref a), some (.ref l), some (.ref u), some (.int (m : Nat)), v4] ∧ Kp Ps H H' ∧
        H' u = some (SetK P w u S c) ∧ c ≤ xs.length + i ∧ (∀ x : Str, S (.inr x) = true ↔ x ∈ us) ∧ i ≤ es.length ∧ logB xs xs.length es = logB us m (es.drop i)) ?_ ?_ ?_ ?_⟩
    · refine ⟨none, xs.length, _, xs, n, ?_, k2, upd_same, by omega, fun x => ?_, Nat.zero_le _, rfl⟩
      · rw [List.length_map]
        rfl
      · rw [memK_iff, List.mem_map]
        constructor
        · intro ⟨y, hy, e⟩
          rw [← Sum.inr.inj e]
          exact hy
        · intro h
          exact ⟨x, h, rfl⟩
    · rintro i σ H' _ ⟨_, _, _, _, _, _, kp, _⟩
      exact (hE.kp kp hT).at_
    · rintro i y σ H' hi ⟨v4, m, S, us, c, rfl, kp, hSet, hc, hS, hie, hlog⟩
      have hlen := Paired.length hE.evs
      have hlt : i < es.length := by
        have h1 := (List.getElem?_eq_some_iff.mp hi).1
        rw [List.length_map] at h1
        omega
      obtain ⟨ev, hev⟩ : ∃ ev, es[i]? = some ev := ⟨es[i], List.getElem?_eq_getElem hlt⟩
      obtain ⟨b, hb, hbt⟩ := pair_at (hE.kp kp hT).evs i ev hev
      have hy : y = .ref b := by
        rw [List.getElem?_map, hb] at hi
        exact (Option.some.inj hi).symm
      subst hy
      have hdrop : es.drop i = ev :: es.drop (i + 1) := by
        rw [List.drop_eq_getElem_cons hlt]
        rw [List.getElem?_eq_getElem hlt] at hev
        rw [Option.some.inj hev]
      rw [hdrop] at hlog
      have hsz : ∀ c', ev = .inn c' → c'.length ≤ sizeLine := fun c' e => hE.sz c' (e ▸ List.mem_of_getElem? hev)
      have few1 := hL.few
      have few2 := hE.few
      -- is_arrival(event)
      refine ⟨.ref b, rfl, b, ev, rfl, hbt, hsz, kp.tab, fun H3 k3 => ⟨_, rfl, ?_⟩⟩
      have kp3 := kp.trans k3
      have hSet3 := k3.ext kp.tab hSet
      have hbt3 := k3.seqT kp.tab hbt
      -- elif is_departure(event) and present > 0
      have dep : ∀ H4, Kp Ps H3 H4 → (depB ev && decide (0 < m)) = false → logB us m (ev :: es.drop (i + 1)) = false → Q (.bl false) H4 := fun H4 k4 _ hf => by
        have := q H4 (kp3.trans k4)
        rw [hlog, hf] at this
        exact this
      cases ev with
      | out =>
        refine iteF (iteF ?_)
        refine ⟨.ref b, rfl, b, .out, rfl, hbt3, fun _ e => (by cases e), kp3.tab, fun H4 k4 => ⟨_, rfl, iteT ?_⟩⟩
        refine ⟨_, rfl, _, _, rfl, rfl, _, rfl, ite2 (fun hm => ?_) (fun hm => ?_)⟩
        · have hm : (0 : Int) < (m : Nat) := of_decide_eq_true hm
          refine ⟨_, rfl, _, _, rfl, rfl, some (.ref b), m - 1, S, us, c, ?_, kp3.trans k4, k4.ext kp3.tab hSet3, by omega, hS, hlt, ?_⟩
          · show [some (V.ref a), some (V.ref l), some (V.ref u), some (V.int ((m : Nat) - 1)), some (V.ref b)] = _
            rw [show ((m : Nat) : Int) - 1 = ((m - 1 : Nat) : Int) by omega]
          · rw [hlog]
            show (if 0 < m then _ else _) = _
            rw [if_pos (by omega)]
        · have hm : ¬ 0 < m := fun z => hm (decide_eq_true (by omega))
          exact dep H4 k4 (by simp [hm]) (by show (if 0 < m then _ else _) = _; rw [if_neg hm])
      | inn x =>
        refine ite2 (fun hx => ?_) (fun hx => ?_)
        · have hx : carB x = true := hx
          refine ⟨.ref b, rfl, b, _, 1, .str x, rfl, rfl, hbt3, atI_nat (j := 1) rfl, .ref u, rfl, .inr x, u, S, c, rfl, rfl, hSet3, _, rfl, ?_⟩
          show if (!S (.inr x)) = true then _ else _
          cases hin : S (.inr x) with
          | false =>
            have hxu : ¬ x ∈ us := fun z => by
              rw [(hS x).mpr z] at hin
              cases hin
            refine iteT ⟨.ref u, rfl, ⟨u, S, c, rfl, hSet3⟩, .ref b, rfl, b, _, 1, .str x, rfl, rfl, hbt3, atI_nat (j := 1) rfl, u, .inr x, S, c, rfl, rfl, hSet3, by unfold scanBound; omega, ?_⟩
            refine ⟨_, rfl, _, _, rfl, rfl, some (.ref b), m + 1, _, x :: us, _, rfl, kp3.upd hT hu0, upd_same, ?_, fun z => ?_, hlt, ?_⟩
            · rw [hin, if_neg Bool.false_ne_true]
              omega
            · show (S (.inr z) || decide ((Sum.inr z : Key) = Sum.inr x)) = true ↔ _
              rw [Bool.or_eq_true, hS z, decide_eq_true_iff, List.mem_cons]
              constructor
              · rintro (h | h)
                · exact .inr h
                · exact .inl (Sum.inr.inj h)
              · rintro (h | h)
                · exact .inr (by rw [h])
                · exact .inl h
            · rw [hlog]
              show (if carB x = true ∧ ¬ x ∈ us then _ else _) = _
              rw [if_pos ⟨hx, hxu⟩]
          | true =>
            have hxu : x ∈ us := (hS x).mp hin
            refine iteF ?_
            refine ⟨.ref b, rfl, b, .inn x, rfl, hbt3, hsz, kp3.tab, fun H4 k4 => ⟨_, rfl, iteF (iteF ?_)⟩⟩
            exact dep H4 k4 rfl (by show (if carB x = true ∧ ¬ x ∈ us then _ else _) = _; rw [if_neg fun z => z.2 hxu])
        · have hx : ¬ carB x = true := hx
          refine iteF ?_
          refine ⟨.ref b, rfl, b, .inn x, rfl, hbt3, hsz, kp3.tab, fun H4 k4 => ⟨_, rfl, iteF (iteF ?_)⟩⟩
          exact dep H4 k4 rfl (by show (if carB x = true ∧ ¬ x ∈ us then _ else _) = _; rw [if_neg fun z => hx z.1])
    · rintro σ H' ⟨v4, m, S, us, c, rfl, kp, hSet, hc, hS, hie, hlog⟩
      have := q H' kp
      rw [hlog, List.length_map, Paired.length hE.evs, List.drop_length] at this
      exact this
end
end Ln


set_option Elab.async false
set_option linter.all false
set_option maxRecDepth 100000
set_option maxHeartbeats 2000000
namespace Ln
open PySem PySem.Spec PyProof.Rows L2 GxR
theorem scReqLog : FnScope ["start", "log"] ["start", "log"] (defScope sReqLog) := ⟨rfl, rfl, rfl, by decide +kernel, rfl, by decide +kernel, by decide +kernel⟩
theorem scSizes : FnScope ["start", "log", "counts", "event", "change"] ["start", "log"] (defScope sSizes) := ⟨rfl, rfl, rfl, by decide +kernel, rfl, by decide +kernel, by decide +kernel⟩
def szs : Int → List Ev → List Int
  | n, [] => [n]
  | n, .inn _ :: r => n :: szs (n + 1) r
  | n, .out :: r => n :: szs (n - 1) r
def Ev.dn : Ev → Int
  | .inn _ => 1
  | .out => -1
theorem szs_head (n : Int) (es : List Ev) : (szs n es)[0]? = some n := by
  cases es with
  | nil => rfl
  | cons e r => cases e <;> rfl
theorem szs_len : ∀ (n : Int) (es : List Ev), (szs n es).length = es.length + 1
  | _, [] => rfl
  | n, .inn _ :: r => by show (szs (n + 1) r).length + 1 = _; rw [szs_len]; rfl
  | n, .out :: r => by show (szs (n - 1) r).length + 1 = _; rw [szs_len]; rfl
theorem szs_step : ∀ (n : Int) (es : List Ev) (i : Nat) (e : Ev) (k : Int), es[i]? = some e → (szs n es)[i]? = some k → (szs n es)[i + 1]? = some (k + e.dn)
  | n, [], i, e, k, h, _ => by simp at h
  | n, .inn c :: r, 0, e, k, h, h2 => by
    have e1 := Option.some.inj h
    have e2 := Option.some.inj h2
    subst e1 e2
    show (szs (n + 1) r)[0]? = _
    rw [szs_head]
    rfl
  | n, .out :: r, 0, e, k, h, h2 => by
    have e1 := Option.some.inj h
    have e2 := Option.some.inj h2
    subst e1 e2
    show (szs (n - 1) r)[0]? = _
    rw [szs_head]
    rfl
  | n, .inn c :: r, i + 1, e, k, h, h2 => szs_step (n + 1) r i e k (by simpa using h) h2
  | n, .out :: r, i + 1, e, k, h, h2 => szs_step (n - 1) r i e k (by simpa using h) h2
def sideB (x : Str) : Bool := decide (x = "L") || decide (x = "R")
section
variable {P : Program} {w : World} {K : PySem.W.Frag} {mg : Str → Option Value} {base : Heap} {Ps : List Addr}
def spReqLog (K : PySem.W.Frag) (Ps : List Addr) : Sp := fun vs H Q _ => ∃ (a l : Addr) (xs : List Str) (as : List Addr) (es : List Ev), vs = [.ref a, .ref l] ∧ LaneAt K H a xs ∧ laneB xs = true ∧ LogAt K H l as es ∧ logB xs xs.length es = true ∧ Tabs Ps H ∧ ∀ H', Kp Ps H H' → Q .non H'
theorem ok_reqLog {f fL : Addr} {fd fdL : FuncData} (F : Fun K "require_log" "require_log" sReqLog f fd)
    (GL : FnOk P w K mg base CX0 6 fL fdL ["start", "value"] (spLog K Ps)) (mgL : mg "is_log" = some (.ref fL)) (kL : PySem.W.keepIn K (.ref fL) = true) (bL : Binds K fdL ["start", "value"] []) : FnOk P w K mg base CX0 7 f fd ["start", "log"] (spReqLog K Ps) := by
  refine F.ok scReqLog (fun vs H Q E h => ?_) (fun cdv A outer s H vs Q E hr h => ?_)
  · obtain ⟨a, l, xs, as, es, rfl, _⟩ := h
    rfl
  · obtain ⟨a, l, xs, as, es, rfl, hL, hB, hE, hB2, hT, q⟩ := h
    refine ⟨_, pss_one (ps_if (pt_not (pt_val (pe_call GL hr (by rfl) mgL kL bL .nil pass0 (pa_cons (pv 0) (pa_cons (pv 1) pa_nil))))) (pss_one ps_dead) pss_nil), ?_⟩
    refine ⟨.ref a, rfl, .ref l, rfl, a, l, xs, as, es, rfl, hL, hB, hE, hT, fun H' kp => ⟨_, rfl, ?_⟩⟩
    rw [hB2]
    exact iteF (q H' kp)
def spSide (Ps : List Addr) : Sp := fun vs H Q _ => ∃ x : Str, vs = [.str x] ∧ Tabs Ps H ∧ ∀ H', Kp Ps H H' → Q (.bl (sideB x)) H'
end
end Ln


set_option Elab.async false
set_option linter.all false
set_option maxRecDepth 100000
set_option maxHeartbeats 2000000
namespace Ln
open PySem PySem.Spec PyProof.Rows L2 GxR
section
variable {P : Program} {w : World} {K : PySem.W.Frag} {mg : Str → Option Value} {base : Heap} {Ps : List Addr}
def spReqSides (K : PySem.W.Frag) (Ps : List Addr) : Sp := fun vs H Q _ => ∃ (l m : Addr) (as : List V) (sd : List Str), vs = [.ref l, .ref m] ∧ SqL K H l as ∧ SqL K H m (sd.map V.str) ∧ sd.length = as.length ∧ sd.all sideB = true ∧ Tabs Ps H ∧ ∀ H', Kp Ps H H' → Q .non H'
def spSizes (K : PySem.W.Frag) (Ps : List Addr) : Sp := fun vs H Q _ => ∃ (a l : Addr) (xs : List Str) (as : List Addr) (es : List Ev), vs = [.ref a, .ref l] ∧ LaneAt K H a xs ∧ laneB xs = true ∧ LogAt K H l as es ∧ logB xs xs.length es = true ∧ Tabs Ps H ∧
  ∀ H' p, Kp Ps H H' → H p = none → H' p = some (.lst ((szs xs.length es).map V.int)) → Q (.ref p) H'
theorem Kp.setNew {H H1 : Hp} {u : Addr} {o : HO} (k : Kp Ps H H1) (hT : Tabs Ps H) (hu : H u = none) : Kp Ps H (L2.upd H1 u o) := k.upd hT hu
theorem ok_sizes {f fL : Addr} {fd fdL : FuncData} (F : Fun K "sizes" "sizes" sSizes f fd) (B : Bi mg)
    (GL : FnOk P w K mg base CX0 7 fL fdL ["start", "log"] (spReqLog K Ps)) (mgL : mg "require_log" = some (.ref fL)) (kL : PySem.W.keepIn K (.ref fL) = true) (bL : Binds K fdL ["start", "log"] []) : FnOk P w K mg base CX0 8 f fd ["start", "log"] (spSizes K Ps) := by
  refine F.ok scSizes (fun vs H Q E h => ?_) (fun cdv A outer s H vs Q E hr h => ?_)
  · obtain ⟨a, l, xs, as, es, rfl, _⟩ := h
    rfl
  · obtain ⟨a, l, xs, as, es, rfl, hL, hB, hE, hB2, hT, q⟩ := h
    refine ⟨_, pss_cons (ps_expr (pe_call GL hr (by rfl) mgL kL bL .nil pass0 (pa_cons (pv 0) (pa_cons (pv 1) pa_nil))))
      (pss_cons (ps_set (i := 2) scSizes.nd rfl (.inl rfl) (pe_lst (pa_cons (pe_callB call_len_seq (by rfl) B.len PySem.boot_len (pa_cons (pv 0) pa_nil)) pa_nil)))
      (pss_cons (ps_for PassesOwn.never rfl (pi_list (pv 1)) (pg_name (i := 3) scSizes.nd rfl (.inl rfl))
        (pss_cons (ps_set (i := 4) scSizes.nd rfl (.inl rfl) (pe_ifExp (pt_cmpR op_eq (pe_ix ix_tup (pv 3) pe_int (fun _ _ => rfl)) pe_str (nomark _)) pe_int (pe_un un_neg pe_int)))
        (pss_one (ps_expr (pe_bm PySem.F.plainAttrs_list PySem.F.slot_list_append PySem.F.type_list_append mt_append (pv 2) (pa_cons (pe_op op_add (pe_ix ix_list (pv 2) (pe_un un_neg pe_int) (fun _ _ => rfl)) (pv 4)) pa_nil))))))
      (pss_one (ps_ret (pv 2))))), ?_⟩
    refine ⟨.ref a, rfl, .ref l, rfl, a, l, xs, as, es, rfl, hL, hB, hE, hB2, hT, fun H1 k1 => ?_⟩
    have hL1 := hL.kp k1 hT
    have hE1 := hE.kp k1 hT
    refine ⟨.ref a, rfl, a, _, rfl, .inr hL1.at_, by show 1 ≤ sizeLine; decide, fun o ho => ?_⟩
    have hoo : H o = none := k1.free hT ho
    have k2 : Kp Ps H (L2.upd H1 o (.lst [V.int ((xs.map V.str).length : Nat)])) := k1.upd hT hoo
    have hlen := Paired.length hE.evs
    refine ⟨.ref l, rfl, l, rfl, ⟨_, (hE.kp k2 hT).at_⟩, for_list (K := K) (a := l) (xs := as.map V.ref) (fun i σ H' => ∃ v3 v4 : Option V, σ = [some (.ref a), some (.ref l), some (.ref o), v3, v4] ∧ Kp Ps H H' ∧ i ≤ es.length ∧ H' o = some (.lst (((szs xs.length es).take (i + 1)).map V.int))) ?_ ?_ ?_ ?_⟩
    · refine ⟨none, none, rfl, k2, Nat.zero_le _, ?_⟩
      rw [upd_same, List.take_add_one, szs_head, List.length_map]
      rfl
    · rintro i σ H' _ ⟨_, _, _, kp, _⟩
      exact (hE.kp kp hT).at_
    · rintro i y σ H' hi ⟨v3, v4, rfl, kp, hie, ho'⟩
      have hlt : i < es.length := by
        have h1 := (List.getElem?_eq_some_iff.mp hi).1
        rw [List.length_map] at h1
        omega
      have hev : es[i]? = some es[i] := List.getElem?_eq_getElem hlt
      obtain ⟨b, hb, hbt⟩ := pair_at (hE.kp kp hT).evs i _ hev
      have hy : y = .ref b := by
        rw [List.getElem?_map, hb] at hi
        exact (Option.some.inj hi).symm
      subst hy
      have hz : i < (szs xs.length es).length := by rw [szs_len]; omega
      have few2 := hE.few
      have hk : (szs xs.length es)[i]? = some (szs xs.length es)[i] := List.getElem?_eq_getElem hz
      have hlast : ((szs xs.length es).take (i + 1)).map V.int = ((szs xs.length es).take i).map V.int ++ [V.int (szs xs.length es)[i]] := by
        rw [List.take_add_one, hk, List.map_append]
        rfl
      have hstep := szs_step _ es i _ _ hev hk
      have fin : ∀ d : Int, d = (es[i]).dn → L2.upd H' o (.lst (((szs xs.length es).take (i + 1)).map V.int ++ [V.int ((szs xs.length es)[i] + d)])) o = some (.lst (((szs xs.length es).take (i + 1 + 1)).map V.int)) := fun d e => by
        rw [upd_same, List.take_add_one (i := i + 1), hstep, List.map_append, e]
        rfl
      have room : (((szs xs.length es).take (i + 1)).map V.int).length < sizeLine := by
        rw [List.length_map, List.length_take]
        exact Nat.lt_of_le_of_lt (Nat.min_le_left _ _) (small1000 (by omega))
      have lastAt : atI (((szs xs.length es).take (i + 1)).map V.int) (-1) = some (V.int (szs xs.length es)[i]) := by
        rw [hlast]
        exact atI_last _ _
      cases hE2 : es[i] with
      | inn c =>
        rw [hE2] at hbt
        refine ⟨.ref b, rfl, b, _, 0, .str "in", rfl, rfl, hbt, atI_nat (j := 0) rfl, rfl, _, rfl, ?_⟩
        rw [decide_eq_true (rfl : V.str "in" = V.str "in")]
        refine iteT ?_
        refine ⟨.ref o, rfl, .inl ⟨rfl, _, .inl (.inl ho')⟩, .ref o, rfl, 1, rfl, o, _, -1, _, rfl, rfl, .inl (.inl ho'), lastAt, .int 1, rfl, _, _, rfl, rfl, o, _, _, rfl, rfl, ho', room, ?_⟩
        exact ⟨some (.ref b), some (.int 1), rfl, kp.upd hT hoo, hlt, fin 1 (by rw [hE2]; rfl)⟩
      | out =>
        rw [hE2] at hbt
        refine ⟨.ref b, rfl, b, _, 0, .str "out", rfl, rfl, hbt, atI_nat (j := 0) rfl, rfl, _, rfl, ?_⟩
        rw [decide_eq_false (fun z => ne_oi (V.str.inj z))]
        refine iteF ⟨1, rfl, ?_⟩
        refine ⟨.ref o, rfl, .inl ⟨rfl, _, .inl (.inl ho')⟩, .ref o, rfl, 1, rfl, o, _, -1, _, rfl, rfl, .inl (.inl ho'), lastAt, .int (-1), rfl, _, _, rfl, rfl, o, _, _, rfl, rfl, ho', room, ?_⟩
        exact ⟨some (.ref b), some (.int (-1)), rfl, kp.upd hT hoo, hlt, fin (-1) (by rw [hE2]; rfl)⟩
    · rintro σ H' ⟨v3, v4, rfl, kp, hie, ho'⟩
      refine ⟨.ref o, rfl, q H' o kp hoo ?_⟩
      rw [ho', List.length_map, hlen, List.take_of_length_le (by rw [szs_len]; exact Nat.le_refl _)]
end
end Ln


set_option Elab.async false
set_option linter.all false
set_option maxRecDepth 100000
set_option maxHeartbeats 2000000
namespace Ln
open PySem PySem.Spec PyProof.Rows L2 GxR
theorem scNumbers : FnScope ["start", "log", "event"] ["start", "log"] (defScope sNumbers) := ⟨rfl, rfl, rfl, by decide +kernel, rfl, by decide +kernel, by decide +kernel⟩
/-- the cars that arrive -/
def arrs : List Ev → List Str
  | [] => []
  | .inn c :: r => c :: arrs r
  | .out :: r => arrs r
theorem arrs_app : ∀ (a b : List Ev), arrs (a ++ b) = arrs a ++ arrs b
  | [], b => rfl
  | .inn c :: r, b => by show c :: arrs (r ++ b) = _; rw [arrs_app]; rfl
  | .out :: r, b => arrs_app r b
theorem arrs_len : ∀ (a : List Ev), (arrs a).length ≤ a.length
  | [] => Nat.le_refl _
  | .inn c :: r => Nat.succ_le_succ (arrs_len r)
  | .out :: r => Nat.le_succ_of_le (arrs_len r)
section
variable {P : Program} {w : World} {K : PySem.W.Frag} {mg : Str → Option Value} {base : Heap} {Ps : List Addr}
def spNumbers (K : PySem.W.Frag) (Ps : List Addr) : Sp := fun vs H Q _ => ∃ (a l : Addr) (xs : List Str) (as : List Addr) (es : List Ev), vs = [.ref a, .ref l] ∧ LaneAt K H a xs ∧ laneB xs = true ∧ LogAt K H l as es ∧ logB xs xs.length es = true ∧ Tabs Ps H ∧
  ∀ H' p, Kp Ps H H' → H p = none → H' p = some (.lst ((xs ++ arrs es).map V.str)) → Q (.ref p) H'
theorem ok_numbers {f fL : Addr} {fd fdL : FuncData} (F : Fun K "numbers" "numbers" sNumbers f fd) (B : Bi mg)
    (GL : FnOk P w K mg base CX0 7 fL fdL ["start", "log"] (spReqLog K Ps)) (mgL : mg "require_log" = some (.ref fL)) (kL : PySem.W.keepIn K (.ref fL) = true) (bL : Binds K fdL ["start", "log"] []) : FnOk P w K mg base CX0 8 f fd ["start", "log"] (spNumbers K Ps) := by
  refine F.ok scNumbers (fun vs H Q E h => ?_) (fun cdv A outer s H vs Q E hr h => ?_)
  · obtain ⟨a, l, xs, as, es, rfl, _⟩ := h
    rfl
  · obtain ⟨a, l, xs, as, es, rfl, hL, hB, hE, hB2, hT, q⟩ := h
    refine ⟨_, pss_cons (ps_expr (pe_call GL hr (by rfl) mgL kL bL .nil pass0 (pa_cons (pv 0) (pa_cons (pv 1) pa_nil))))
      (pss_one (ps_ret (pe_op op_cat (pe_callTy call_list_of (by rfl) B.lst (by decide +kernel) (pa_cons (pv 0) pa_nil))
        (pe_lc (own := [("event", 2)]) (g := gName 2) (by rfl) scNumbers.nd (pi_list (pv 1)) (blkOk_by (own := [("event", 2)]) (N := ["start", "log", "event"]) (sc := defScope sNumbers) (by decide +kernel))
          (fun _ _ _ _ _ => pg_name (i := 2) scNumbers.nd rfl (Or.inl rfl)) (fun _ _ _ _ _ => pts_one (pt_cmpR op_eq (pe_ix (r := rIxT K) ix_tup (pv 2) pe_int (fun _ _ => rfl)) pe_str (nomark _))) (fun _ _ _ _ _ => pe_ix (r := rIxT K) ix_tup (pv 2) pe_int (fun _ _ => rfl)))))), ?_⟩
    refine ⟨.ref a, rfl, .ref l, rfl, a, l, xs, as, es, rfl, hL, hB, hE, hB2, hT, fun H1 k1 => ?_⟩
    have hL1 := hL.kp k1 hT
    refine ⟨.ref a, rfl, a, _, rfl, .inr hL1.at_, fun o ho => ?_⟩
    have hoo : H o = none := k1.free hT ho
    have k2 : Kp Ps H (L2.upd H1 o (.lst (xs.map V.str))) := k1.upd hT hoo
    have hlen := Paired.length hE.evs
    refine ⟨.ref l, rfl, l, rfl, ⟨_, (hE.kp k2 hT).at_⟩, fun D hD => ?_⟩
    have hDD : H D = none := k2.free hT hD
    have hDo : D ≠ o := fun z => by
      rw [z, upd_same] at hD
      cases hD
    refine lc_list (K := K) (a := l) (xs := as.map V.ref) (fun i H' => Kp Ps H H' ∧ i ≤ es.length ∧ H' o = some (.lst (xs.map V.str)) ∧ H' D = some (.lst ((arrs (es.take i)).map V.str))) ?_ ?_ ?_ ?_
    · exact ⟨k2.upd hT hDD, Nat.zero_le _, by rw [upd_ne hDo.symm, upd_same], upd_same⟩
    · rintro i H' _ ⟨kp, _⟩
      exact (hE.kp kp hT).at_
    · rintro i y H' hi ⟨kp, hie, ho', hD'⟩
      have hlt : i < es.length := by
        have h1 := (List.getElem?_eq_some_iff.mp hi).1
        rw [List.length_map] at h1
        omega
      have hev : es[i]? = some es[i] := List.getElem?_eq_getElem hlt
      obtain ⟨b, hb, hbt⟩ := pair_at (hE.kp kp hT).evs i _ hev
      have hy : y = .ref b := by
        rw [List.getElem?_map, hb] at hi
        exact (Option.some.inj hi).symm
      subst hy
      have few2 := hE.few
      have htake : es.take (i + 1) = es.take i ++ [es[i]] := by rw [List.take_add_one, hev]; rfl
      refine ⟨rfl, ?_⟩
      cases hE2 : es[i] with
      | inn c =>
        rw [hE2] at hbt htake
        refine ⟨.ref b, rfl, b, _, 0, .str "in", rfl, rfl, hbt, atI_nat (j := 0) rfl, rfl, _, rfl, ?_⟩
        rw [decide_eq_true (rfl : V.str "in" = V.str "in")]
        refine iteT ⟨.ref b, rfl, b, _, 1, .str c, rfl, rfl, hbt, atI_nat (j := 1) rfl, _, hD', ?_, kp.upd hT hDD, hlt, ?_, ?_⟩
        · rw [List.length_map]
          refine small1000 ?_
          have := arrs_len (es.take i)
          rw [List.length_take] at this
          omega
        · rw [upd_ne hDo.symm]
          exact ho'
        · rw [upd_same, htake, arrs_app, List.map_append]
          rfl
      | out =>
        rw [hE2] at hbt htake
        refine ⟨.ref b, rfl, b, _, 0, .str "out", rfl, rfl, hbt, atI_nat (j := 0) rfl, rfl, _, rfl, ?_⟩
        rw [decide_eq_false (fun z => ne_oi (V.str.inj z))]
        refine iteF ⟨kp, hlt, ho', ?_⟩
        rw [hD', htake, arrs_app]
        show _ = some (HO.lst ((arrs (es.take i) ++ []).map V.str))
        rw [List.append_nil]
    · rintro H' ⟨kp, hie, ho', hD'⟩
      rw [List.length_map, hlen, List.take_length] at hD'
      refine ⟨o, D, _, _, rfl, rfl, ho', hD', ?_, fun p hp => ?_⟩
      · have h1 := hL.few
        have h2 := hE.few
        have h3 := arrs_len es
        rw [List.length_map, List.length_map]
        exact Nat.le_of_lt (small1000 (by omega))
      · have hpp : H p = none := kp.free hT hp
        refine q _ p (kp.upd hT hpp) hpp ?_
        rw [upd_same, List.map_append]
end
end Ln


set_option Elab.async false
set_option linter.all false
set_option maxRecDepth 100000
set_option maxHeartbeats 4000000
namespace Ln
open PySem
/-! ### what the conditions of a possible lane say, and that a replayed lane keeps them -/
/-- extra(t) from now on, x now -/
def extL (S : List Str) : Int → List Ev → List Int
  | x, [] => [x]
  | x, .inn c :: r => x :: extL S (if c ∈ S then x else x + 1) r
  | x, .out :: r => x :: extL S (x - 1) r
/-- departures until each moment, d now -/
def depL : Int → List Ev → List Int
  | d, [] => [d]
  | d, .inn _ :: r => d :: depL d r
  | d, .out :: r => d :: depL (d + 1) r
/-- how many are present at the end, n now -/
def endI : Int → List Ev → Int
  | n, [] => n
  | n, .inn _ :: r => endI (n + 1) r
  | n, .out :: r => endI (n - 1) r
def fneg (l : List Int) : Option Nat := l.findIdx? fun x => decide (x < 0)
def plcs (S : List Str) : Nat → List Str → List Nat
  | _, [] => []
  | i, c :: r => if c ∈ S then i :: plcs S (i + 1) r else plcs S (i + 1) r
def brgL : List Nat → Nat × Nat
  | [] => (0, 0)
  | a :: r => (a, (a :: r).getLast (List.cons_ne_nil a r) + 1)
abbrev brg (xs S : List Str) : Nat × Nat := brgL (plcs S 0 xs)
def cutN (xs : List Str) (p : Nat × Nat) : List Str := (xs.take p.2).drop p.1
def hasBlk (xs F : List Str) : Bool := decide (cutN xs (brg xs F) = cutN F (brg F xs))
def isPk (o : List Nat) (i : Nat) : Bool := decide (o.getD (i - 1) 0 < o.getD i 0) && decide (o.getD (i + 1) 0 < o.getD i 0)
def fpk (o : List Nat) : Option Nat := (List.range' 1 (o.length - 2)).find? (isPk o)
/-- the stayers that arrive: the car, the moment, left or right of the first ones -/
def arrSt (F : List Str) : Option Nat → Nat → List Ev → List (Str × Nat × Option Bool)
  | _, _, [] => []
  | lo, m, .out :: r => arrSt F lo (m + 1) r
  | lo, m, .inn c :: r => if c ∈ F then
      match lo with
      | none => (c, m, none) :: arrSt F (some (F.idxOf c)) (m + 1) r
      | some l => (c, m, some (decide (F.idxOf c < l))) :: arrSt F (some l) (m + 1) r
    else arrSt F lo (m + 1) r
def tooFew (nL nR g : Int) : Option Bool → Bool
  | none => false
  | some true => decide (g < nL)
  | some false => decide (g < nR)
def needL (x : Int) : Option Bool → Int
  | some false => x
  | _ => 0
def needR (x : Int) : Option Bool → Int
  | some true => x
  | _ => 0
def swF (dep ext : List Int) : Int → Int → Option Str → Nat → List (Str × Nat × Option Bool) → Option (Option Str × Str)
  | _, _, _, _, [] => none
  | nL, nR, b, s, (c, m, sd) :: r => if tooFew nL nR (dep.getD m 0 - dep.getD s 0) sd = true then some (b, c) else swF dep ext (needL (ext.getD m 0) sd) (needR (ext.getD m 0) sd) (some c) m r
inductive Why where
  | ok
  | cars
  | block
  | order (i : Nat)
  | moment (t : Nat)
  | switch (b : Option Str) (c : Str)
def stayN (xs S : List Str) : Nat := (xs.filter fun c => decide (c ∈ S)).length
abbrev ext0 (xs S : List Str) (es : List Ev) : List Int := extL S ((xs.length : Int) - stayN xs S) es
def lo0 (p : Nat × Nat) : Option Nat := if p.2 = 0 then none else some p.1
def carsOk (xs : List Str) (es : List Ev) (F : List Str) : Bool := decide ((F.length : Int) = endI xs.length es) && F.all fun c => decide (c ∈ xs ++ arrs es)
def swC (xs : List Str) (es : List Ev) (F : List Str) : Option (Option Str × Str) :=
  swF (depL 0 es) (ext0 xs F es) (brg xs F).1 ((xs.length : Int) - (brg xs F).2) none 0 (arrSt F (lo0 (brg F xs)) 1 es)
def why (xs : List Str) (es : List Ev) (F : List Str) : Why :=
  if carsOk xs es F = false then .cars else if hasBlk xs F = false then .block else
    match fpk (F.map fun c => (xs ++ arrs es).idxOf c) with
    | some i => .order i
    | none => match fneg (ext0 xs F es) with
      | some t => .moment t
      | none => match swC xs es F with
        | some (b, c) => .switch b c
        | none => .ok
/-! ### histories -/
inductive Mv : List Str → Ev → List Str → Prop
  | inL (c : Str) (L : List Str) : Mv L (.inn c) (c :: L)
  | inR (c : Str) (L : List Str) : Mv L (.inn c) (L ++ [c])
  | outL (x : Str) (L : List Str) : Mv (x :: L) .out L
  | outR (x : Str) (L : List Str) : Mv (L ++ [x]) .out L
inductive Run : List Str → List Ev → List Str → Prop
  | nil (L : List Str) : Run L [] L
  | cons {L L1 F : List Str} {e : Ev} {r : List Ev} : Mv L e L1 → Run L1 r F → Run L (e :: r) F
theorem Run.snoc {L F F' : List Str} {es : List Ev} {e : Ev} (h : Run L es F) (m : Mv F e F') : Run L (es ++ [e]) F' := by
  induction h with
  | nil L => exact .cons m (.nil _)
  | cons m1 _ ih => exact .cons m1 (ih m)
theorem Mv.rev {L L1 : List Str} {e : Ev} (m : Mv L e L1) : Mv L.reverse e L1.reverse := by
  cases m with
  | inL c L => rw [List.reverse_cons]; exact .inR c _
  | inR c L => rw [List.reverse_append]; exact .inL c _
  | outL x L => rw [List.reverse_cons]; exact .outR x _
  | outR x L => rw [List.reverse_append]; exact .outL x _
theorem Run.rev {L F : List Str} {es : List Ev} (h : Run L es F) : Run L.reverse es F.reverse := by
  induction h with
  | nil L => exact .nil _
  | cons m _ ih => exact .cons m.rev ih
theorem Mv.len {L L1 : List Str} {e : Ev} (m : Mv L e L1) : (L1.length : Int) = endI L.length [e] := by
  cases m with
  | inL c L => show ((L.length + 1 : Nat) : Int) = (L.length : Int) + 1; omega
  | inR c L => rw [List.length_append]; show ((L.length + 1 : Nat) : Int) = (L.length : Int) + 1; omega
  | outL x L => show (L1.length : Int) = ((L1.length + 1 : Nat) : Int) - 1; omega
  | outR x L => rw [List.length_append]; show (L1.length : Int) = ((L1.length + 1 : Nat) : Int) - 1; omega
theorem endI_cons (n : Int) (e : Ev) (r : List Ev) : endI n (e :: r) = endI (endI n [e]) r := by cases e <;> rfl
theorem endI_app : ∀ (n : Int) (a b : List Ev), endI n (a ++ b) = endI (endI n a) b
  | _, [], _ => rfl
  | n, e :: r, b => by
    rw [List.cons_append, endI_cons, endI_app, ← endI_cons]
theorem Run.len {L F : List Str} {es : List Ev} (h : Run L es F) : (F.length : Int) = endI L.length es := by
  induction h with
  | nil L => rfl
  | cons m _ ih => rw [ih, m.len, ← endI_cons]
theorem Mv.mem {L L1 : List Str} {e : Ev} (m : Mv L e L1) : ∀ x ∈ L1, x ∈ L ++ arrs [e] := by
  intro x hx
  cases m with
  | inL c L => exact List.mem_append.mpr ((List.mem_cons.mp hx).elim (fun e => .inr (by rw [e]; exact List.mem_cons_self)) .inl)
  | inR c L => exact hx
  | outL y L => exact List.mem_append_left _ (List.mem_cons_of_mem _ hx)
  | outR y L => exact List.mem_append_left _ (List.mem_append_left _ hx)
theorem arrs_cons (e : Ev) (r : List Ev) : arrs (e :: r) = arrs [e] ++ arrs r := by rw [← arrs_app]; rfl
theorem Run.mem {L F : List Str} {es : List Ev} (h : Run L es F) : ∀ x ∈ F, x ∈ L ++ arrs es := by
  induction h with
  | nil L => exact fun x hx => List.mem_append_left _ hx
  | cons m _ ih =>
    intro x hx
    rw [arrs_cons, ← List.append_assoc]
    rcases List.mem_append.mp (ih x hx) with h | h
    · exact List.mem_append_left _ (m.mem x h)
    · exact List.mem_append_right _ h
theorem Mv.nodup {L L1 : List Str} {e : Ev} {r : List Str} (m : Mv L e L1) (h : (L ++ (arrs [e] ++ r)).Nodup) : (L1 ++ r).Nodup := by
  cases m with
  | inL c L =>
    have : (L ++ ([c] ++ r)).Perm (c :: L ++ r) := by
      show (L ++ c :: r).Perm _
      exact List.perm_middle
    exact this.nodup_iff.mp h
  | inR c L => rw [List.append_assoc]; exact h
  | outL x L => exact (List.nodup_cons.mp h).2
  | outR x L =>
    refine h.sublist ?_
    rw [List.append_assoc]
    exact (List.Sublist.refl _).append (List.sublist_append_right _ _)
theorem Run.nodup {L F : List Str} {es : List Ev} (h : Run L es F) (hn : (L ++ arrs es).Nodup) : F.Nodup := by
  induction h with
  | nil L => exact (List.nodup_append.mp hn).1
  | cons m _ ih =>
    rw [arrs_cons] at hn
    exact ih (m.nodup hn)
/-- how a lane is made of leavers A, stayers B, leavers C; D and E are still to arrive on the left and the right -/
inductive Spl (F : List Str) : List Str → List Str → List Str → List Str → List Str → List Ev → Prop
  | nil : Spl F [] F [] [] [] []
  | mid {A C A' C' D E : List Str} {r : List Ev} : A' ++ C' = A ++ C → Spl F A [] C D E r → Spl F A' [] C' D E r
  | stL {B C D E : List Str} {r : List Ev} (c : Str) : Spl F [] (c :: B) C D E r → Spl F [] B C (D ++ [c]) E (.inn c :: r)
  | stR {A B D E : List Str} {r : List Ev} (c : Str) : Spl F A (B ++ [c]) [] D E r → Spl F A B [] D (c :: E) (.inn c :: r)
  | lvL {A B C D E : List Str} {r : List Ev} (c : Str) : c ∉ F → Spl F (c :: A) B C D E r → Spl F A B C D E (.inn c :: r)
  | lvR {A B C D E : List Str} {r : List Ev} (c : Str) : c ∉ F → Spl F A B (C ++ [c]) D E r → Spl F A B C D E (.inn c :: r)
  | outL {A B C D E : List Str} {r : List Ev} (x : Str) : Spl F A B C D E r → Spl F (x :: A) B C D E (.out :: r)
  | outR {A B C D E : List Str} {r : List Ev} (x : Str) : Spl F A B C D E r → Spl F A B (C ++ [x]) D E (.out :: r)
theorem Spl.eqF {F A B C D E : List Str} {r : List Ev} (h : Spl F A B C D E r) : F = D ++ B ++ E := by
  induction h with
  | nil => rw [List.append_nil]; rfl
  | mid _ _ ih => exact ih
  | stL c _ ih => rw [ih]; simp
  | stR c _ ih => rw [ih]; simp
  | lvL c _ _ ih => exact ih
  | lvR c _ _ ih => exact ih
  | outL x _ ih => exact ih
  | outR x _ ih => exact ih
theorem Spl.late {F A B C D E : List Str} {r : List Ev} (h : Spl F A B C D E r) : ∀ x ∈ D ++ E, x ∈ arrs r := by
  induction h with
  | nil => exact fun x hx => hx
  | mid _ _ ih => exact ih
  | stL c _ ih =>
    intro x hx
    rw [List.append_assoc] at hx
    rcases List.mem_append.mp hx with h | h
    · exact List.mem_cons_of_mem _ (ih x (List.mem_append_left _ h))
    · rcases List.mem_cons.mp h with e | h
      · rw [e]; exact List.mem_cons_self
      · exact List.mem_cons_of_mem _ (ih x (List.mem_append_right _ h))
  | stR c _ ih =>
    intro x hx
    rcases List.mem_append.mp hx with h | h
    · exact List.mem_cons_of_mem _ (ih x (List.mem_append_left _ h))
    · rcases List.mem_cons.mp h with e | h
      · rw [e]; exact List.mem_cons_self
      · exact List.mem_cons_of_mem _ (ih x (List.mem_append_right _ h))
  | lvL c _ _ ih => exact fun x hx => List.mem_cons_of_mem _ (ih x hx)
  | lvR c _ _ ih => exact fun x hx => List.mem_cons_of_mem _ (ih x hx)
  | outL x _ ih => exact ih
  | outR x _ ih => exact ih
theorem split {L F : List Str} {es : List Ev} (h : Run L es F) : (L ++ arrs es).Nodup → ∃ A B C D E, L = A ++ B ++ C ∧ Spl F A B C D E es ∧ ∀ x ∈ A ++ C, x ∉ F := by
  induction h with
  | nil L => exact fun _ => ⟨[], L, [], [], [], by simp, .nil, fun x hx => by cases hx⟩
  | @cons L L1 F e r m hr ih =>
    intro hn
    have hn0 := hn
    rw [arrs_cons] at hn
    obtain ⟨A, B, C, D, E, hL, hS, hA⟩ := ih (m.nodup hn)
    cases m with
    | inL c L =>
      match A, B, hL, hS, hA with
      | a :: A, B, hL, hS, hA =>
        have hL : c :: L = a :: (A ++ B ++ C) := hL
        obtain ⟨rfl, rfl⟩ := List.cons.inj hL
        exact ⟨A, B, C, D, E, rfl, .lvL c (hA c List.mem_cons_self) hS, fun x hx => hA x (List.mem_cons_of_mem _ hx)⟩
      | [], b :: B, hL, hS, hA =>
        have hL : c :: L = b :: (B ++ C) := hL
        obtain ⟨rfl, rfl⟩ := List.cons.inj hL
        exact ⟨[], B, C, D ++ [c], E, rfl, .stL c hS, hA⟩
      | [], [], hL, hS, hA =>
        have hL : c :: L = C := hL
        subst hL
        exact ⟨L, [], [], D, E, by simp, .lvL c (hA c List.mem_cons_self) (.mid (by simp) hS), fun x hx => hA x (List.mem_cons_of_mem _ (by simpa using hx))⟩
    | inR c L =>
      rcases List.eq_nil_or_concat C with rfl | ⟨C, a, rfl⟩
      · rcases List.eq_nil_or_concat B with rfl | ⟨B, b, rfl⟩
        · have hL : L ++ [c] = A := by simpa using hL
          subst hL
          exact ⟨[], [], L, D, E, by simp, .lvR c (hA c (by simp)) (.mid (by simp) hS), fun x hx => hA x (by simp at hx; simp [hx])⟩
        · have hL : L ++ [c] = (A ++ B) ++ [b] := by simpa [List.append_assoc] using hL
          obtain ⟨rfl, e⟩ := List.append_inj' hL rfl
          obtain rfl : c = b := by simpa using e
          refine ⟨A, B, [], D, c :: E, by simp, .stR c (by simpa using hS), hA⟩
      · have hL : L ++ [c] = (A ++ B ++ C) ++ [a] := by simpa [List.append_assoc] using hL
        obtain ⟨rfl, e⟩ := List.append_inj' hL rfl
        obtain rfl : c = a := by simpa using e
        exact ⟨A, B, C, D, E, rfl, .lvR c (hA c (by simp)) (by simpa using hS), fun x hx => hA x (by simp at hx ⊢; exact hx.elim .inl fun h => .inr (.inl h))⟩
    | outL x L =>
      have hx : x ∉ F := fun hx => by
        rcases List.mem_append.mp (hr.mem x hx) with h | h
        · have := (List.nodup_cons.mp hn).1
          exact this (List.mem_append_left _ h)
        · have := (List.nodup_cons.mp hn).1
          exact this (List.mem_append_right _ h)
      subst hL
      refine ⟨x :: A, B, C, D, E, rfl, .outL x hS, fun y hy => ?_⟩
      rcases List.mem_cons.mp hy with e | h
      · rw [e]; exact hx
      · exact hA y h
    | outR x L =>
      have hx : x ∉ F := fun hx => by
        have hd := (List.nodup_append.mp hn).2.2
        have h1 := (List.nodup_append.mp (List.nodup_append.mp hn).1).2.2
        rcases List.mem_append.mp (hr.mem x hx) with h | h
        · exact h1 x h x List.mem_cons_self rfl
        · exact hd x (List.mem_append_right _ List.mem_cons_self) x h rfl
      subst hL
      refine ⟨A, B, C ++ [x], D, E, by simp, .outR x hS, fun y hy => ?_⟩
      rw [← List.append_assoc] at hy
      rcases List.mem_append.mp hy with h | h
      · exact hA y h
      · rw [List.mem_singleton.mp h]; exact hx
end Ln


set_option Elab.async false
set_option linter.all false
set_option maxRecDepth 100000
set_option maxHeartbeats 4000000
namespace Ln
open PySem
theorem idx_mid {P S : List Str} {c : Str} (h : (P ++ c :: S).Nodup) : (P ++ c :: S).idxOf c = P.length := by
  have hc : c ∉ P := fun z => (List.nodup_append.mp h).2.2 c z c List.mem_cons_self rfl
  rw [List.idxOf_append, if_neg hc, List.idxOf_cons_self]
  omega
/-- who arrives later has the greater number -/
theorem Spl.asc {F A B C D E : List Str} {r : List Ev} (h : Spl F A B C D E r) : ∀ (P : List Str) (kn : List Str), kn = P ++ arrs r → kn.Nodup →
    D.Pairwise (fun a b => kn.idxOf b < kn.idxOf a) ∧ E.Pairwise (fun a b => kn.idxOf a < kn.idxOf b) ∧ ∀ d ∈ D ++ E, P.length ≤ kn.idxOf d := by
  induction h with
  | nil => exact fun _ _ _ _ => ⟨.nil, .nil, fun d hd => by cases hd⟩
  | mid _ _ ih => exact ih
  | @stL B C D E r c _ ih =>
    intro P kn hk hn
    have hk2 : kn = (P ++ [c]) ++ arrs r := by rw [hk]; simp [arrs]
    obtain ⟨h1, h2, h3⟩ := ih (P ++ [c]) kn hk2 hn
    have hc : kn.idxOf c = P.length := by
      have hk' : kn = P ++ c :: arrs r := hk
      rw [hk'] at hn ⊢
      exact idx_mid hn
    rw [List.length_append] at h3
    refine ⟨?_, h2, fun d hd => ?_⟩
    · refine List.pairwise_append.mpr ⟨h1, List.pairwise_singleton _ _, fun a ha b hb => ?_⟩
      rw [List.mem_singleton.mp hb, hc]
      exact h3 a (List.mem_append_left _ ha)
    · have : d = c ∨ d ∈ D ++ E := by simp at hd ⊢; rcases hd with h | h | h <;> simp [h]
      rcases this with e | h
      · rw [e, hc]; exact Nat.le_refl _
      · exact Nat.le_of_succ_le (h3 d h)
  | @stR A B D E r c _ ih =>
    intro P kn hk hn
    have hk2 : kn = (P ++ [c]) ++ arrs r := by rw [hk]; simp [arrs]
    obtain ⟨h1, h2, h3⟩ := ih (P ++ [c]) kn hk2 hn
    have hc : kn.idxOf c = P.length := by
      have hk' : kn = P ++ c :: arrs r := hk
      rw [hk'] at hn ⊢
      exact idx_mid hn
    rw [List.length_append] at h3
    refine ⟨h1, ?_, fun d hd => ?_⟩
    · refine List.pairwise_cons.mpr ⟨fun a ha => ?_, h2⟩
      rw [hc]
      exact h3 a (List.mem_append_right _ ha)
    · have : d = c ∨ d ∈ D ++ E := by simp at hd ⊢; rcases hd with h | h | h <;> simp [h]
      rcases this with e | h
      · rw [e, hc]; exact Nat.le_refl _
      · exact Nat.le_of_succ_le (h3 d h)
  | lvL c _ _ ih =>
    intro P kn hk hn
    obtain ⟨h1, h2, h3⟩ := ih (P ++ [c]) kn (by rw [hk]; simp [arrs]) hn
    rw [List.length_append] at h3
    exact ⟨h1, h2, fun d hd => Nat.le_of_succ_le (h3 d hd)⟩
  | lvR c _ _ ih =>
    intro P kn hk hn
    obtain ⟨h1, h2, h3⟩ := ih (P ++ [c]) kn (by rw [hk]; simp [arrs]) hn
    rw [List.length_append] at h3
    exact ⟨h1, h2, fun d hd => Nat.le_of_succ_le (h3 d hd)⟩
  | outL x _ ih => exact ih
  | outR x _ ih => exact ih
theorem fpk_valley {d u : List Nat} (hd : d.Pairwise (fun a b => b < a)) (hu : u.Pairwise (fun a b => a < b)) : fpk (d ++ u) = none := by
  unfold fpk
  rw [List.find?_eq_none]
  intro i hi
  rw [List.mem_range'_1] at hi
  obtain ⟨h1, h2⟩ := hi
  unfold isPk
  intro z
  rw [Bool.and_eq_true] at z
  have z1 := of_decide_eq_true z.1
  have z2 := of_decide_eq_true z.2
  have hl : i + 1 < (d ++ u).length := by omega
  rw [List.getD_eq_getElem?_getD, List.getD_eq_getElem?_getD, List.getElem?_eq_getElem (show i - 1 < (d ++ u).length by omega), List.getElem?_eq_getElem (show i < (d ++ u).length by omega)] at z1
  rw [List.getD_eq_getElem?_getD, List.getD_eq_getElem?_getD, List.getElem?_eq_getElem hl, List.getElem?_eq_getElem (show i < (d ++ u).length by omega)] at z2
  simp only [Option.getD_some] at z1 z2
  rw [List.length_append] at hl
  by_cases q : i < d.length
  · rw [List.getElem_append_left (show i - 1 < d.length by omega), List.getElem_append_left q] at z1
    have := List.pairwise_iff_getElem.mp hd (i - 1) i (by omega) q (by omega)
    omega
  · rw [List.getElem_append_right (show d.length ≤ i by omega), List.getElem_append_right (show d.length ≤ i + 1 by omega)] at z2
    have := List.pairwise_iff_getElem.mp hu (i - d.length) (i + 1 - d.length) (by omega) (by omega) (by omega)
    omega
theorem pw_map {α : Type} {R : α → α → Prop} {S : Nat → Nat → Prop} {f : α → Nat} {l : List α} (h : l.Pairwise R) (g : ∀ a b, R a b → S (f a) (f b)) : (l.map f).Pairwise S := List.pairwise_map.mpr (h.imp fun {a b} q => g a b q)
/-- the slices of the first lane ascend -/
theorem mid_asc {A B C R : List Str} (hn : (A ++ B ++ C ++ R).Nodup) : B.Pairwise (fun a b => (A ++ B ++ C ++ R).idxOf a < (A ++ B ++ C ++ R).idxOf b) ∧ ∀ b ∈ B, (A ++ B ++ C ++ R).idxOf b < (A ++ B ++ C).length := by
  have key : ∀ (i : Nat) (h : i < B.length), (A ++ B ++ C ++ R).idxOf B[i] = A.length + i := fun i h => by
    have h2 : A.length + i < (A ++ B ++ C ++ R).length := by simp; omega
    have e : (A ++ B ++ C ++ R)[A.length + i]'h2 = B[i] := by
      simp [List.getElem_append, h]
    rw [← e]
    exact hn.idxOf_getElem _ h2
  refine ⟨List.pairwise_iff_getElem.mpr fun i j hi hj hij => ?_, fun b hb => ?_⟩
  · rw [key i hi, key j hj]
    omega
  · obtain ⟨i, hi, rfl⟩ := List.mem_iff_getElem.mp hb
    rw [key i hi]
    simp
    omega
theorem Spl.fpk {F A B C D E : List Str} {es : List Ev} (h : Spl F A B C D E es) (hn : (A ++ B ++ C ++ arrs es).Nodup) : Ln.fpk (F.map fun c => (A ++ B ++ C ++ arrs es).idxOf c) = none := by
  obtain ⟨h1, h2, h3⟩ := h.asc (A ++ B ++ C) _ rfl hn
  obtain ⟨h4, h5⟩ := mid_asc hn
  generalize hkn : A ++ B ++ C ++ arrs es = kn at *
  rw [h.eqF, List.append_assoc, List.map_append]
  refine fpk_valley (pw_map h1 fun _ _ q => q) (pw_map (R := fun a b => kn.idxOf a < kn.idxOf b) ?_ fun _ _ q => q)
  exact List.pairwise_append.mpr ⟨h4, h2, fun a ha b hb => Nat.lt_of_lt_of_le (h5 a ha) (h3 b (List.mem_append_right _ hb))⟩
/-! ### moments -/
theorem Spl.ext {F A B C D E : List Str} {r : List Ev} (h : Spl F A B C D E r) : ∀ y ∈ extL F ((A.length + C.length : Nat) : Int) r, 0 ≤ y := by
  induction h with
  | nil => intro y hy; rw [List.mem_singleton.mp hy]; omega
  | @mid A C A' C' D E r e _ ih =>
    have : A'.length + C'.length = A.length + C.length := by rw [← List.length_append, e, List.length_append]
    rw [this]
    exact ih
  | @stL B C D E r c hS ih =>
    have hc : c ∈ F := by rw [hS.eqF]; simp
    intro y hy
    have hy : y ∈ ((([] : List Str).length + C.length : Nat) : Int) :: extL F (if c ∈ F then ((([] : List Str).length + C.length : Nat) : Int) else _) r := hy
    rw [if_pos hc] at hy
    rcases List.mem_cons.mp hy with e | e
    · rw [e]; omega
    · exact ih y e
  | @stR A B D E r c hS ih =>
    have hc : c ∈ F := by rw [hS.eqF]; simp
    intro y hy
    have hy : y ∈ ((A.length + ([] : List Str).length : Nat) : Int) :: extL F (if c ∈ F then ((A.length + ([] : List Str).length : Nat) : Int) else _) r := hy
    rw [if_pos hc] at hy
    rcases List.mem_cons.mp hy with e | e
    · rw [e]; omega
    · exact ih y e
  | @lvL A B C D E r c hc _ ih =>
    intro y hy
    have hy : y ∈ ((A.length + C.length : Nat) : Int) :: extL F (if c ∈ F then _ else ((A.length + C.length : Nat) : Int) + 1) r := hy
    rw [if_neg hc] at hy
    rcases List.mem_cons.mp hy with e | e
    · rw [e]; omega
    · refine ih y ?_
      rw [List.length_cons, show ((A.length + 1 + C.length : Nat) : Int) = ((A.length + C.length : Nat) : Int) + 1 by omega]
      exact e
  | @lvR A B C D E r c hc _ ih =>
    intro y hy
    have hy : y ∈ ((A.length + C.length : Nat) : Int) :: extL F (if c ∈ F then _ else ((A.length + C.length : Nat) : Int) + 1) r := hy
    rw [if_neg hc] at hy
    rcases List.mem_cons.mp hy with e | e
    · rw [e]; omega
    · refine ih y ?_
      rw [List.length_append, List.length_singleton, show ((A.length + (C.length + 1) : Nat) : Int) = ((A.length + C.length : Nat) : Int) + 1 by omega]
      exact e
  | @outL A B C D E r x _ ih =>
    intro y hy
    rcases List.mem_cons.mp hy with e | e
    · rw [e]; omega
    · refine ih y ?_
      rw [List.length_cons, show (((A.length + 1 + C.length : Nat) : Int) - 1) = ((A.length + C.length : Nat) : Int) by omega] at e
      exact e
  | @outR A B C D E r x _ ih =>
    intro y hy
    rcases List.mem_cons.mp hy with e | e
    · rw [e]; omega
    · refine ih y ?_
      rw [List.length_append, List.length_singleton, show (((A.length + (C.length + 1) : Nat) : Int) - 1) = ((A.length + C.length : Nat) : Int) by omega] at e
      exact e
/-! ### blocks -/
theorem plcs_none {S : List Str} : ∀ {xs : List Str} {i : Nat}, (∀ x ∈ xs, x ∉ S) → plcs S i xs = []
  | [], _, _ => rfl
  | c :: r, i, h => by
    show (if c ∈ S then _ else plcs S (i + 1) r) = []
    rw [if_neg (h c List.mem_cons_self)]
    exact plcs_none fun x hx => h x (List.mem_cons_of_mem _ hx)
theorem plcs_app {S : List Str} : ∀ (xs ys : List Str) (i : Nat), plcs S i (xs ++ ys) = plcs S i xs ++ plcs S (i + xs.length) ys
  | [], _, _ => rfl
  | c :: r, ys, i => by
    show (if c ∈ S then i :: plcs S (i + 1) (r ++ ys) else plcs S (i + 1) (r ++ ys)) = (if c ∈ S then i :: plcs S (i + 1) r else plcs S (i + 1) r) ++ _
    rw [plcs_app r ys (i + 1), List.length_cons, show i + (r.length + 1) = i + 1 + r.length by omega]
    split <;> rfl
theorem plcs_all {S : List Str} : ∀ {xs : List Str} {i : Nat}, (∀ x ∈ xs, x ∈ S) → plcs S i xs = List.range' i xs.length
  | [], _, _ => rfl
  | c :: r, i, h => by
    show (if c ∈ S then i :: plcs S (i + 1) r else _) = _
    rw [if_pos (h c List.mem_cons_self), plcs_all fun x hx => h x (List.mem_cons_of_mem _ hx)]
    rfl
theorem brg_mid {A B C S : List Str} (hA : ∀ x ∈ A, x ∉ S) (hB : ∀ x ∈ B, x ∈ S) (hC : ∀ x ∈ C, x ∉ S) : brg (A ++ B ++ C) S = if B = [] then (0, 0) else (A.length, A.length + B.length) := by
  unfold brg
  rw [plcs_app, plcs_app, plcs_none hA, plcs_none hC, plcs_all hB, List.append_nil, List.nil_append, Nat.zero_add]
  cases B with
  | nil => rfl
  | cons b r =>
    rw [if_neg (List.cons_ne_nil b r)]
    have e : ∀ (k n : Nat) (h : k :: List.range' (k + 1) n ≠ []), (k :: List.range' (k + 1) n).getLast h + 1 = k + (n + 1) := fun k n h => by
      have : (k :: List.range' (k + 1) n).getLast? = some (k + n) := by
        show (List.range' k (n + 1)).getLast? = _
        rw [List.range'_1_concat, List.getLast?_concat]
      rw [List.getLast?_eq_some_getLast h] at this
      rw [Option.some.inj this]
      omega
    exact Prod.ext rfl (e A.length r.length _)
theorem cut_mid (A B C : List Str) : cutN (A ++ B ++ C) (A.length, A.length + B.length) = B := by
  unfold cutN
  show ((A ++ B ++ C).take (A.length + B.length)).drop A.length = B
  rw [show A.length + B.length = (A ++ B).length by simp, List.take_left, List.drop_left]
theorem cut_zero (L : List Str) : cutN L (0, 0) = [] := rfl
theorem Spl.blk {F A B C D E : List Str} {es : List Ev} (h : Spl F A B C D E es) (hn : (A ++ B ++ C ++ arrs es).Nodup) (hA : ∀ x ∈ A ++ C, x ∉ F) :
    brg (A ++ B ++ C) F = (if B = [] then (0, 0) else (A.length, A.length + B.length)) ∧ brg F (A ++ B ++ C) = (if B = [] then (0, 0) else (D.length, D.length + B.length)) := by
  have hl : ∀ x ∈ D ++ E, x ∉ A ++ B ++ C := fun x hx z => (List.nodup_append.mp hn).2.2 x z x (h.late x hx) rfl
  constructor
  · refine brg_mid (fun x hx => hA x (List.mem_append_left _ hx)) (fun x hx => ?_) fun x hx => hA x (List.mem_append_right _ hx)
    rw [h.eqF]
    simp [hx]
  · have := brg_mid (A := D) (B := B) (C := E) (S := A ++ B ++ C) (fun x hx => hl x (List.mem_append_left _ hx)) (fun x hx => by simp [hx]) (fun x hx => hl x (List.mem_append_right _ hx))
    rw [← h.eqF] at this
    exact this
/-! ### switches -/
def swG (F : List Str) : Option Nat → Int → Int → Int → Option Str → List Ev → Option (Option Str × Str)
  | _, _, _, _, _, [] => none
  | lo, nL, nR, x, b, .out :: r => swG F lo (nL - 1) (nR - 1) (x - 1) b r
  | lo, nL, nR, x, b, .inn c :: r => if c ∈ F then
      match lo with
      | none => swG F (some (F.idxOf c)) 0 0 x (some c) r
      | some l => if F.idxOf c < l then (if 0 < nL then some (b, c) else swG F (some l) 0 x x (some c) r) else (if 0 < nR then some (b, c) else swG F (some l) x 0 x (some c) r)
    else swG F lo nL nR (x + 1) b r
theorem swF_G {F : List Str} {dep ext : List Int} : ∀ (r : List Ev) (lo : Option Nat) (nL nR : Int) (b : Option Str) (s k : Nat) (d x : Int), dep.drop k = depL d r → ext.drop k = extL F x r →
    swF dep ext nL nR b s (arrSt F lo (k + 1) r) = swG F lo (nL - (d - dep.getD s 0)) (nR - (d - dep.getD s 0)) x b r
  | [], _, _, _, _, _, _, _, _, _, _ => rfl
  | .out :: r, lo, nL, nR, b, s, k, d, x, h1, h2 => by
    have h1' : dep.drop (k + 1) = depL (d + 1) r := by rw [← List.drop_drop, h1]; rfl
    have h2' : ext.drop (k + 1) = extL F (x - 1) r := by rw [← List.drop_drop, h2]; rfl
    show swF dep ext nL nR b s (arrSt F lo (k + 1 + 1) r) = swG F lo _ _ (x - 1) b r
    rw [swF_G r lo nL nR b s (k + 1) (d + 1) (x - 1) h1' h2']
    congr 1 <;> omega
  | .inn c :: r, lo, nL, nR, b, s, k, d, x, h1, h2 => by
    have h1' : dep.drop (k + 1) = depL d r := by rw [← List.drop_drop, h1]; rfl
    have hd : dep.getD (k + 1) 0 = d := by
      have : (dep.drop (k + 1))[0]? = some d := by rw [h1']; cases r with | nil => rfl | cons e r => cases e <;> rfl
      rw [List.getElem?_drop] at this
      rw [List.getD_eq_getElem?_getD, show k + 1 = k + 1 + 0 from rfl, this]
      rfl
    by_cases hc : c ∈ F
    · have h2' : ext.drop (k + 1) = extL F x r := by
        rw [← List.drop_drop, h2]
        show extL F (if c ∈ F then x else x + 1) r = _
        rw [if_pos hc]
      have hx : ext.getD (k + 1) 0 = x := by
        have : (ext.drop (k + 1))[0]? = some x := by rw [h2']; cases r with | nil => rfl | cons e r => cases e <;> rfl
        rw [List.getElem?_drop] at this
        rw [List.getD_eq_getElem?_getD, show k + 1 = k + 1 + 0 from rfl, this]
        rfl
      cases lo with
      | none =>
        show swF dep ext nL nR b s (if c ∈ F then (c, k + 1, none) :: arrSt F (some (F.idxOf c)) (k + 1 + 1) r else _) = (if c ∈ F then swG F (some (F.idxOf c)) 0 0 x (some c) r else _)
        rw [if_pos hc, if_pos hc]
        show (if false = true then _ else swF dep ext 0 0 (some c) (k + 1) (arrSt F (some (F.idxOf c)) (k + 1 + 1) r)) = _
        rw [if_neg Bool.false_ne_true, swF_G r _ 0 0 (some c) (k + 1) (k + 1) d x h1' h2', hd]
        congr 1 <;> omega
      | some l =>
        show swF dep ext nL nR b s (if c ∈ F then (c, k + 1, some (decide (F.idxOf c < l))) :: arrSt F (some l) (k + 1 + 1) r else _) = (if c ∈ F then (if F.idxOf c < l then (if 0 < nL - (d - dep.getD s 0) then some (b, c) else swG F (some l) 0 x x (some c) r) else (if 0 < nR - (d - dep.getD s 0) then some (b, c) else swG F (some l) x 0 x (some c) r)) else _)
        rw [if_pos hc, if_pos hc]
        by_cases hl : F.idxOf c < l
        · rw [decide_eq_true hl, if_pos hl]
          show (if decide (dep.getD (k + 1) 0 - dep.getD s 0 < nL) = true then some (b, c) else swF dep ext 0 (ext.getD (k + 1) 0) (some c) (k + 1) (arrSt F (some l) (k + 1 + 1) r)) = _
          rw [hd, hx]
          by_cases q : d - dep.getD s 0 < nL
          · rw [if_pos (decide_eq_true q), if_pos (by omega)]
          · rw [if_neg (by simpa using q), if_neg (by omega), swF_G r _ 0 x (some c) (k + 1) (k + 1) d x h1' h2', hd]
            congr 1 <;> omega
        · rw [decide_eq_false hl, if_neg hl]
          show (if decide (dep.getD (k + 1) 0 - dep.getD s 0 < nR) = true then some (b, c) else swF dep ext (ext.getD (k + 1) 0) 0 (some c) (k + 1) (arrSt F (some l) (k + 1 + 1) r)) = _
          rw [hd, hx]
          by_cases q : d - dep.getD s 0 < nR
          · rw [if_pos (decide_eq_true q), if_pos (by omega)]
          · rw [if_neg (by simpa using q), if_neg (by omega), swF_G r _ x 0 (some c) (k + 1) (k + 1) d x h1' h2', hd]
            congr 1 <;> omega
    · have h2' : ext.drop (k + 1) = extL F (x + 1) r := by
        rw [← List.drop_drop, h2]
        show extL F (if c ∈ F then x else x + 1) r = _
        rw [if_neg hc]
      have e1 : arrSt F lo (k + 1) (.inn c :: r) = arrSt F lo (k + 1 + 1) r := by
        show (if c ∈ F then _ else _) = _
        rw [if_neg hc]
      have e2 : ∀ n1 n2, swG F lo n1 n2 x b (.inn c :: r) = swG F lo n1 n2 (x + 1) b r := fun n1 n2 => by
        show (if c ∈ F then _ else _) = _
        rw [if_neg hc]
      rw [e1, e2]
      exact swF_G r lo nL nR b s (k + 1) d (x + 1) h1' h2'
/-- what is needed at each end is there -/
def Rdy (A B C D : List Str) (nL nR : Int) : Option Nat → Prop
  | none => B = []
  | some l => B ≠ [] ∧ D.length ≤ l ∧ l ≤ D.length + B.length ∧ nL ≤ A.length ∧ nR ≤ C.length
theorem Spl.sw {F A B C D E : List Str} {r : List Ev} (h : Spl F A B C D E r) (hn : F.Nodup) : ∀ (lo : Option Nat) (nL nR : Int) (b : Option Str), Rdy A B C D nL nR lo → swG F lo nL nR ((A.length + C.length : Nat) : Int) b r = none := by
  induction h with
  | nil => exact fun _ _ _ _ _ => rfl
  | @mid A C A' C' D E r e _ ih =>
    intro lo nL nR b hr
    have : A'.length + C'.length = A.length + C.length := by rw [← List.length_append, e, List.length_append]
    rw [this]
    cases lo with
    | none => exact ih none nL nR b rfl
    | some l => exact absurd rfl hr.1
  | @stL B C D E r c hS ih =>
    intro lo nL nR b hr
    have e : F = D ++ c :: (B ++ E) := by rw [hS.eqF]; simp
    have hc : c ∈ F := by rw [e]; simp
    have hi : F.idxOf c = D.length := by rw [e] at hn ⊢; exact idx_mid hn
    cases lo with
    | none =>
      show (if c ∈ F then swG F (some (F.idxOf c)) 0 0 _ (some c) r else _) = none
      rw [if_pos hc, hi]
      refine ih _ 0 0 (some c) ⟨List.cons_ne_nil _ _, Nat.le_refl _, Nat.le_add_right _ _, by simp, by omega⟩
    | some l =>
      obtain ⟨hB, h1, h2, h3, h4⟩ := hr
      rw [List.length_append, List.length_singleton] at h1 h2
      show (if c ∈ F then (if F.idxOf c < l then (if 0 < nL then some (b, c) else swG F (some l) 0 _ _ (some c) r) else _) else _) = none
      rw [if_pos hc, hi, if_pos (by omega), if_neg (by rw [List.length_nil] at h3; omega)]
      refine ih _ 0 _ (some c) ⟨List.cons_ne_nil _ _, by omega, by rw [List.length_cons]; omega, by simp, by rw [List.length_nil]; omega⟩
  | @stR A B D E r c hS ih =>
    intro lo nL nR b hr
    have e : F = (D ++ B) ++ c :: E := by rw [hS.eqF]; simp
    have hc : c ∈ F := by rw [e]; simp
    have hi : F.idxOf c = D.length + B.length := by
      rw [e] at hn ⊢
      rw [idx_mid hn, List.length_append]
    have hl : (B ++ [c]).length = B.length + 1 := by rw [List.length_append]; rfl
    cases lo with
    | none =>
      show (if c ∈ F then swG F (some (F.idxOf c)) 0 0 _ (some c) r else _) = none
      rw [if_pos hc, hi]
      refine ih _ 0 0 (some c) ⟨by simp, by omega, by omega, by omega, by simp⟩
    | some l =>
      obtain ⟨hB, h1, h2, h3, h4⟩ := hr
      show (if c ∈ F then (if F.idxOf c < l then _ else (if 0 < nR then some (b, c) else swG F (some l) _ 0 _ (some c) r)) else _) = none
      rw [if_pos hc, hi, if_neg (by omega), if_neg (by rw [List.length_nil] at h4; omega)]
      refine ih _ _ 0 (some c) ⟨by simp, by omega, by omega, by rw [List.length_nil]; omega, by simp⟩
  | @lvL A B C D E r c hc _ ih =>
    intro lo nL nR b hr
    show (if c ∈ F then _ else swG F lo nL nR (((A.length + C.length : Nat) : Int) + 1) b r) = none
    rw [if_neg hc, show ((A.length + C.length : Nat) : Int) + 1 = (((c :: A).length + C.length : Nat) : Int) by rw [List.length_cons]; omega]
    refine ih lo nL nR b ?_
    cases lo with
    | none => exact hr
    | some l => exact ⟨hr.1, hr.2.1, hr.2.2.1, by rw [List.length_cons]; have := hr.2.2.2.1; omega, hr.2.2.2.2⟩
  | @lvR A B C D E r c hc _ ih =>
    intro lo nL nR b hr
    show (if c ∈ F then _ else swG F lo nL nR (((A.length + C.length : Nat) : Int) + 1) b r) = none
    rw [if_neg hc, show ((A.length + C.length : Nat) : Int) + 1 = ((A.length + (C ++ [c]).length : Nat) : Int) by rw [List.length_append, List.length_singleton]; omega]
    refine ih lo nL nR b ?_
    cases lo with
    | none => exact hr
    | some l => exact ⟨hr.1, hr.2.1, hr.2.2.1, hr.2.2.2.1, by rw [List.length_append, List.length_singleton]; have := hr.2.2.2.2; omega⟩
  | @outL A B C D E r x _ ih =>
    intro lo nL nR b hr
    show swG F lo (nL - 1) (nR - 1) ((((x :: A).length + C.length : Nat) : Int) - 1) b r = none
    rw [show (((x :: A).length + C.length : Nat) : Int) - 1 = ((A.length + C.length : Nat) : Int) by rw [List.length_cons]; omega]
    refine ih lo _ _ b ?_
    cases lo with
    | none => exact hr
    | some l =>
      obtain ⟨h0, h1, h2, h3, h4⟩ := hr
      rw [List.length_cons] at h3
      exact ⟨h0, h1, h2, by omega, by omega⟩
  | @outR A B C D E r x _ ih =>
    intro lo nL nR b hr
    show swG F lo (nL - 1) (nR - 1) (((A.length + (C ++ [x]).length : Nat) : Int) - 1) b r = none
    rw [show ((A.length + (C ++ [x]).length : Nat) : Int) - 1 = ((A.length + C.length : Nat) : Int) by rw [List.length_append, List.length_singleton]; omega]
    refine ih lo _ _ b ?_
    cases lo with
    | none => exact hr
    | some l =>
      obtain ⟨h0, h1, h2, h3, h4⟩ := hr
      rw [List.length_append, List.length_singleton] at h4
      exact ⟨h0, h1, h2, by omega, by omega⟩
/-! ### a replayed lane -/
theorem filt_mid {A B C S : List Str} (hA : ∀ x ∈ A, x ∉ S) (hB : ∀ x ∈ B, x ∈ S) (hC : ∀ x ∈ C, x ∉ S) : stayN (A ++ B ++ C) S = B.length := by
  unfold stayN
  have e1 : A.filter (fun c => decide (c ∈ S)) = [] := List.filter_eq_nil_iff.mpr fun x hx => by simpa using hA x hx
  have e2 : C.filter (fun c => decide (c ∈ S)) = [] := List.filter_eq_nil_iff.mpr fun x hx => by simpa using hC x hx
  have e3 : B.filter (fun c => decide (c ∈ S)) = B := List.filter_eq_self.mpr fun x hx => by simpa using hB x hx
  rw [List.filter_append, List.filter_append, e1, e2, e3]
  simp
theorem why_run {xs F : List Str} {es : List Ev} (h : Run xs es F) (hn : (xs ++ arrs es).Nodup) : why xs es F = .ok := by
  have hF := h.nodup hn
  have hmem := h.mem
  have hlen := h.len
  obtain ⟨A, B, C, D, E, rfl, hS, hA⟩ := split h hn
  obtain ⟨b1, b2⟩ := hS.blk hn hA
  have hB : ∀ x ∈ B, x ∈ F := fun x hx => by rw [hS.eqF]; simp [hx]
  have hst : stayN (A ++ B ++ C) F = B.length := filt_mid (fun x hx => hA x (List.mem_append_left _ hx)) hB fun x hx => hA x (List.mem_append_right _ hx)
  have hx0 : (((A ++ B ++ C).length : Nat) : Int) - stayN (A ++ B ++ C) F = ((A.length + C.length : Nat) : Int) := by
    rw [hst, List.length_append, List.length_append]
    omega
  unfold why
  rw [if_neg (by
    have : carsOk (A ++ B ++ C) es F = true := by
      unfold carsOk
      rw [Bool.and_eq_true]
      exact ⟨decide_eq_true hlen, List.all_eq_true.mpr fun x hx => decide_eq_true (hmem x hx)⟩
    rw [this]
    decide)]
  rw [if_neg (by
    have : hasBlk (A ++ B ++ C) F = true := by
      unfold hasBlk
      refine decide_eq_true ?_
      rw [b1, b2]
      by_cases q : B = []
      · rw [if_pos q, if_pos q]
        rfl
      · rw [if_neg q, if_neg q, cut_mid]
        have := cut_mid D B E
        rw [← hS.eqF] at this
        exact this.symm
    rw [this]
    decide)]
  rw [hS.fpk hn]
  have hneg : fneg (ext0 (A ++ B ++ C) F es) = none := by
    unfold fneg ext0
    rw [hx0, List.findIdx?_eq_none_iff]
    intro y hy
    have := hS.ext y hy
    exact decide_eq_false (by omega)
  have hsw : swC (A ++ B ++ C) es F = none := by
    unfold swC ext0
    rw [hx0]
    have := swF_G (F := F) (dep := depL 0 es) (ext := extL F ((A.length + C.length : Nat) : Int) es) es (lo0 (brg F (A ++ B ++ C))) (brg (A ++ B ++ C) F).1 ((((A ++ B ++ C).length : Nat) : Int) - (brg (A ++ B ++ C) F).2) none 0 0 0 ((A.length + C.length : Nat) : Int) rfl rfl
    rw [Nat.zero_add] at this
    rw [this]
    have hd0 : (depL 0 es).getD 0 0 = 0 := by cases es with | nil => rfl | cons e r => cases e <;> rfl
    rw [hd0]
    refine hS.sw hF _ _ _ _ ?_
    rw [b1, b2]
    by_cases q : B = []
    · rw [if_pos q, if_pos q]
      exact q
    · rw [if_neg q, if_neg q]
      have hp : 0 < B.length := List.length_pos_iff.mpr q
      unfold lo0
      rw [if_neg (show ¬ D.length + B.length = 0 by omega)]
      refine ⟨q, Nat.le_refl _, Nat.le_add_right _ _, by simp, ?_⟩
      rw [List.length_append, List.length_append]
      show (((A.length + B.length + C.length : Nat) : Int) - ((A.length + B.length : Nat) : Int)) - (0 - 0) ≤ _
      omega
  show (match fneg (ext0 (A ++ B ++ C) F es) with | some t => Why.moment t | none => match swC (A ++ B ++ C) es F with | some (b, c) => .switch b c | none => .ok) = .ok
  rw [hneg, hsw]
theorem why_size {xs F : List Str} {es : List Ev} (h : (F.length : Int) ≠ endI xs.length es) : why xs es F = .cars := by
  unfold why
  rw [if_pos]
  unfold carsOk
  rw [decide_eq_false h]
  rfl
end Ln


set_option Elab.async false
set_option linter.all false
set_option maxRecDepth 100000
set_option maxHeartbeats 4000000
namespace Ln
open PySem
/-! ### the conditions are enough: the rule of [16] gives the lane -/
/-- a lane after one event, at the left end or the right -/
def mvB (L : List Str) (e : Ev) (left : Bool) : List Str := match e with
  | .inn c => if left = true then c :: L else L ++ [c]
  | .out => if left = true then L.drop 1 else L.take (L.length - 1)
/-- the side of the next stayer, true for the left one -/
def nxW (F : List Str) : Option Nat → List Ev → Bool
  | _, [] => true
  | lo, .out :: r => nxW F lo r
  | lo, .inn c :: r => if c ∈ F then
      match lo with
      | none => nxW F (some (F.idxOf c)) r
      | some l => decide (F.idxOf c < l)
    else nxW F lo r
def loN (F : List Str) (lo : Option Nat) : Ev → Option Nat
  | .out => lo
  | .inn c => if c ∈ F then (match lo with | none => some (F.idxOf c) | some l => some l) else lo
/-- the side of an event, s the side of the next stayer -/
def gSide (F : List Str) (s : Bool) (L : List Str) : Ev → Bool
  | .inn c => decide (c ∈ F) == s
  | .out => if s = true then !decide (∃ y ∈ L.head?, y ∈ F) else decide (∃ y ∈ L.getLast?, y ∈ F)
def gRun (F : List Str) : Option Nat → List Str → List Ev → List Str
  | _, L, [] => L
  | lo, L, e :: r => gRun F (loN F lo e) (mvB L e (gSide F (nxW F lo (e :: r)) L e)) r
theorem mvB_in {L : List Str} {c : Str} {left : Bool} : Mv L (.inn c) (mvB L (.inn c) left) := by
  cases left with
  | true => exact .inL c L
  | false => exact .inR c L
theorem take_dropLast (L : List Str) : L.take (L.length - 1) = L.dropLast := (List.dropLast_eq_take).symm
theorem mvB_out {L : List Str} {left : Bool} (h : L ≠ []) : Mv L .out (mvB L .out left) := by
  cases left with
  | true =>
    cases L with
    | nil => exact absurd rfl h
    | cons x r => exact .outL x r
  | false =>
    show Mv L .out (L.take (L.length - 1))
    rw [take_dropLast]
    have e := (List.dropLast_concat_getLast h).symm
    generalize L.dropLast = r at e ⊢
    rw [e]
    exact .outR _ r
/-- the first of those that arrive is the last of a falling row -/
theorem last_of {f : Str → Nat} {c : Str} : ∀ {D : List Str}, D.Pairwise (fun a b => f b < f a) → c ∈ D → (∀ d ∈ D, f c ≤ f d) → ∃ D0, D = D0 ++ [c]
  | [], _, h, _ => by cases h
  | [d], _, h, _ => ⟨[], by rw [List.mem_singleton.mp h]; rfl⟩
  | d :: e :: r, hp, h, hm => by
    have hp' := List.pairwise_cons.mp hp
    have hne : c ≠ d := fun z => by
      have h1 := hp'.1 e List.mem_cons_self
      have h2 := hm e (List.mem_cons_of_mem _ List.mem_cons_self)
      rw [z] at h2
      omega
    have hc : c ∈ e :: r := (List.mem_cons.mp h).elim (fun z => absurd z hne) id
    obtain ⟨D0, h0⟩ := last_of hp'.2 hc fun x hx => hm x (List.mem_cons_of_mem _ hx)
    exact ⟨d :: D0, by rw [h0]; rfl⟩
theorem first_of {f : Str → Nat} {c : Str} : ∀ {E : List Str}, E.Pairwise (fun a b => f a < f b) → c ∈ E → (∀ d ∈ E, f c ≤ f d) → ∃ E0, E = c :: E0
  | [], _, h, _ => by cases h
  | d :: r, hp, h, hm => by
    rcases List.mem_cons.mp h with e | h
    · exact ⟨r, by rw [e]⟩
    · have h1 := (List.pairwise_cons.mp hp).1 c h
      have h2 := hm d List.mem_cons_self
      omega
/-- what is still to come fits the lane -/
structure Fit (F D B E : List Str) (kn P : List Str) (r : List Ev) : Prop where
  eq : F = D ++ B ++ E
  nd : F.Nodup
  ek : kn = P ++ arrs r
  knd : kn.Nodup
  dn : D.Pairwise (fun a b => kn.idxOf b < kn.idxOf a)
  up : E.Pairwise (fun a b => kn.idxOf a < kn.idxOf b)
  late : ∀ y ∈ D ++ E, y ∈ arrs r
  all : ∀ c ∈ arrs r, c ∈ F → c ∈ D ++ E
theorem idx_ge {P S : List Str} {y : Str} (hn : (P ++ S).Nodup) (h : y ∈ S) : P.length ≤ (P ++ S).idxOf y := by
  have hc : y ∉ P := fun z => (List.nodup_append.mp hn).2.2 y z y h rfl
  rw [List.idxOf_append, if_neg hc]
  omega
section
variable {F A B C D E kn P : List Str} {r : List Ev} {c : Str}
theorem Fit.out (h : Fit F D B E kn P (.out :: r)) : Fit F D B E kn P r := ⟨h.eq, h.nd, h.ek, h.knd, h.dn, h.up, h.late, h.all⟩
theorem Fit.pass (h : Fit F D B E kn P (.inn c :: r)) (hc : c ∉ F) : Fit F D B E kn (P ++ [c]) r := by
  refine ⟨h.eq, h.nd, by rw [h.ek]; simp [arrs], h.knd, h.dn, h.up, fun y hy => ?_, fun y hy hf => h.all y (List.mem_cons_of_mem _ hy) hf⟩
  rcases List.mem_cons.mp (h.late y hy) with e | e
  · refine absurd ?_ hc
    rw [← e, h.eq]
    rcases List.mem_append.mp hy with z | z
    · simp [z]
    · simp [z]
  · exact e
theorem Fit.min (h : Fit F D B E kn P (.inn c :: r)) : ∀ d ∈ D ++ E, kn.idxOf c ≤ kn.idxOf d := fun d hd => by
  have hk : kn = P ++ c :: arrs r := h.ek
  have hn : (P ++ c :: arrs r).Nodup := hk ▸ h.knd
  have h1 : kn.idxOf c = P.length := by rw [hk]; exact idx_mid hn
  have h2 : P.length ≤ kn.idxOf d := by
    rw [hk]
    exact idx_ge hn (h.late d hd)
  omega
/-- the next stayer comes to the one side or the other -/
theorem Fit.stay (h : Fit F D B E kn P (.inn c :: r)) (hc : c ∈ F) : (∃ D0, D = D0 ++ [c] ∧ Fit F D0 (c :: B) E kn (P ++ [c]) r) ∨ (∃ E0, E = c :: E0 ∧ Fit F D (B ++ [c]) E0 kn (P ++ [c]) r) := by
  have hin := h.all c List.mem_cons_self hc
  have hk2 : kn = (P ++ [c]) ++ arrs r := by rw [h.ek]; simp [arrs]
  have hcr : c ∉ arrs r := fun z => by
    have hn : (P ++ c :: arrs r).Nodup := (show kn = P ++ c :: arrs r from h.ek) ▸ h.knd
    exact (List.nodup_cons.mp (List.nodup_append.mp hn).2.1).1 z
  have hFn := h.nd
  rcases List.mem_append.mp hin with hd | he
  · obtain ⟨D0, rfl⟩ := last_of h.dn hd fun d hd => h.min d (List.mem_append_left _ hd)
    refine .inl ⟨D0, rfl, by rw [h.eq]; simp, h.nd, hk2, h.knd, (List.pairwise_append.mp h.dn).1, h.up, fun y hy => ?_, fun y hy hf => ?_⟩
    · have hyc : y ≠ c := fun z => by
        have e : F = D0 ++ c :: (B ++ E) := by rw [h.eq]; simp
        rw [e] at hFn
        have := (List.nodup_cons.mp (List.perm_middle.nodup_iff.mp hFn)).1
        refine this ?_
        rw [← z]
        rcases List.mem_append.mp hy with q | q
        · simp [q]
        · simp [q]
      have : y ∈ D0 ++ [c] ++ E := by
        rcases List.mem_append.mp hy with z | z
        · simp [z]
        · simp [z]
      exact (List.mem_cons.mp (h.late y this)).elim (fun z => absurd z hyc) id
    · have := h.all y (List.mem_cons_of_mem _ hy) hf
      have hyc : y ≠ c := fun z => hcr (z ▸ hy)
      simp at this ⊢
      rcases this with z | z | z
      · exact .inl z
      · exact absurd z hyc
      · exact .inr z
  · obtain ⟨E0, rfl⟩ := first_of h.up he fun d hd => h.min d (List.mem_append_right _ hd)
    refine .inr ⟨E0, rfl, by rw [h.eq]; simp, h.nd, hk2, h.knd, h.dn, (List.pairwise_cons.mp h.up).2, fun y hy => ?_, fun y hy hf => ?_⟩
    · have hyc : y ≠ c := fun z => by
        have e : F = (D ++ B) ++ c :: E0 := by rw [h.eq]
        rw [e] at hFn
        have := (List.nodup_cons.mp (List.perm_middle.nodup_iff.mp hFn)).1
        refine this ?_
        rw [← z]
        rcases List.mem_append.mp hy with q | q
        · simp [q]
        · simp [q]
      have : y ∈ D ++ c :: E0 := by
        rcases List.mem_append.mp hy with z | z
        · simp [z]
        · simp [z]
      exact (List.mem_cons.mp (h.late y this)).elim (fun z => absurd z hyc) id
    · have := h.all y (List.mem_cons_of_mem _ hy) hf
      have hyc : y ≠ c := fun z => hcr (z ▸ hy)
      simp at this ⊢
      rcases this with z | z | z
      · exact .inl z
      · exact absurd z hyc
      · exact .inr z
end
end Ln


set_option Elab.async false
set_option linter.all false
set_option maxRecDepth 100000
set_option maxHeartbeats 4000000
namespace Ln
open PySem
theorem ext_head {F : List Str} {x : Int} {r : List Ev} (h : ∀ y ∈ extL F x r, 0 ≤ y) : 0 ≤ x := by
  cases r with
  | nil => exact h x List.mem_cons_self
  | cons e r => cases e <;> exact h x List.mem_cons_self
theorem run_one {F : List Str} {lo : Option Nat} {L : List Str} {e : Ev} {r : List Ev} (m : Mv L e (mvB L e (gSide F (nxW F lo (e :: r)) L e))) (h : Run (mvB L e (gSide F (nxW F lo (e :: r)) L e)) r (gRun F (loN F lo e) (mvB L e (gSide F (nxW F lo (e :: r)) L e)) r)) : Run L (e :: r) (gRun F lo L (e :: r)) := .cons m h
theorem drop_left {A : List Str} {x : Str} : (x :: A).drop 1 = A := rfl
theorem take_right {A : List Str} {x : Str} : (A ++ [x]).take ((A ++ [x]).length - 1) = A := by rw [take_dropLast, List.dropLast_concat]
/-- at the end the lane is all that was to be -/
theorem Fit.last {F A B C D E kn P : List Str} (h : Fit F D B E kn P []) (hsz : ((A ++ B ++ C).length : Int) = F.length) : A ++ B ++ C = F := by
  have hDE : D ++ E = [] := by
    cases hx : D ++ E with
    | nil => rfl
    | cons y r =>
      have := h.late y (by rw [hx]; exact List.mem_cons_self)
      cases this
  obtain ⟨rfl, rfl⟩ := List.append_eq_nil_iff.mp hDE
  have hF : F = B := by rw [h.eq]; simp
  rw [hF] at hsz
  rw [List.length_append, List.length_append] at hsz
  have hA : A = [] := List.eq_nil_of_length_eq_zero (by omega)
  have hC : C = [] := List.eq_nil_of_length_eq_zero (by omega)
  rw [hA, hC, hF]
  simp
/-- with a stayer in the lane -/
theorem grd_some {F : List Str} : ∀ (r : List Ev) (A B C D E kn P : List Str) (l : Nat) (nL nR : Int) (b : Option Str), Fit F D B E kn P r → B ≠ [] → D.length ≤ l → l ≤ D.length + B.length → (∀ y ∈ A ++ C, y ∉ F) →
    (∀ y ∈ extL F ((A.length + C.length : Nat) : Int) r, 0 ≤ y) → swG F (some l) nL nR ((A.length + C.length : Nat) : Int) b r = none → (nxW F (some l) r = true → (A.length : Int) ≤ max 0 nL) → (nxW F (some l) r = false → (C.length : Int) ≤ max 0 nR) →
    endI ((A ++ B ++ C).length : Int) r = F.length → gRun F (some l) (A ++ B ++ C) r = F ∧ Run (A ++ B ++ C) r F
  | [], A, B, C, D, E, kn, P, l, nL, nR, b, hf, hB, h1, h2, hA, hx, hs, hl, hr, hsz => by
    have e := hf.last hsz
    show A ++ B ++ C = F ∧ Run (A ++ B ++ C) [] F
    exact ⟨e, by rw [e]; exact .nil _⟩
  | .out :: r, A, B, C, D, E, kn, P, l, nL, nR, b, hf, hB, h1, h2, hA, hx, hs, hl, hr, hsz => by
    have hx1 : ∀ y ∈ extL F (((A.length + C.length : Nat) : Int) - 1) r, 0 ≤ y := fun y hy => hx y (List.mem_cons_of_mem _ hy)
    have hpos := ext_head hx1
    have hw : nxW F (some l) (.out :: r) = nxW F (some l) r := rfl
    rw [hw] at hl hr
    have hs : swG F (some l) (nL - 1) (nR - 1) (((A.length + C.length : Nat) : Int) - 1) b r = none := hs
    -- a leaver at the left end goes
    have goL : ∀ (x : Str) (A' : List Str), A = x :: A' → gSide F (nxW F (some l) r) (A ++ B ++ C) .out = true → gRun F (some l) (A ++ B ++ C) (.out :: r) = F ∧ Run (A ++ B ++ C) (.out :: r) F := fun x A' e hg => by
      subst e
      have e1 : mvB (x :: A' ++ B ++ C) .out true = A' ++ B ++ C := rfl
      have e0 : (((x :: A').length + C.length : Nat) : Int) - 1 = ((A'.length + C.length : Nat) : Int) := by rw [List.length_cons]; omega
      rw [e0] at hx1 hs
      have ih := grd_some r A' B C D E kn P l (nL - 1) (nR - 1) b hf.out hB h1 h2 (fun y hy => hA y (List.mem_cons_of_mem _ hy)) hx1 hs (fun z => by have := hl z; rw [List.length_cons] at this; omega) (fun z => by
        have h3 := hr z
        by_cases q : C = []
        · rw [q, List.length_nil]
          omega
        · -- the right one was wanted, and there was a leaver there
          exfalso
          have hg : (if nxW F (some l) r = true then _ else decide (∃ y ∈ (x :: A' ++ B ++ C).getLast?, y ∈ F)) = true := hg
          rw [z, if_neg Bool.false_ne_true] at hg
          obtain ⟨y, hy, hyF⟩ := of_decide_eq_true hg
          have hlast : (x :: A' ++ B ++ C).getLast? = C.getLast? := by
            rw [List.getLast?_append]
            cases hc : C.getLast? with
            | none => exact absurd (List.getLast?_eq_none_iff.mp hc) q
            | some y => rfl
          rw [hlast] at hy
          exact hA y (List.mem_append_right _ (List.mem_of_getLast? hy)) hyF) (by rw [← e1]; have := hsz; show endI ((A' ++ B ++ C).length : Int) r = _; rw [← this]; show _ = endI (((x :: A' ++ B ++ C).length : Int) - 1) r; congr 1; simp)
      refine ⟨?_, .cons (.outL x _) ih.2⟩
      show gRun F (some l) (mvB (x :: A' ++ B ++ C) .out (gSide F (nxW F (some l) r) (x :: A' ++ B ++ C) .out)) r = F
      rw [hg, e1]
      exact ih.1
    have goR : ∀ (x : Str) (C' : List Str), C = C' ++ [x] → gSide F (nxW F (some l) r) (A ++ B ++ C) .out = false → gRun F (some l) (A ++ B ++ C) (.out :: r) = F ∧ Run (A ++ B ++ C) (.out :: r) F := fun x C' e hg => by
      subst e
      have e1 : mvB (A ++ B ++ (C' ++ [x])) .out false = A ++ B ++ C' := by
        rw [← List.append_assoc]
        exact take_right
      have e0 : ((A.length + (C' ++ [x]).length : Nat) : Int) - 1 = ((A.length + C'.length : Nat) : Int) := by rw [List.length_append, List.length_singleton]; omega
      rw [e0] at hx1 hs
      have ih := grd_some r A B C' D E kn P l (nL - 1) (nR - 1) b hf.out hB h1 h2 (fun y hy => hA y (by rcases List.mem_append.mp hy with z | z <;> simp [z])) hx1 hs (fun z => by
        have h3 := hl z
        cases A with
        | nil => rw [List.length_nil]; omega
        | cons a A' =>
          exfalso
          have hg : (if nxW F (some l) r = true then !decide (∃ y ∈ (a :: A' ++ B ++ (C' ++ [x])).head?, y ∈ F) else _) = false := hg
          rw [z, if_pos rfl, Bool.not_eq_false'] at hg
          obtain ⟨y, hy, hyF⟩ := of_decide_eq_true hg
          have hy : some a = some y := hy
          cases hy
          exact hA a List.mem_cons_self hyF) (fun z => by have := hr z; rw [List.length_append, List.length_singleton] at this; omega) (by
            have := hsz
            rw [← this]
            show endI ((A ++ B ++ C').length : Int) r = endI (((A ++ B ++ (C' ++ [x])).length : Int) - 1) r
            congr 1
            simp
            omega)
      refine ⟨?_, ?_⟩
      · show gRun F (some l) (mvB (A ++ B ++ (C' ++ [x])) .out (gSide F (nxW F (some l) r) (A ++ B ++ (C' ++ [x])) .out)) r = F
        rw [hg, e1]
        exact ih.1
      · rw [← List.append_assoc]
        exact .cons (.outR x _) ih.2
    have hBF : ∀ y ∈ B, y ∈ F := fun y hy => by rw [hf.eq]; simp [hy]
    cases hg : gSide F (nxW F (some l) r) (A ++ B ++ C) .out with
    | true =>
      cases A with
      | cons x A' => exact goL x A' rfl hg
      | nil =>
        exfalso
        obtain ⟨y0, B', rfl⟩ := List.exists_cons_of_ne_nil hB
        cases hz : nxW F (some l) r with
        | true =>
          rw [hz] at hg
          have hg : (!decide (∃ y ∈ (([] : List Str) ++ (y0 :: B') ++ C).head?, y ∈ F)) = true := hg
          rw [decide_eq_true ⟨y0, rfl, hBF y0 List.mem_cons_self⟩] at hg
          cases hg
        | false =>
          rw [hz] at hg
          have hg : decide (∃ y ∈ (([] : List Str) ++ (y0 :: B') ++ C).getLast?, y ∈ F) = true := hg
          obtain ⟨y, hy, hyF⟩ := of_decide_eq_true hg
          have hCne : C ≠ [] := fun q => by
            rw [q] at hpos
            exact absurd hpos (by decide)
          have hlast : (([] : List Str) ++ (y0 :: B') ++ C).getLast? = C.getLast? := by
            rw [List.getLast?_append]
            cases hc : C.getLast? with
            | none => exact absurd (List.getLast?_eq_none_iff.mp hc) hCne
            | some y => rfl
          rw [hlast] at hy
          exact hA y (List.mem_append_right _ (List.mem_of_getLast? hy)) hyF
    | false =>
      rcases List.eq_nil_or_concat C with rfl | ⟨C', x, rfl⟩
      · exfalso
        have hBl : (A ++ B ++ []).getLast? = some (B.getLast hB) := by
          rw [List.append_nil, List.getLast?_append, List.getLast?_eq_some_getLast hB]
          rfl
        cases hz : nxW F (some l) r with
        | false =>
          rw [hz] at hg
          have hg : decide (∃ y ∈ (A ++ B ++ []).getLast?, y ∈ F) = false := hg
          rw [decide_eq_true ⟨_, hBl, hBF _ (List.getLast_mem hB)⟩] at hg
          cases hg
        | true =>
          rw [hz] at hg
          have hg : (!decide (∃ y ∈ (A ++ B ++ []).head?, y ∈ F)) = false := hg
          rw [Bool.not_eq_false'] at hg
          obtain ⟨y, hy, hyF⟩ := of_decide_eq_true hg
          cases A with
          | nil =>
            exact absurd hpos (by decide)
          | cons a A' =>
            have hy : some a = some y := hy
            cases hy
            exact hA _ List.mem_cons_self hyF
      · exact goR x C' (by simp) (by simpa using hg)
  | .inn c :: r, A, B, C, D, E, kn, P, l, nL, nR, b, hf, hB, h1, h2, hA, hx, hs, hl, hr, hsz => by
    by_cases hc : c ∈ F
    · -- a stayer
      have hx1 : ∀ y ∈ extL F ((A.length + C.length : Nat) : Int) r, 0 ≤ y := fun y hy => hx y (by
        show y ∈ _ :: extL F (if c ∈ F then _ else _) r
        rw [if_pos hc]
        exact List.mem_cons_of_mem _ hy)
      have hw : nxW F (some l) (.inn c :: r) = decide (F.idxOf c < l) := by
        show (if c ∈ F then decide (F.idxOf c < l) else _) = _
        rw [if_pos hc]
      have hs : (if F.idxOf c < l then (if 0 < nL then some (b, c) else swG F (some l) 0 ((A.length + C.length : Nat) : Int) ((A.length + C.length : Nat) : Int) (some c) r) else (if 0 < nR then some (b, c) else swG F (some l) ((A.length + C.length : Nat) : Int) 0 ((A.length + C.length : Nat) : Int) (some c) r)) = none := by
        have : (if c ∈ F then _ else _) = none := hs
        rw [if_pos hc] at this
        exact this
      have hlo : loN F (some l) (.inn c) = some l := by
        show (if c ∈ F then some l else some l) = some l
        split <;> rfl
      have hgs : ∀ w L, gSide F w L (.inn c) = w := fun w L => by
        show (decide (c ∈ F) == w) = w
        rw [decide_eq_true hc]
        cases w <;> rfl
      have eqn : ∀ L, gRun F (some l) L (.inn c :: r) = gRun F (some l) (mvB L (.inn c) (decide (F.idxOf c < l))) r := fun L => by
        show gRun F (loN F (some l) (.inn c)) (mvB L (.inn c) (gSide F (nxW F (some l) (.inn c :: r)) L (.inn c))) r = _
        rw [hlo, hgs, hw]
      rw [hw] at hl hr
      rcases hf.stay hc with ⟨D0, rfl, hf2⟩ | ⟨E0, rfl, hf2⟩
      · -- on the left
        have hi : F.idxOf c = D0.length := by
          have e : F = D0 ++ c :: (B ++ E) := by rw [hf.eq]; simp
          have hn := hf.nd
          rw [e] at hn ⊢
          exact idx_mid hn
        rw [List.length_append, List.length_singleton] at h1 h2
        have hlt : F.idxOf c < l := by omega
        rw [if_pos hlt] at hs
        have hnL : ¬ 0 < nL := fun z => by
          rw [if_pos z] at hs
          cases hs
        rw [if_neg hnL] at hs
        have hA0 : A = [] := List.eq_nil_of_length_eq_zero (by
          have := hl (decide_eq_true hlt)
          omega)
        subst hA0
        have ih := grd_some r [] (c :: B) C D0 E kn (P ++ [c]) l 0 _ (some c) hf2 (List.cons_ne_nil _ _) (by omega) (by rw [List.length_cons]; omega) hA hx1 hs (fun _ => by simp) (fun _ => by rw [List.length_nil]; omega) (by
          have := hsz
          rw [← this]
          show endI (((c :: B) ++ C).length : Int) r = endI ((([] ++ B ++ C).length : Int) + 1) r
          congr 1)
        refine ⟨?_, .cons (.inL c _) ih.2⟩
        rw [eqn, decide_eq_true hlt]
        exact ih.1
      · have hi : F.idxOf c = D.length + B.length := by
          have e : F = (D ++ B) ++ c :: E0 := by rw [hf.eq]
          have hn := hf.nd
          rw [e] at hn ⊢
          rw [idx_mid hn, List.length_append]
        have hge : ¬ F.idxOf c < l := by omega
        rw [if_neg hge] at hs
        have hnR : ¬ 0 < nR := fun z => by
          rw [if_pos z] at hs
          cases hs
        rw [if_neg hnR] at hs
        have hC0 : C = [] := List.eq_nil_of_length_eq_zero (by
          have := hr (decide_eq_false hge)
          omega)
        subst hC0
        have hBl : (B ++ [c]).length = B.length + 1 := by rw [List.length_append]; rfl
        have ih := grd_some r A (B ++ [c]) [] D E0 kn (P ++ [c]) l _ 0 (some c) hf2 (by simp) h1 (by omega) hA hx1 hs (fun _ => by rw [List.length_nil]; omega) (fun _ => by simp) (by
          have := hsz
          rw [← this]
          show endI ((A ++ (B ++ [c]) ++ []).length : Int) r = endI (((A ++ B ++ []).length : Int) + 1) r
          congr 1
          simp
          omega)
        have e1 : A ++ B ++ [] ++ [c] = A ++ (B ++ [c]) ++ [] := by simp
        refine ⟨?_, ?_⟩
        · rw [eqn, decide_eq_false hge]
          show gRun F (some l) (A ++ B ++ [] ++ [c]) r = F
          rw [e1]
          exact ih.1
        · refine .cons (.inR c _) ?_
          rw [e1]
          exact ih.2
    · -- a leaver
      have hx1 : ∀ y ∈ extL F (((A.length + C.length : Nat) : Int) + 1) r, 0 ≤ y := fun y hy => hx y (by
        show y ∈ _ :: extL F (if c ∈ F then _ else _) r
        rw [if_neg hc]
        exact List.mem_cons_of_mem _ hy)
      have hw : nxW F (some l) (.inn c :: r) = nxW F (some l) r := by
        show (if c ∈ F then _ else nxW F (some l) r) = _
        rw [if_neg hc]
      have hs : swG F (some l) nL nR (((A.length + C.length : Nat) : Int) + 1) b r = none := by
        have : (if c ∈ F then _ else swG F (some l) nL nR (((A.length + C.length : Nat) : Int) + 1) b r) = none := hs
        rw [if_neg hc] at this
        exact this
      have hlo : loN F (some l) (.inn c) = some l := by
        show (if c ∈ F then some l else some l) = some l
        split <;> rfl
      have eqn : ∀ L, gRun F (some l) L (.inn c :: r) = gRun F (some l) (mvB L (.inn c) (!nxW F (some l) r)) r := fun L => by
        show gRun F (loN F (some l) (.inn c)) (mvB L (.inn c) (decide (c ∈ F) == nxW F (some l) (.inn c :: r))) r = _
        rw [hlo, hw, decide_eq_false hc]
        cases nxW F (some l) r <;> rfl
      rw [hw] at hl hr
      cases hz : nxW F (some l) r with
      | true =>
        have e0 : ((A.length + C.length : Nat) : Int) + 1 = ((A.length + (C ++ [c]).length : Nat) : Int) := by rw [List.length_append, List.length_singleton]; omega
        rw [e0] at hx1 hs
        have ih := grd_some r A B (C ++ [c]) D E kn (P ++ [c]) l nL nR b (hf.pass hc) hB h1 h2 (fun y hy => by
          rw [← List.append_assoc] at hy
          rcases List.mem_append.mp hy with z | z
          · exact hA y z
          · rw [List.mem_singleton.mp z]; exact hc) hx1 hs (fun _ => hl hz) (fun q => by rw [hz] at q; cases q) (by
            have := hsz
            rw [← this]
            show endI ((A ++ B ++ (C ++ [c])).length : Int) r = endI (((A ++ B ++ C).length : Int) + 1) r
            congr 1
            simp
            omega)
        have e1 : A ++ B ++ C ++ [c] = A ++ B ++ (C ++ [c]) := by simp
        refine ⟨?_, ?_⟩
        · rw [eqn, hz]
          show gRun F (some l) (A ++ B ++ C ++ [c]) r = F
          rw [e1]
          exact ih.1
        · refine .cons (.inR c _) ?_
          rw [e1]
          exact ih.2
      | false =>
        have e0 : ((A.length + C.length : Nat) : Int) + 1 = (((c :: A).length + C.length : Nat) : Int) := by rw [List.length_cons]; omega
        rw [e0] at hx1 hs
        have ih := grd_some r (c :: A) B C D E kn (P ++ [c]) l nL nR b (hf.pass hc) hB h1 h2 (fun y hy => by
          rcases List.mem_cons.mp hy with z | z
          · rw [z]; exact hc
          · exact hA y z) hx1 hs (fun q => by rw [hz] at q; cases q) (fun _ => hr hz) (by
            have := hsz
            rw [← this]
            show endI ((c :: A ++ B ++ C).length : Int) r = endI (((A ++ B ++ C).length : Int) + 1) r
            congr 1)
        refine ⟨?_, .cons (.inL c _) ih.2⟩
        rw [eqn, hz]
        exact ih.1
end Ln


set_option Elab.async false
set_option linter.all false
set_option maxRecDepth 100000
set_option maxHeartbeats 4000000
namespace Ln
open PySem
theorem mvB_all {F L : List Str} {e : Ev} {s : Bool} (h : ∀ y ∈ L, y ∉ F) (hc : ∀ c, e = .inn c → c ∉ F) : ∀ y ∈ mvB L e s, y ∉ F := by
  intro y hy
  cases e with
  | inn c =>
    cases s with
    | true => exact (List.mem_cons.mp hy).elim (fun z => by rw [z]; exact hc c rfl) (h y)
    | false => exact (List.mem_append.mp hy).elim (h y) (fun z => by rw [List.mem_singleton.mp z]; exact hc c rfl)
  | out =>
    cases s with
    | true => exact h y (List.mem_of_mem_drop hy)
    | false => exact h y (List.mem_of_mem_take hy)
theorem mvB_len {L : List Str} {e : Ev} {s : Bool} (h : e = .out → L ≠ []) : ((mvB L e s).length : Int) = endI L.length [e] := by
  cases e with
  | inn c => exact mvB_in.len
  | out => exact (mvB_out (h rfl)).len
/-- before the first stayer of all -/
theorem grd_none {F : List Str} : ∀ (r : List Ev) (L D E kn P : List Str) (nL nR : Int) (b : Option Str), Fit F D [] E kn P r → (∀ y ∈ L, y ∉ F) →
    (∀ y ∈ extL F (L.length : Int) r, 0 ≤ y) → swG F none nL nR (L.length : Int) b r = none → endI (L.length : Int) r = F.length → gRun F none L r = F ∧ Run L r F
  | [], L, D, E, kn, P, nL, nR, b, hf, hA, hx, hs, hsz => by
    have e := hf.last (A := L) (C := []) (by rw [List.append_nil, List.append_nil]; exact hsz)
    rw [List.append_nil, List.append_nil] at e
    show L = F ∧ Run L [] F
    exact ⟨e, by rw [e]; exact .nil _⟩
  | .out :: r, L, D, E, kn, P, nL, nR, b, hf, hA, hx, hs, hsz => by
    have hx1 : ∀ y ∈ extL F ((L.length : Int) - 1) r, 0 ≤ y := fun y hy => hx y (List.mem_cons_of_mem _ hy)
    have hpos := ext_head hx1
    have hne : L ≠ [] := fun z => by
      rw [z] at hpos
      exact absurd hpos (by decide)
    have hl : ((mvB L .out (gSide F (nxW F none r) L .out)).length : Int) = (L.length : Int) - 1 := mvB_len fun _ => hne
    have ih := grd_none r (mvB L .out (gSide F (nxW F none r) L .out)) D E kn P (nL - 1) (nR - 1) b hf.out (mvB_all hA fun c z => by cases z) (by rw [hl]; exact hx1) (by rw [hl]; exact hs) (by rw [hl]; exact hsz)
    exact ⟨ih.1, .cons (mvB_out hne) ih.2⟩
  | .inn c :: r, L, D, E, kn, P, nL, nR, b, hf, hA, hx, hs, hsz => by
    by_cases hc : c ∈ F
    · have hx1 : ∀ y ∈ extL F (L.length : Int) r, 0 ≤ y := fun y hy => hx y (by
        show y ∈ _ :: extL F (if c ∈ F then _ else _) r
        rw [if_pos hc]
        exact List.mem_cons_of_mem _ hy)
      have hs : swG F (some (F.idxOf c)) 0 0 (L.length : Int) (some c) r = none := by
        have : (if c ∈ F then swG F (some (F.idxOf c)) 0 0 (L.length : Int) (some c) r else _) = none := hs
        rw [if_pos hc] at this
        exact this
      have eqn : gRun F none L (.inn c :: r) = gRun F (some (F.idxOf c)) (mvB L (.inn c) (nxW F (some (F.idxOf c)) r)) r := by
        have hlo : loN F none (.inn c) = some (F.idxOf c) := by
          show (if c ∈ F then some (F.idxOf c) else none) = _
          rw [if_pos hc]
        have hw : nxW F none (.inn c :: r) = nxW F (some (F.idxOf c)) r := by
          show (if c ∈ F then nxW F (some (F.idxOf c)) r else _) = _
          rw [if_pos hc]
        show gRun F (loN F none (.inn c)) (mvB L (.inn c) (decide (c ∈ F) == nxW F none (.inn c :: r))) r = _
        rw [hlo, hw, decide_eq_true hc]
        cases nxW F (some (F.idxOf c)) r <;> rfl
      have key : ∀ D' E', Fit F D' [c] E' kn (P ++ [c]) r → F.idxOf c = D'.length → gRun F none L (.inn c :: r) = F ∧ Run L (.inn c :: r) F := fun D' E' hf2 hi => by
        rw [eqn]
        have hsz' : endI ((L.length : Int) + 1) r = F.length := hsz
        cases hz : nxW F (some (F.idxOf c)) r with
        | true =>
          have ih := grd_some r [] [c] L D' E' kn (P ++ [c]) (F.idxOf c) 0 0 (some c) hf2 (List.cons_ne_nil _ _) (by omega) (by rw [hi]; exact Nat.le_add_right _ _) hA (by rw [List.length_nil, Nat.zero_add]; exact hx1) (by rw [List.length_nil, Nat.zero_add]; exact hs) (fun _ => by simp) (fun q => by rw [hz] at q; cases q) (by
            rw [← hsz']
            rfl)
          exact ⟨ih.1, .cons (.inL c _) ih.2⟩
        | false =>
          have e1 : L ++ [c] = L ++ [c] ++ [] := by simp
          have ih := grd_some r L [c] [] D' E' kn (P ++ [c]) (F.idxOf c) 0 0 (some c) hf2 (List.cons_ne_nil _ _) (by omega) (by rw [hi]; exact Nat.le_add_right _ _) (by rw [List.append_nil]; exact hA) (by rw [List.length_nil, Nat.add_zero]; exact hx1) (by rw [List.length_nil, Nat.add_zero]; exact hs) (fun q => by rw [hz] at q; cases q) (fun _ => by simp) (by
            rw [← hsz', ← e1, List.length_append]
            rfl)
          rw [← e1] at ih
          exact ⟨ih.1, .cons (.inR c _) ih.2⟩
      rcases hf.stay hc with ⟨D0, rfl, hf2⟩ | ⟨E0, rfl, hf2⟩
      · refine key D0 E hf2 ?_
        have e : F = D0 ++ c :: E := by rw [hf.eq]; simp
        have hn := hf.nd
        rw [e] at hn ⊢
        exact idx_mid hn
      · refine key D E0 hf2 ?_
        have e : F = D ++ c :: E0 := by rw [hf.eq]; simp
        have hn := hf.nd
        rw [e] at hn ⊢
        exact idx_mid hn
    · have hx1 : ∀ y ∈ extL F ((L.length : Int) + 1) r, 0 ≤ y := fun y hy => hx y (by
        show y ∈ _ :: extL F (if c ∈ F then _ else _) r
        rw [if_neg hc]
        exact List.mem_cons_of_mem _ hy)
      have hs : swG F none nL nR ((L.length : Int) + 1) b r = none := by
        have : (if c ∈ F then _ else swG F none nL nR ((L.length : Int) + 1) b r) = none := hs
        rw [if_neg hc] at this
        exact this
      have hlo : loN F none (.inn c) = none := by
        show (if c ∈ F then some (F.idxOf c) else none) = none
        rw [if_neg hc]
      have hl : ∀ s, ((mvB L (.inn c) s).length : Int) = (L.length : Int) + 1 := fun s => mvB_len fun z => by cases z
      have ih := grd_none r (mvB L (.inn c) (gSide F (nxW F none (.inn c :: r)) L (.inn c))) D E kn (P ++ [c]) nL nR b (hf.pass hc) (mvB_all hA fun d z => by cases z; exact hc) (by rw [hl]; exact hx1) (by rw [hl]; exact hs) (by rw [hl]; exact hsz)
      refine ⟨?_, .cons mvB_in ih.2⟩
      show gRun F (loN F none (.inn c)) _ r = F
      rw [hlo]
      exact ih.1
/-! ### from the conditions -/
def NP (o : List Nat) : Prop := ∀ i, i + 2 < o.length → ¬ (o.getD i 0 < o.getD (i + 1) 0 ∧ o.getD (i + 2) 0 < o.getD (i + 1) 0)
theorem np_of {o : List Nat} (h : fpk o = none) : NP o := fun i hi z => by
  unfold fpk at h
  rw [List.find?_eq_none] at h
  have := h (i + 1) (by rw [List.mem_range'_1]; omega)
  refine this ?_
  unfold isPk
  rw [Bool.and_eq_true]
  exact ⟨decide_eq_true z.1, decide_eq_true z.2⟩
theorem valley : ∀ (o : List Nat), o.Nodup → NP o → ∃ d u, o = d ++ u ∧ d.Pairwise (fun a b => b < a) ∧ u.Pairwise (fun a b => a < b)
  | [], _, _ => ⟨[], [], rfl, .nil, .nil⟩
  | [a], _, _ => ⟨[a], [], rfl, List.pairwise_singleton _ _, .nil⟩
  | a :: b :: r, hn, hp => by
    have hn' := List.nodup_cons.mp hn
    obtain ⟨d, u, e, hd, hu⟩ := valley (b :: r) hn'.2 fun i hi z => hp (i + 1) (by rw [List.length_cons]; omega) z
    have hab : a ≠ b := fun z => hn'.1 (by rw [z]; exact List.mem_cons_self)
    by_cases q : b < a
    · cases d with
      | nil => exact ⟨[a], u, by rw [e]; rfl, List.pairwise_singleton _ _, hu⟩
      | cons b' d =>
        have e' : b :: r = b' :: (d ++ u) := e
        obtain ⟨rfl, rfl⟩ := List.cons.inj e'
        refine ⟨a :: b :: d, u, rfl, List.pairwise_cons.mpr ⟨fun x hx => ?_, hd⟩, hu⟩
        rcases List.mem_cons.mp hx with z | z
        · rw [z]; exact q
        · exact Nat.lt_trans ((List.pairwise_cons.mp hd).1 x z) q
    · have hlt : a < b := by omega
      have hp0 := hp 0
      have second : ∀ x y, r = x :: y → ¬ x < b := fun x y ex z => by
        refine hp0 (by rw [ex]; simp) ⟨hlt, ?_⟩
        rw [ex]
        exact z
      have asc : ∀ u, u.Pairwise (fun a b => a < b) → b :: r = b :: u → (∀ x ∈ u, b < x) → ∃ d u, a :: b :: r = d ++ u ∧ d.Pairwise (fun a b => b < a) ∧ u.Pairwise (fun a b => a < b) := fun u hu e hb => by
        refine ⟨[], a :: b :: u, by rw [e]; rfl, .nil, List.pairwise_cons.mpr ⟨fun x hx => ?_, List.pairwise_cons.mpr ⟨hb, hu⟩⟩⟩
        rcases List.mem_cons.mp hx with z | z
        · rw [z]; exact hlt
        · exact Nat.lt_trans hlt (hb x z)
      cases d with
      | nil =>
        have e' : b :: r = u := e
        subst e'
        exact asc r (List.pairwise_cons.mp hu).2 rfl (List.pairwise_cons.mp hu).1
      | cons b' d =>
        have e' : b :: r = b' :: (d ++ u) := e
        obtain ⟨rfl, rfl⟩ := List.cons.inj e'
        cases d with
        | cons x d =>
          have h1 := (List.pairwise_cons.mp hd).1 x List.mem_cons_self
          exact absurd h1 (second x (d ++ u) rfl)
        | nil =>
          refine asc u hu rfl fun x hx => ?_
          cases u with
          | nil => cases hx
          | cons y u =>
            have h1 := second y u rfl
            have h2 : y ≠ b := fun z => (List.nodup_cons.mp hn'.2).1 (by rw [← z]; exact List.mem_cons_self)
            have h3 : b < y := by omega
            rcases List.mem_cons.mp hx with z | z
            · rw [z]; exact h3
            · exact Nat.lt_trans h3 ((List.pairwise_cons.mp hu).1 x z)
/-- a lane as those before, from the first to the last, and behind the common cars -/
theorem cut3 (S : List Str) : ∀ xs : List Str, (∀ x ∈ xs, x ∉ S) ∨ ∃ A M C, xs = A ++ M ++ C ∧ (∀ x ∈ A, x ∉ S) ∧ (∀ x ∈ C, x ∉ S) ∧ (∃ m ∈ M.head?, m ∈ S) ∧ ∃ z ∈ M.getLast?, z ∈ S
  | [] => .inl fun x hx => by cases hx
  | c :: r => by
    rcases cut3 S r with h | ⟨A, M, C, e, h1, h2, h3, h4⟩
    · by_cases q : c ∈ S
      · exact .inr ⟨[], [c], r, rfl, (fun x hx => by cases hx), h, ⟨c, rfl, q⟩, c, rfl, q⟩
      · refine .inl fun x hx => ?_
        rcases List.mem_cons.mp hx with z | z
        · rw [z]; exact q
        · exact h x z
    · by_cases q : c ∈ S
      · refine .inr ⟨[], c :: (A ++ M), C, by rw [e]; simp, (fun x hx => by cases hx), h2, ⟨c, rfl, q⟩, ?_⟩
        obtain ⟨z, hz, hzS⟩ := h4
        refine ⟨z, ?_, hzS⟩
        rw [List.getLast?_cons, List.getLast?_append, hz]
        rfl
      · refine .inr ⟨c :: A, M, C, by rw [e]; rfl, fun x hx => ?_, h2, h3, h4⟩
        rcases List.mem_cons.mp hx with z | z
        · rw [z]; exact q
        · exact h1 x z
theorem plcs_last {S : List Str} {M : List Str} {z : Str} {k : Nat} (h : z ∈ M.getLast?) (hz : z ∈ S) : (plcs S k M).getLast? = some (k + M.length - 1) := by
  obtain ⟨M0, rfl⟩ : ∃ M0, M = M0 ++ [z] := by
    rcases List.eq_nil_or_concat M with rfl | ⟨M0, y, rfl⟩
    · cases h
    · refine ⟨M0, ?_⟩
      have h : some y = some z := by simpa using h
      rw [Option.some.inj h, List.concat_eq_append]
  rw [plcs_app]
  have : plcs S (k + M0.length) [z] = [k + M0.length] := by
    show (if z ∈ S then _ else _) = _
    rw [if_pos hz]
    rfl
  rw [this, List.getLast?_append, List.length_append]
  show some (k + M0.length) = some (k + (M0.length + 1) - 1)
  congr 1
theorem brgL_of {l : List Nat} {a z : Nat} (h1 : l.head? = some a) (h2 : l.getLast? = some z) : brgL l = (a, z + 1) := by
  cases l with
  | nil => cases h1
  | cons b r =>
    have h1 : some b = some a := h1
    cases h1
    have : (a :: r).getLast (List.cons_ne_nil a r) = z := by
      rw [List.getLast?_eq_some_getLast (List.cons_ne_nil a r)] at h2
      exact Option.some.inj h2
    show (a, (a :: r).getLast _ + 1) = _
    rw [this]
theorem brg_cut (xs S : List Str) : ∃ A M C, xs = A ++ M ++ C ∧ (∀ x ∈ A, x ∉ S) ∧ (∀ x ∈ C, x ∉ S) ∧ cutN xs (brg xs S) = M ∧ brg xs S = (if M = [] then (0, 0) else (A.length, A.length + M.length)) := by
  rcases cut3 S xs with h | ⟨A, M, C, rfl, h1, h2, ⟨m, hm, hmS⟩, z, hz, hzS⟩
  · refine ⟨xs, [], [], by simp, h, (fun x hx => by cases hx), ?_, ?_⟩
    · unfold brg
      rw [plcs_none h]
      rfl
    · unfold brg
      rw [plcs_none h]
      rfl
  · have hM : M ≠ [] := fun q => by
      rw [q] at hm
      cases hm
    have hb : brg (A ++ M ++ C) S = (A.length, A.length + M.length) := by
      unfold brg
      rw [plcs_app, plcs_app, plcs_none h1, plcs_none h2, List.append_nil, List.nil_append, Nat.zero_add]
      have hl := plcs_last (k := A.length) hz hzS
      have hh : (plcs S A.length M).head? = some A.length := by
        cases M with
        | nil => exact absurd rfl hM
        | cons y r =>
          have hm : some y = some m := hm
          rw [← Option.some.inj hm] at hmS
          show (if y ∈ S then A.length :: plcs S (A.length + 1) r else _).head? = _
          rw [if_pos hmS]
          rfl
      rw [brgL_of hh hl]
      have : 0 < M.length := List.length_pos_iff.mpr hM
      congr 1
      omega
    refine ⟨A, M, C, rfl, h1, h2, ?_, ?_⟩
    · rw [hb, cut_mid]
    · rw [hb, if_neg hM]
theorem why_ok_parts {xs F : List Str} {es : List Ev} (h : why xs es F = .ok) : carsOk xs es F = true ∧ hasBlk xs F = true ∧ fpk (F.map fun c => (xs ++ arrs es).idxOf c) = none ∧ fneg (ext0 xs F es) = none ∧ swC xs es F = none := by
  unfold why at h
  by_cases h1 : carsOk xs es F = false
  · rw [if_pos h1] at h
    cases h
  rw [if_neg h1] at h
  by_cases h2 : hasBlk xs F = false
  · rw [if_pos h2] at h
    cases h
  rw [if_neg h2] at h
  cases h3 : fpk (F.map fun c => (xs ++ arrs es).idxOf c) with
  | some i =>
    rw [h3] at h
    cases h
  | none =>
    rw [h3] at h
    have h : (match fneg (ext0 xs F es) with | some t => Why.moment t | none => match swC xs es F with | some (b, c) => .switch b c | none => .ok) = .ok := h
    cases h4 : fneg (ext0 xs F es) with
    | some t =>
      rw [h4] at h
      cases h
    | none =>
      rw [h4] at h
      have h : (match swC xs es F with | some (b, c) => Why.switch b c | none => .ok) = .ok := h
      cases h5 : swC xs es F with
      | some p =>
        rw [h5] at h
        cases h
      | none => exact ⟨by simpa using h1, by simpa using h2, rfl, rfl, rfl⟩
/-- the conditions are enough, by the rule of histories -/
theorem poss_run {xs F : List Str} {es : List Ev} (h : why xs es F = .ok) (hn : (xs ++ arrs es).Nodup) (hF : F.Nodup) : gRun F (lo0 (brg F xs)) xs es = F ∧ Run xs es F := by
  obtain ⟨h1, h2, h3, h4, h5⟩ := why_ok_parts h
  unfold carsOk at h1
  rw [Bool.and_eq_true] at h1
  have hsz : endI (xs.length : Int) es = F.length := (of_decide_eq_true h1.1).symm
  have hmem : ∀ c ∈ F, c ∈ xs ++ arrs es := fun c hc => of_decide_eq_true (List.all_eq_true.mp h1.2 c hc)
  obtain ⟨A, B, C, e1, hA, hC, hb1, hb2⟩ := brg_cut xs F
  obtain ⟨D, B', E, e2, hD, hE, hb3, hb4⟩ := brg_cut F xs
  obtain rfl : B = B' := by
    rw [← hb1, ← hb3]
    exact of_decide_eq_true h2
  have hBF : ∀ x ∈ B, x ∈ F := fun x hx => by rw [e2]; simp [hx]
  have hBx : ∀ x ∈ B, x ∈ xs := fun x hx => by rw [e1]; simp [hx]
  have hdis : ∀ x ∈ xs, x ∉ arrs es := fun x hx z => (List.nodup_append.mp hn).2.2 x hx x z rfl
  -- the valley
  have hinj : (F.map fun c => (xs ++ arrs es).idxOf c).Nodup := by
    refine List.pairwise_map.mpr (List.Pairwise.imp_of_mem (fun {x y} hx hy hxy e => hxy ?_) hF)
    have hx' := List.idxOf_lt_length_of_mem (hmem x hx)
    have e1 := List.getElem_idxOf hx'
    have hy' := List.idxOf_lt_length_of_mem (hmem y hy)
    have e2 := List.getElem_idxOf hy'
    rw [← e1, ← e2]
    congr 1
  obtain ⟨d, u, ho, hd, hu⟩ := valley _ hinj (np_of h3)
  have hext : ∀ y ∈ ext0 xs F es, 0 ≤ y := fun y hy => by
    unfold fneg at h4
    rw [List.findIdx?_eq_none_iff] at h4
    have := of_decide_eq_false (h4 y hy)
    omega
  have hx0 : ((xs.length : Nat) : Int) - stayN xs F = ((A.length + C.length : Nat) : Int) := by
    rw [e1, filt_mid hA hBF hC, List.length_append, List.length_append]
    omega
  unfold ext0 at hext
  rw [hx0] at hext
  have hsw : swG F (lo0 (brg F xs)) ((brg xs F).1 - (0 - 0)) (((xs.length : Nat) : Int) - (brg xs F).2 - (0 - 0)) ((A.length + C.length : Nat) : Int) none es = none := by
    unfold swC ext0 at h5
    rw [hx0] at h5
    have := swF_G (F := F) (dep := depL 0 es) (ext := extL F ((A.length + C.length : Nat) : Int) es) es (lo0 (brg F xs)) (brg xs F).1 (((xs.length : Nat) : Int) - (brg xs F).2) none 0 0 0 ((A.length + C.length : Nat) : Int) rfl rfl
    rw [Nat.zero_add] at this
    rw [this] at h5
    have hd0 : (depL 0 es).getD 0 0 = 0 := by cases es with | nil => rfl | cons e r => cases e <;> rfl
    rw [hd0] at h5
    exact h5
  by_cases hB : B = []
  · -- no block
    subst hB
    have hFx : ∀ x ∈ F, x ∉ xs := fun x hx => by
      rw [e2, List.append_nil] at hx
      rcases List.mem_append.mp hx with z | z
      · exact hD x z
      · exact hE x z
    have hFe : F = F.take d.length ++ [] ++ F.drop d.length := by rw [List.append_nil, List.take_append_drop]
    have hdm : (F.take d.length).map (fun c => (xs ++ arrs es).idxOf c) = d := by
      rw [List.map_take, ho, List.take_left]
    have hum : (F.drop d.length).map (fun c => (xs ++ arrs es).idxOf c) = u := by
      rw [List.map_drop, ho, List.drop_left]
    have fit : Fit F (F.take d.length) [] (F.drop d.length) (xs ++ arrs es) xs es := by
      refine ⟨hFe, hF, rfl, hn, ?_, ?_, fun y hy => ?_, fun c hc hcF => ?_⟩
      · rw [← hdm] at hd
        exact List.pairwise_map.mp hd
      · rw [← hum] at hu
        exact List.pairwise_map.mp hu
      · rw [List.take_append_drop] at hy
        exact (List.mem_append.mp (hmem y hy)).elim (fun z => absurd z (hFx y hy)) id
      · rw [List.take_append_drop]
        exact hcF
    have hlo : lo0 (brg F xs) = none := by
      rw [hb4, if_pos rfl]
      rfl
    rw [hlo] at hsw ⊢
    have hAC : A.length + C.length = xs.length := by rw [e1]; simp
    rw [hAC] at hsw hext
    exact grd_none es xs _ _ _ _ _ _ _ fit (fun y hy z => hFx y z hy) hext hsw hsz
  · have hlo : lo0 (brg F xs) = some D.length := by
      rw [hb4, if_neg hB]
      unfold lo0
      rw [if_neg (show ¬ D.length + B.length = 0 by have := List.length_pos_iff.mpr hB; omega)]
    rw [hlo] at hsw ⊢
    rw [hb2, if_neg hB] at hsw
    -- the block's cars have the small numbers
    have small : ∀ x ∈ B, (xs ++ arrs es).idxOf x < xs.length := fun x hx => by
      rw [List.idxOf_append, if_pos (hBx x hx)]
      exact List.idxOf_lt_length_of_mem (hBx x hx)
    have large : ∀ x ∈ D ++ E, xs.length ≤ (xs ++ arrs es).idxOf x := fun x hx => by
      have hx' : x ∉ xs := (List.mem_append.mp hx).elim (hD x) (hE x)
      rw [List.idxOf_append, if_neg hx']
      omega
    have hm : D.map (fun c => (xs ++ arrs es).idxOf c) ++ B.map (fun c => (xs ++ arrs es).idxOf c) ++ E.map (fun c => (xs ++ arrs es).idxOf c) = d ++ u := by
      rw [← ho, e2, List.map_append, List.map_append]
    generalize hDm : D.map (fun c => (xs ++ arrs es).idxOf c) = dm at hm
    generalize hBm : B.map (fun c => (xs ++ arrs es).idxOf c) = bm at hm
    generalize hEm : E.map (fun c => (xs ++ arrs es).idxOf c) = em at hm
    have hbm : bm ≠ [] := fun z => hB (by rw [← hBm] at z; exact List.map_eq_nil_iff.mp z)
    have sm : ∀ x ∈ bm, x < xs.length := fun x hx => by
      rw [← hBm] at hx
      obtain ⟨y, hy, rfl⟩ := List.mem_map.mp hx
      exact small y hy
    have lg1 : ∀ x ∈ dm, xs.length ≤ x := fun x hx => by
      rw [← hDm] at hx
      obtain ⟨y, hy, rfl⟩ := List.mem_map.mp hx
      exact large y (List.mem_append_left _ hy)
    have lg2 : ∀ x ∈ em, xs.length ≤ x := fun x hx => by
      rw [← hEm] at hx
      obtain ⟨y, hy, rfl⟩ := List.mem_map.mp hx
      exact large y (List.mem_append_right _ hy)
    obtain ⟨b0, br, hbr⟩ := List.exists_cons_of_ne_nil hbm
    obtain ⟨bi, bl, hbl⟩ : ∃ bi bl, bm = bi ++ [bl] := ⟨_, _, (List.dropLast_concat_getLast hbm).symm⟩
    -- D falls
    have hDd : dm.Pairwise (fun a b => b < a) := by
      rw [List.append_assoc] at hm
      rcases List.append_eq_append_iff.mp hm with ⟨t, ht1, ht2⟩ | ⟨t, ht1, ht2⟩
      · rw [ht1] at hd
        exact (List.pairwise_append.mp hd).1
      · -- dm = d ++ t, u = t ++ (bm ++ em)
        cases t with
        | nil =>
          rw [List.append_nil] at ht1
          rw [ht1]
          exact hd
        | cons y t =>
          exfalso
          rw [ht2, hbr] at hu
          have h6 := (List.pairwise_append.mp hu).2.2 y List.mem_cons_self b0 (by simp)
          have h7 := lg1 y (by rw [ht1]; simp)
          have h8 := sm b0 (by rw [hbr]; simp)
          omega
    have hEu : em.Pairwise (fun a b => a < b) := by
      rcases List.append_eq_append_iff.mp hm with ⟨t, ht1, ht2⟩ | ⟨t, ht1, ht2⟩
      · -- d = dm ++ bm ++ t, em = t ++ u
        cases t with
        | nil =>
          rw [List.nil_append] at ht2
          rw [ht2]
          exact hu
        | cons y t =>
          exfalso
          rw [ht1, hbl] at hd
          have h6 := (List.pairwise_append.mp hd).2.2 bl (by simp) y List.mem_cons_self
          have h7 := lg2 y (by rw [ht2]; simp)
          have h8 := sm bl (by rw [hbl]; simp)
          omega
      · rw [ht2] at hu
        exact (List.pairwise_append.mp hu).2.1
    have fit : Fit F D B E (xs ++ arrs es) xs es := by
      refine ⟨e2, hF, rfl, hn, ?_, ?_, fun y hy => ?_, fun c hc hcF => ?_⟩
      · rw [← hDm] at hDd
        exact List.pairwise_map.mp hDd
      · rw [← hEm] at hEu
        exact List.pairwise_map.mp hEu
      · have hyx : y ∉ xs := (List.mem_append.mp hy).elim (hD y) (hE y)
        have hyF : y ∈ F := by
          rw [e2]
          rcases List.mem_append.mp hy with z | z
          · simp [z]
          · simp [z]
        exact (List.mem_append.mp (hmem y hyF)).elim (fun z => absurd z hyx) id
      · rw [e2] at hcF
        rcases List.mem_append.mp hcF with z | z
        · rcases List.mem_append.mp z with z | z
          · exact List.mem_append_left _ z
          · exact absurd hc (hdis c (hBx c z))
        · exact List.mem_append_right _ z
    have hxe : xs = A ++ B ++ C := e1
    have hres := grd_some es A B C D E (xs ++ arrs es) xs D.length (A.length : Int) (C.length : Int) none fit hB (Nat.le_refl _) (Nat.le_add_right _ _) (fun y hy => (List.mem_append.mp hy).elim (hA y) (hC y)) hext (by
      have e3 : ((A.length : Nat) : Int) - (0 - 0) = (A.length : Int) := by omega
      have e4 : ((xs.length : Nat) : Int) - ((A.length + B.length : Nat) : Int) - (0 - 0) = (C.length : Int) := by rw [e1, List.length_append, List.length_append]; omega
      have hsw' : swG F (some D.length) (((A.length : Nat) : Int) - (0 - 0)) (((xs.length : Nat) : Int) - ((A.length + B.length : Nat) : Int) - (0 - 0)) ((A.length + C.length : Nat) : Int) none es = none := hsw
      rw [e3, e4] at hsw'
      exact hsw') (fun _ => by omega) (fun _ => by omega) (by rw [← hxe]; exact hsz)
    rw [← hxe] at hres
    exact hres
/-- [8]: a lane is a final lane of some history exactly if the conditions hold -/
theorem why_iff {xs F : List Str} {es : List Ev} (hn : (xs ++ arrs es).Nodup) (hF : F.Nodup) : why xs es F = .ok ↔ Run xs es F :=
  ⟨fun h => (poss_run h hn hF).2, fun h => why_run h hn⟩
end Ln


set_option Elab.async false
set_option linter.all false
set_option maxRecDepth 100000
set_option maxHeartbeats 4000000
namespace Ln
open PySem PySem.Spec PyProof.Rows L2
/-! ### enumerate of a list or a tuple, from any count -/
/-- a list (true) or a tuple (false) -/
def SqA (K : PySem.W.Frag) (b : Bool) (H : Hp) (a : Addr) (xs : List V) : Prop := match b with
  | true => SqL K H a xs
  | false => SqT K H a xs
def seqA (b : Bool) (h : Heap) (a : Addr) (its : Array Value) : Prop := match b with
  | true => h.IsList a its
  | false => h.IsTuple a its
def itA (b : Bool) (h : Heap) (it a : Addr) (i : Nat) : Prop := match b with
  | true => h.IsListIter it a i
  | false => h.IsTupleIter it a i
theorem draws_A {prog : Program} {w : World} {A : Around} {b : Bool} (hh : A.handled = none) (it a : Addr) (hne : a ≠ it) (items : Array Value) :
    Draws prog w A it [it, a] items.size (fun i v => items[i]? = some v) (fun i h => itA b h it a i ∧ seqA b h a items) := by
  cases b with
  | true => exact Draws.list hh it a hne items
  | false => exact Draws.tuple hh it a hne items
theorem itA_at {b : Bool} {h h' : Heap} {it a : Addr} {i : Nat} (q : itA b h it a i) (k : ∀ o, h.get? it = some o → h'.get? it = some o) : itA b h' it a i := by
  cases b with
  | true => exact Heap.IsListIter.at q k
  | false => exact Heap.IsTupleIter.at q k
theorem itA_obj {b : Bool} {h : Heap} {it a : Addr} {i : Nat} (q : itA b h it a i) : ∃ o, h.get? it = some o ∧ (∀ v, o.data ≠ .cell v) ∧ ∀ ys n, o.data ≠ .seq ys n := by
  cases b with
  | true =>
    obtain ⟨o, ho, hc, hd⟩ := q
    exact ⟨o, ho, fun v z => (by rw [hd] at z; cases z), fun ys n z => (by rw [hd] at z; cases z)⟩
  | false =>
    obtain ⟨o, ho, hc, hd⟩ := q
    exact ⟨o, ho, fun v z => (by rw [hd] at z; cases z), fun ys n z => (by rw [hd] at z; cases z)⟩
theorem seqA_obj {b : Bool} {h : Heap} {a : Addr} {its : Array Value} (q : seqA b h a its) : ∃ o n, h.get? a = some o ∧ o.data = .seq its n := by
  cases b with
  | true =>
    obtain ⟨o, ho, hc, n, hd⟩ := q
    exact ⟨o, n, ho, hd⟩
  | false =>
    obtain ⟨o, ho, hc, n, hd⟩ := q
    exact ⟨o, n, ho, hd⟩
section
variable {X : Cx} {pins : List (Addr × Obj)} {σ : L2.St} {H : Hp} {s : Shared} {a : Addr} {xs ys : List V}
theorem inv_seqA {b : Bool} (I : Inv X pins σ H s) (h : SqA X.K b H a xs) : ∃ its : List Value, Vals xs its ∧ seqA b s.heap a its.toArray := by
  cases b with
  | true =>
    obtain ⟨its, rv, p, _⟩ := I.list h
    exact ⟨its, rv, p.isList⟩
  | false =>
    obtain ⟨its, rv, p, _⟩ := I.tuple h
    exact ⟨its, rv, p⟩
theorem inv_injA {b : Bool} (I : Inv X pins σ H s) (h : SqA X.K b H a xs) (h' : SqA X.K b H a ys) : xs = ys := by
  cases b with
  | true => exact I.list_inj h h'
  | false => exact I.tuple_inj h h'
end
def IteA (K : PySem.W.Frag) (b : Bool) (k0 : Int) (a : Addr) : It :=
  ⟨fun i H => ∃ (xs : List V) (x : V), SqA K b H a xs ∧ xs[i]? = some x, fun i H v H' => ∃ T x, v = .ref T ∧ H T = none ∧ H' = upd H T (.tup [.int (k0 + (i : Nat)), x]) ∧ ∀ xs, SqA K b H a xs → xs[i]? = some x, fun i H => ∃ xs : List V, SqA K b H a xs ∧ xs.length = i⟩
theorem turn_enumA {P : Program} {w : World} {K : PySem.W.Frag} {elts : List Expr} {kk : Nat} {tpos : Pos} {b : Bool} {k0 : Int} (a e it : Addr) :
    Turn P w K (.Tuple elts kk tpos) (IteA K b k0 a) [e, it] e (fun i h => (∃ old, IsEnum h e it (k0 + (i : Nat)) old) ∧ itA b h it a i ∧ e ≠ it) where
  mem := by simp
  obj := fun i h st b hb => by
    obtain ⟨⟨old, he⟩, hi, _⟩ := st
    have e' : b = e ∨ b = it := by simpa using hb
    rcases e' with z | z
    · rw [z]; exact ⟨_, he, fun v q => nomatch q⟩
    · rw [z]
      obtain ⟨o, ho, hd, _⟩ := itA_obj hi
      exact ⟨o, ho, hd⟩
  keep := fun i h h' st k => let ⟨⟨old, he⟩, hi, hne⟩ := st; ⟨⟨old, k e (by simp) _ he⟩, itA_at hi fun o q => k it (by simp) o q, hne⟩
  item := by
    intro X hP hw hK hc i pins s σ H E I hf st hg
    subst hP hw hK
    obtain ⟨⟨old, he⟩, hit, hne⟩ := st
    obtain ⟨xs, x, hq, hx⟩ := hg
    obtain ⟨its, rv, p⟩ := inv_seqA I hq
    obtain ⟨u, hu, ru⟩ := rv.get hx
    obtain ⟨oa, na, ha, hda⟩ := seqA_obj p
    have hea : e ≠ a := fun z => by
      rw [← z, he] at ha
      cases ha
      cases hda
    have hia : it ≠ a := fun z => by
      obtain ⟨o, ho, _, hd⟩ := itA_obj hit
      rw [z, ha] at ho
      cases ho
      exact hd _ _ hda
    have hel : e < s.heap.objs.size := Heap.lt_size he
    have hil : it < s.heap.objs.size := by obtain ⟨_, q, _⟩ := itA_obj hit; exact Heap.lt_size q
    have hlt : i < its.toArray.size := by
      have := (List.getElem?_eq_some_iff.mp hu).1
      simpa using this
    refine wpAny_pyNext_enum_itemC (draws_A (b := b) (show X.A.in1.handled = none from I.ok.hd hc) it a (Ne.symm hia) its.toArray) he ⟨hit, p⟩ hlt hne (by simp [hne, hea]) fun x' h' tk hPx ho hs' hT hsz hk => ?_
    have hx' : x' = u := by
      have : its[i]? = some x' := by simpa using hPx
      rw [hu] at this
      exact (Option.some.inj this).symm
    subst hx'
    refine ⟨_, rfl, wpAny_letOwnedTupleGo_enum (s := { s with heap := h', toks := tk + 1 }) ho fun h'' he' sb => ?_⟩
    have hT2 : h''.get? s.heap.objs.size = some { cls := .type "tuple", data := .seq #[.int (k0 + (i : Nat)) tk, x'] } := (sb.2 _ (Nat.ne_of_gt hel)).trans hT
    have new : ObjOk X.prog X.w (upd H s.heap.objs.size (.tup [.int (k0 + (i : Nat)), x])) h'' s.heap.objs.size (.tup [.int (k0 + (i : Nat)), x]) :=
      ⟨by show 2 ≤ sizeLine; decide, [.int (k0 + (i : Nat)) tk, x'], .cons ⟨_, rfl⟩ (.cons ru .nil), ⟨_, hT2, rfl, _, rfl⟩⟩
    have I1 : Inv X pins σ (upd H s.heap.objs.size (.tup [.int (k0 + (i : Nat)), x])) { s with heap := h'', toks := tk + 1 } :=
      I.turnedNew (ch := [e, it]) (fun b o hb q => (sb.2 b (fun z => hb (by simp [z]))).trans (hk b o (fun z => hb (by simp [z])) (fun z => hb (by simp [z])) q)) hf (Nat.le_refl _) new
    refine ⟨.ref s.heap.objs.size, _, I1, rfl, ⟨_, x, rfl, I.hok.fresh (Nat.le_refl _), rfl, fun ys hy => by rw [inv_injA I hy hq]; exact hx⟩, ⟨⟨x', ?_⟩, itA_at hs'.1 fun o q => (sb.2 it (Ne.symm hne)).trans q, hne⟩, fun b hb => ?_⟩
    · have e1 : k0 + ((i + 1 : Nat) : Int) = k0 + (i : Nat) + 1 := by omega
      rw [e1]; exact he'
    · have hb' : b < s.heap.objs.size := by
        have e' : b = e ∨ b = it := by simpa using hb
        rcases e' with z | z
        · rw [z]; exact hel
        · rw [z]; exact hil
      rw [upd_ne (Nat.ne_of_lt hb')]
      exact (hf b hb).1
  done := by
    intro X hP hw hK hc i pins s σ H E I hf st hg
    subst hP hw hK
    obtain ⟨⟨old, he⟩, hit, hne⟩ := st
    obtain ⟨xs, hq, hx⟩ := hg
    obtain ⟨its, rv, p⟩ := inv_seqA I hq
    obtain ⟨f0, f1, f2, f3, f4, f5⟩ := hf it (by simp)
    have hl := rv.length
    have hia : it ≠ a := fun z => by
      obtain ⟨oa, na, ha, hda⟩ := seqA_obj p
      obtain ⟨o, ho, _, hd⟩ := itA_obj hit
      rw [z, ha] at ho
      cases ho
      exact hd _ _ hda
    have hn : its.toArray.size = i := by simp; omega
    exact wpAny_pyNext_enum_endD (draws_A (b := b) (show X.A.in1.handled = none from I.ok.hd hc) it a (Ne.symm hia) its.toArray) he (by rw [hn]; exact ⟨hit, p⟩) fun h' eb => ⟨rfl, I.turned (t' := s.toks) (fun b o hb q => eb b o hb q) f0 f1 f3 f4 f5⟩
  self := fun A i s Q E st h => let ⟨⟨_, he⟩, _⟩ := st; wpAny_pyIter_enum he h
def beginO (b : Bool) (a : Addr) : Obj := match b with
  | true => { cls := .type "list_iterator", data := .fields #[.ref a, .int 0 0] }
  | false => { cls := .type "tuple_iterator", data := .fields #[.ref a, .int 0 0] }
theorem begins_A (b : Bool) (a : Addr) (its : Array Value) : Begins (.ref a) (beginO b a) fun h => seqA b h a its := by
  cases b with
  | true => exact begins_list a its
  | false => exact begins_tuple a its
theorem itA_begin {b : Bool} {h : Heap} {it a : Addr} (q : h.get? it = some (beginO b a)) : itA b h it a 0 := by
  cases b with
  | true => exact ⟨_, q, rfl, rfl⟩
  | false => exact ⟨_, q, rfl, rfl⟩
set_option maxHeartbeats 8000000 in
theorem meets_enumerate_newB1 {v : Value} {o : Obj} {H : Heap → Prop} (B : Begins v o H) :
    Meets (Builtin.«enumerate.__new__» ⟨[.type "enumerate", v], []⟩) (fun _ R s => H s.heap ∧
      R (.ok (.ret (.ref (s.heap.push o).objs.size))) { s with heap := (s.heap.push o).push { cls := .type "enumerate", data := .fields #[.none, .bool false, .ref s.heap.objs.size, rawInt 0, .none, .none] } }) :=
  .of_wp fun prog w A R s h => by
    obtain ⟨hp, g, d, tk, os⟩ := s; obtain ⟨h1, h⟩ := h
    have hsub := sub_enumerate
    have q1 : ∀ {A' : Around} {E : Value → Shared → Prop} {Q : Value → Shared → Prop}, Q (.ref hp.objs.size) ⟨hp.push o, g, d, tk, os⟩ → wpAny (model prog w) A' (pyIter v) Q E ⟨hp, g, d, tk, os⟩ :=
      fun q => B.iter prog w _ _ ⟨hp, g, d, tk, os⟩ _ h1 q
    wp_walk using q1
    refine wpAny_stack_any fun st => wpAny_pure ?_
    split
    · rename_i c _ _ _ _ _
      cases (c == Value.type "enumerate")
      · wp_walk using q1
        exact ⟨_, rfl, h⟩
      · wp_walk using q1
        exact ⟨_, rfl, h⟩
    · wp_walk using q1
      exact ⟨_, rfl, h⟩
section
variable {prog : Program} {w : World} {A : Around} {E : Value → Shared → Prop} {s : Shared}
theorem enum_begins1 {v : Value} {o : Obj} {H : Heap → Prop} {Q : Value → Shared → Prop} (B : Begins v o H) (h1 : H s.heap)
    (h : ∀ h', IsEnum h' (s.heap.objs.size + 1) s.heap.objs.size 0 .none → h'.get? s.heap.objs.size = some o → h'.objs.size = s.heap.objs.size + 2 →
      (∀ b o, s.heap.get? b = some o → h'.get? b = some o) → Q (.ref (s.heap.objs.size + 1)) { s with heap := h' }) :
    wpAny (model prog w) A (call (.type "enumerate") [v]) Q E s := by
  refine callType_new F.called_enumerate (by decide) (F.typeCall_enumerate_1 _) (F.newCall_enumerate_1 _) (fun obj => F.args_object_init_2 obj _) F.entry_enumerate_new
    (meets_enumerate_newB1 B) ⟨h1, ?_⟩
  have hz : (s.heap.push o).objs.size = s.heap.objs.size + 1 := Heap.size_push ..
  show _ ∧ _
  rw [hz]
  have he : IsEnum ((s.heap.push o).push { cls := .type "enumerate", data := .fields #[.none, .bool false, .ref s.heap.objs.size, rawInt 0, .none, .none] }) (s.heap.objs.size + 1) s.heap.objs.size 0 .none := by
    have := Heap.get?_push_size (s.heap.push o) (o := { cls := .type "enumerate", data := .fields #[.none, .bool false, .ref s.heap.objs.size, rawInt 0, .none, .none] }) rfl
    rw [hz] at this; exact this
  refine ⟨⟨_, he, rfl⟩, h _ he (Heap.get?_push_of_some _ (Heap.get?_push_size _ B.free)) (by rw [Heap.size_push, hz]) fun b o x => Heap.get?_push_of_some _ (Heap.get?_push_of_some _ x)⟩
end
section
variable {X : Cx}
def iEnumA (K : PySem.W.Frag) (b : Bool) (k0 : Int) (q : List V → Addr → Prop) (ta : TA) : TI := fun σ H R => ta σ H fun vs H1 => ∃ a xs, q vs a ∧ SqA K b H1 a xs ∧ R (IteA K b k0 a) H1
/-- enumerate(a) -/
theorem pi_enumA (b : Bool) {e : Expr} {ta : TA} {p pos tpos : Pos} {elts : List Expr} {kk : Nat} (hg : Gl X "enumerate") (hm : X.mg "enumerate" = none) (ha : PA X [e] ta) (hs : starEach [e] X.env = [(false, eval e X.env)] := by rfl) :
    PI X (.Tuple elts kk tpos) (.Call (.Name "enumerate" p) [e] [] pos) (iEnumA X.K b 0 (fun vs a => vs = [.ref a]) ta) := by
  refine ⟨fun pins s σ H R I h => ?_⟩
  refine Call_ (ld_blt I hg hm boot_enumerate (PyProof.Rows.callWith_type1 (thn (ha.run pos pins s σ H _ I h) fun us s1 ⟨vs, H1, I1, r1, q1⟩ => ?_) hs rfl))
  obtain ⟨a, xs, ex, hq, q⟩ := q1
  subst ex
  cases r1 with
  | cons r rr =>
    cases rr
    cases r
    obtain ⟨its, rv, p'⟩ := inv_seqA I1 hq
    refine enum_begins1 (begins_A b a its.toArray) p' fun h' he hit hsz hk => wpAny_pyIter_enum he ?_
    have I2 : Inv X pins σ H1 { s1 with heap := h' } := I1.kept (t' := s1.toks) hk
    refine ⟨s1.heap.objs.size + 1, [s1.heap.objs.size + 1, s1.heap.objs.size], _, _, H1, rfl, I2, turn_enumA (b := b) (k0 := 0) a (s1.heap.objs.size + 1) s1.heap.objs.size, ⟨⟨.none, he⟩, itA_begin hit, Nat.succ_ne_self _⟩, fun b hb => ?_, q⟩
    have e' : b = s1.heap.objs.size + 1 ∨ b = s1.heap.objs.size := by simpa using hb
    have hle : s1.heap.objs.size ≤ b := by
      rcases e' with z | z
      · rw [z]; exact Nat.le_add_right _ _
      · rw [z]; exact Nat.le_refl _
    exact I1.fpOk hle (I1.hok.fresh hle)
/-- enumerate(a, k) -/
theorem pi_enumF (b : Bool) (k0 : Int) (hk0 : -(2 ^ 63) ≤ k0) (hk1 : k0 < 2 ^ 63) {e e2 : Expr} {ta : TA} {p pos tpos : Pos} {elts : List Expr} {kk : Nat} (hg : Gl X "enumerate") (hm : X.mg "enumerate" = none) (ha : PA X [e, e2] ta)
    (hs : starEach [e, e2] X.env = (false, eval e X.env) :: starEach [e2] X.env := by rfl) (hpl : (backTo pos (starEach [e2] X.env)).any (·.1) = false := by rfl) :
    PI X (.Tuple elts kk tpos) (.Call (.Name "enumerate" p) [e, e2] [] pos) (iEnumA X.K b k0 (fun vs a => vs = [.ref a, .int k0]) ta) := by
  refine ⟨fun pins s σ H R I h => ?_⟩
  refine Call_ (ld_blt I hg hm boot_enumerate (PyProof.Rows.callWith_type1 (thn (ha.run pos pins s σ H _ I h) fun us s1 ⟨vs, H1, I1, r1, q1⟩ => ?_) hs hpl))
  obtain ⟨a, xs, ex, hq, q⟩ := q1
  subst ex
  cases r1 with
  | cons r rr =>
    cases r
    cases rr with
    | cons r rr =>
      cases rr
      obtain ⟨t, rfl⟩ := r
      obtain ⟨its, rv, p'⟩ := inv_seqA I1 hq
      refine enum_begins (begins_A b a its.toArray) p' hk0 hk1 fun h' he hit hsz hk => wpAny_pyIter_enum he ?_
      have I2 : Inv X pins σ H1 { s1 with heap := h' } := I1.kept (t' := s1.toks) hk
      refine ⟨s1.heap.objs.size + 1, [s1.heap.objs.size + 1, s1.heap.objs.size], _, _, H1, rfl, I2, turn_enumA (b := b) (k0 := k0) a (s1.heap.objs.size + 1) s1.heap.objs.size, ⟨⟨.none, by rw [show k0 + ((0 : Nat) : Int) = k0 by omega]; exact he⟩, itA_begin hit, Nat.succ_ne_self _⟩, fun b hb => ?_, q⟩
      have e' : b = s1.heap.objs.size + 1 ∨ b = s1.heap.objs.size := by simpa using hb
      have hle : s1.heap.objs.size ≤ b := by
        rcases e' with z | z
        · rw [z]; exact Nat.le_add_right _ _
        · rw [z]; exact Nat.le_refl _
      exact I1.fpOk hle (I1.hok.fresh hle)
end
theorem walk_enumA {K : PySem.W.Frag} {b : Bool} {k0 : Int} {a : Addr} {xs : List V} : Walk (IteA K b k0 a) xs.length (fun H => SqA K b H a xs) (YPair (fun i => some (.int (k0 + (i : Nat)))) (fun i => xs[i]?)) := by
  refine ⟨fun i _ hi q => ⟨xs, xs[i], q, by simp [hi]⟩, fun _ q => ⟨xs, q, rfl⟩, fun i H v H' _ q y => ?_⟩
  obtain ⟨T, x, h1, h2, h3, h4⟩ := y
  exact ⟨T, .int (k0 + (i : Nat)), x, h1, h2, h3, rfl, h4 xs q⟩
end Ln


set_option Elab.async false
set_option linter.all false
set_option maxRecDepth 100000
set_option maxHeartbeats 4000000
namespace Ln
open PySem PySem.Spec PyProof.Rows L2 GxR
theorem scOpp : FnScope ["side"] ["side"] (defScope sOpp) := ⟨rfl, rfl, rfl, by decide +kernel, rfl, by decide +kernel, by decide +kernel⟩
theorem scDepC : FnScope ["log", "counts", "event"] ["log"] (defScope sDepC) := ⟨rfl, rfl, rfl, by decide +kernel, rfl, by decide +kernel, by decide +kernel⟩
theorem scExtras : FnScope ["start", "log", "cars", "stay", "present", "found", "event", "count", "car"] ["start", "log", "cars"] (defScope sExtras) := ⟨rfl, rfl, rfl, by decide +kernel, rfl, by decide +kernel, by decide +kernel⟩
theorem scFirstNeg : FnScope ["counts", "index", "count"] ["counts"] (defScope sFirstNeg) := ⟨rfl, rfl, rfl, by decide +kernel, rfl, by decide +kernel, by decide +kernel⟩
theorem scBlockR : FnScope ["start", "cars", "places", "place", "car"] ["start", "cars"] (defScope sBlockR) := ⟨rfl, rfl, rfl, by decide +kernel, rfl, by decide +kernel, by decide +kernel⟩
structure Bn (mg : Str → Option Value) : Prop where
  enm : mg "enumerate" = none
  rng : mg "range" = none
theorem inV_strs (x : Str) (F : List Str) : inV (.str x) (F.map V.str) = decide (x ∈ F) := by
  unfold inV
  rw [List.any_map]
  induction F with
  | nil => rfl
  | cons y r ih =>
    rw [List.any_cons, ih]
    show ((y == x) || decide (x ∈ r)) = decide (x ∈ y :: r)
    by_cases h : x = y
    · subst h
      rw [beq_self_eq_true, Bool.true_or, decide_eq_true List.mem_cons_self]
    · rw [beq_eq_false_iff_ne.mpr (fun e => h e.symm), Bool.false_or]
      refine decide_eq_decide.mpr ⟨fun q => List.mem_cons_of_mem _ q, fun q => ?_⟩
      rcases List.mem_cons.mp q with e | q
      · exact absurd e h
      · exact q
def Ev.dd : Ev → Int
  | .inn _ => 0
  | .out => 1
theorem depL_head (d : Int) (es : List Ev) : (depL d es)[0]? = some d := by
  cases es with
  | nil => rfl
  | cons e r => cases e <;> rfl
theorem depL_len : ∀ (d : Int) (es : List Ev), (depL d es).length = es.length + 1
  | _, [] => rfl
  | d, .inn _ :: r => by show (depL d r).length + 1 = _; rw [depL_len]; rfl
  | d, .out :: r => by show (depL (d + 1) r).length + 1 = _; rw [depL_len]; rfl
theorem depL_step : ∀ (d : Int) (es : List Ev) (i : Nat) (e : Ev) (k : Int), es[i]? = some e → (depL d es)[i]? = some k → (depL d es)[i + 1]? = some (k + e.dd)
  | d, [], i, e, k, h, _ => by simp at h
  | d, .inn c :: r, 0, e, k, h, h2 => by
    have e1 := Option.some.inj h
    have e2 := Option.some.inj h2
    subst e1 e2
    show (depL d r)[0]? = _
    rw [depL_head]
    show some d = some (d + 0)
    rw [Int.add_zero]
  | d, .out :: r, 0, e, k, h, h2 => by
    have e1 := Option.some.inj h
    have e2 := Option.some.inj h2
    subst e1 e2
    show (depL (d + 1) r)[0]? = _
    rw [depL_head]
    rfl
  | d, .inn c :: r, i + 1, e, k, h, h2 => depL_step d r i e k (by simpa using h) h2
  | d, .out :: r, i + 1, e, k, h, h2 => depL_step (d + 1) r i e k (by simpa using h) h2
def Ev.de (S : List Str) : Ev → Int
  | .inn c => if c ∈ S then 0 else 1
  | .out => -1
theorem extL_head (S : List Str) (x : Int) (es : List Ev) : (extL S x es)[0]? = some x := by
  cases es with
  | nil => rfl
  | cons e r => cases e <;> rfl
theorem extL_len (S : List Str) : ∀ (x : Int) (es : List Ev), (extL S x es).length = es.length + 1
  | _, [] => rfl
  | x, .inn c :: r => by show (extL S (if c ∈ S then x else x + 1) r).length + 1 = _; rw [extL_len]; rfl
  | x, .out :: r => by show (extL S (x - 1) r).length + 1 = _; rw [extL_len]; rfl
theorem extL_step (S : List Str) : ∀ (x : Int) (es : List Ev) (i : Nat) (e : Ev) (k : Int), es[i]? = some e → (extL S x es)[i]? = some k → (extL S x es)[i + 1]? = some (k + e.de S)
  | x, [], i, e, k, h, _ => by simp at h
  | x, .inn c :: r, 0, e, k, h, h2 => by
    have e1 := Option.some.inj h
    have e2 := Option.some.inj h2
    subst e1 e2
    show (extL S (if c ∈ S then x else x + 1) r)[0]? = some (x + if c ∈ S then 0 else 1)
    rw [extL_head]
    split
    · rw [Int.add_zero]
    · rfl
  | x, .out :: r, 0, e, k, h, h2 => by
    have e1 := Option.some.inj h
    have e2 := Option.some.inj h2
    subst e1 e2
    show (extL S (x - 1) r)[0]? = _
    rw [extL_head]
    rfl
  | x, .inn c :: r, i + 1, e, k, h, h2 => extL_step S _ r i e k (by simpa using h) h2
  | x, .out :: r, i + 1, e, k, h, h2 => extL_step S (x - 1) r i e k (by simpa using h) h2
theorem cut_one {xs : List V} (h : 0 < xs.length) : cutV xs (some 1) none = xs.drop 1 := by
  unfold cutV
  rw [HT.sIx_none, show ((1 : Int)) = ((1 : Nat) : Int) from rfl, HT.sIx_nat, Nat.min_eq_left h, List.take_of_length_le (by rw [List.length_drop]; exact Nat.le_refl _)]
section
variable {P : Program} {w : World} {K : PySem.W.Frag} {mg : Str → Option Value} {base : Heap} {Ps : List Addr}
def spOpp : Sp := fun vs H Q _ => ∃ x : Str, vs = [.str x] ∧ Q (.str (if x = "L" then "R" else "L")) H
theorem ok_opp {f : Addr} {fd : FuncData} (F : Fun K "opposite" "opposite" sOpp f fd) : FnOk P w K mg base CX0 1 f fd ["side"] spOpp := by
  refine F.ok scOpp (fun vs H Q E h => ?_) (fun cdv A outer s H vs Q E hr h => ?_)
  · obtain ⟨x, rfl, _⟩ := h
    rfl
  · obtain ⟨x, rfl, q⟩ := h
    refine ⟨_, pss_one (ps_ret (pe_ifExp (pt_cmpR op_eq (pv 0) pe_str (nomark _)) pe_str pe_str)), ?_⟩
    refine ⟨_, rfl, rfl, _, rfl, ?_⟩
    by_cases h : x = "L"
    · rw [if_pos h] at q
      rw [decide_eq_true (show V.str x = V.str "L" by rw [h])]
      exact iteT q
    · rw [if_neg h] at q
      rw [decide_eq_false (fun z => h (V.str.inj z))]
      exact iteF q
def spDepC (K : PySem.W.Frag) (Ps : List Addr) : Sp := fun vs H Q _ => ∃ (l : Addr) (as : List Addr) (es : List Ev), vs = [.ref l] ∧ LogAt K H l as es ∧ Tabs Ps H ∧
  ∀ H' p, Kp Ps H H' → H p = none → H' p = some (.lst ((depL 0 es).map V.int)) → Q (.ref p) H'
theorem ok_depC {f : Addr} {fd : FuncData} (F : Fun K "departure_counts" "departure_counts" sDepC f fd) : FnOk P w K mg base CX0 1 f fd ["log"] (spDepC K Ps) := by
  refine F.ok scDepC (fun vs H Q E h => ?_) (fun cdv A outer s H vs Q E hr h => ?_)
  · obtain ⟨l, as, es, rfl, _⟩ := h
    rfl
  · obtain ⟨l, as, es, rfl, hE, hT, q⟩ := h
    refine ⟨_, pss_cons (ps_set (i := 1) scDepC.nd rfl (.inl rfl) (pe_lst (pa_cons pe_int pa_nil)))
      (pss_cons (ps_for PassesOwn.never rfl (pi_list (pv 0)) (pg_name (i := 2) scDepC.nd rfl (.inl rfl))
        (pss_one (ps_expr (pe_bm PySem.F.plainAttrs_list PySem.F.slot_list_append PySem.F.type_list_append mt_append (pv 1) (pa_cons (pe_op op_add (pe_ix ix_list (pv 1) (pe_un un_neg pe_int) (fun _ _ => rfl)) (pe_ifExp (pt_cmpR op_eq (pe_ix ix_tup (pv 2) pe_int (fun _ _ => rfl)) pe_str (nomark _)) pe_int pe_int)) pa_nil)))))
      (pss_one (ps_ret (pv 1)))), ?_⟩
    refine ⟨by show 1 ≤ sizeLine; decide, fun o ho => ?_⟩
    have k2 : Kp Ps H (L2.upd H o (.lst [V.int 0])) := Kp.new hT ho
    have hlen := Paired.length hE.evs
    refine ⟨.ref l, rfl, l, rfl, ⟨_, (hE.kp k2 hT).at_⟩, for_list (K := K) (a := l) (xs := as.map V.ref) (fun i σ H' => ∃ v2 : Option V, σ = [some (.ref l), some (.ref o), v2] ∧ Kp Ps H H' ∧ i ≤ es.length ∧ H' o = some (.lst (((depL 0 es).take (i + 1)).map V.int))) ?_ ?_ ?_ ?_⟩
    · refine ⟨none, rfl, k2, Nat.zero_le _, ?_⟩
      rw [upd_same, List.take_add_one, depL_head]
      rfl
    · rintro i σ H' _ ⟨_, _, kp, _⟩
      exact (hE.kp kp hT).at_
    · rintro i y σ H' hi ⟨v2, rfl, kp, hie, ho'⟩
      have hlt : i < es.length := by
        have h1 := (List.getElem?_eq_some_iff.mp hi).1
        rw [List.length_map] at h1
        omega
      have hev : es[i]? = some es[i] := List.getElem?_eq_getElem hlt
      obtain ⟨b, hb, hbt⟩ := pair_at (hE.kp kp hT).evs i _ hev
      have hy : y = .ref b := by
        rw [List.getElem?_map, hb] at hi
        exact (Option.some.inj hi).symm
      subst hy
      have hz : i < (depL 0 es).length := by rw [depL_len]; omega
      have few2 := hE.few
      have hk : (depL 0 es)[i]? = some (depL 0 es)[i] := List.getElem?_eq_getElem hz
      have hlast : ((depL 0 es).take (i + 1)).map V.int = ((depL 0 es).take i).map V.int ++ [V.int (depL 0 es)[i]] := by
        rw [List.take_add_one, hk, List.map_append]
        rfl
      have hstep := depL_step _ es i _ _ hev hk
      have fin : ∀ d : Int, d = (es[i]).dd → L2.upd H' o (.lst (((depL 0 es).take (i + 1)).map V.int ++ [V.int ((depL 0 es)[i] + d)])) o = some (.lst (((depL 0 es).take (i + 1 + 1)).map V.int)) := fun d e => by
        rw [upd_same, List.take_add_one (i := i + 1), hstep, List.map_append, e]
        rfl
      have room : (((depL 0 es).take (i + 1)).map V.int).length < sizeLine := by
        rw [List.length_map, List.length_take]
        exact Nat.lt_of_le_of_lt (Nat.min_le_left _ _) (small1000 (by omega))
      have lastAt : atI (((depL 0 es).take (i + 1)).map V.int) (-1) = some (V.int (depL 0 es)[i]) := by
        rw [hlast]
        exact atI_last _ _
      cases hE2 : es[i] with
      | inn c =>
        rw [hE2] at hbt
        refine ⟨.ref o, rfl, .inl ⟨rfl, _, .inl (.inl ho')⟩, .ref o, rfl, 1, rfl, o, _, -1, _, rfl, rfl, .inl (.inl ho'), lastAt, .ref b, rfl, b, _, 0, .str "in", rfl, rfl, hbt, atI_nat (j := 0) rfl, rfl, _, rfl, ?_⟩
        rw [decide_eq_false (fun z => ne_io (V.str.inj z))]
        refine iteF ⟨_, _, rfl, rfl, o, _, _, rfl, rfl, ho', room, ?_⟩
        exact ⟨some (.ref b), rfl, kp.upd hT ho, hlt, fin 0 (by rw [hE2]; rfl)⟩
      | out =>
        rw [hE2] at hbt
        refine ⟨.ref o, rfl, .inl ⟨rfl, _, .inl (.inl ho')⟩, .ref o, rfl, 1, rfl, o, _, -1, _, rfl, rfl, .inl (.inl ho'), lastAt, .ref b, rfl, b, _, 0, .str "out", rfl, rfl, hbt, atI_nat (j := 0) rfl, rfl, _, rfl, ?_⟩
        rw [decide_eq_true (rfl : V.str "out" = V.str "out")]
        refine iteT ⟨_, _, rfl, rfl, o, _, _, rfl, rfl, ho', room, ?_⟩
        exact ⟨some (.ref b), rfl, kp.upd hT ho, hlt, fin 1 (by rw [hE2]; rfl)⟩
    · rintro σ H' ⟨v2, rfl, kp, hie, ho'⟩
      refine ⟨.ref o, rfl, q H' o kp ho ?_⟩
      rw [ho', List.length_map, hlen, List.take_of_length_le (by rw [depL_len]; exact Nat.le_refl _)]
def spFirstNeg (K : PySem.W.Frag) (Ps : List Addr) : Sp := fun vs H Q _ => ∃ (l : Addr) (xs : List Int), vs = [.ref l] ∧ SqL K H l (xs.map V.int) ∧ Tabs Ps H ∧
  ∀ H', Kp Ps H H' → Q (match fneg xs with | none => .non | some i => .int (i : Nat)) H'
theorem ok_firstNeg {f : Addr} {fd : FuncData} (F : Fun K "first_negative" "first_negative" sFirstNeg f fd) (B3 : Bn mg) : FnOk P w K mg base CX0 1 f fd ["counts"] (spFirstNeg K Ps) := by
  refine F.ok scFirstNeg (fun vs H Q E h => ?_) (fun cdv A outer s H vs Q E hr h => ?_)
  · obtain ⟨l, xs, rfl, _⟩ := h
    rfl
  · obtain ⟨l, xs, rfl, hS, hT, q⟩ := h
    refine ⟨_, pss_cons (ps_for PassesOwn.never rfl (pi_enumA true (by rfl) B3.enm (pa_cons (pv 0) pa_nil)) (pg_tup rfl (pgs_cons (pg_name (i := 1) scFirstNeg.nd rfl (.inl rfl)) (pgs_cons (pg_name (i := 2) scFirstNeg.nd rfl (.inl rfl)) pgs_nil)))
        (pss_one (ps_if (pt_cmpR op_lt (pv 2) pe_int (nomark _)) (pss_one (ps_ret (pv 1))) pss_nil)))
      (pss_one (ps_ret pe_non)), ?_⟩
    refine ⟨.ref l, rfl, l, xs.map V.int, rfl, hS, for_it (walk_enumA (K := K) (b := true) (k0 := 0) (a := l) (xs := xs.map V.int)) (fun i σ H' => ∃ v1 v2 : Option V, σ = [some (.ref l), v1, v2] ∧ Kp Ps H H' ∧ ∀ j, j < i → ∀ y, xs[j]? = some y → ¬ y < 0) ?_ ?_ ?_ ?_⟩
    · exact ⟨none, none, rfl, Kp.refl hT, fun j hj => absurd hj (Nat.not_lt_zero j)⟩
    · rintro i σ H' _ ⟨_, _, _, kp, _⟩
      exact kp.seqL hT hS
    · rintro i x σ H1 H2 hi ⟨v1, v2, rfl, kp, hno⟩ ⟨T, y1, y2, rfl, hTn, rfl, e1, e2⟩
      obtain rfl := Option.some.inj e1
      have hlt : i < xs.length := by
        rw [List.length_map] at hi
        exact hi
      have hk : xs[i]? = some xs[i] := List.getElem?_eq_getElem hlt
      have e2 : (xs.map V.int)[i]? = some y2 := e2
      rw [List.getElem?_map, hk] at e2
      obtain rfl := Option.some.inj e2
      have hT0 : H T = none := kp.free hT hTn
      have kp1 : Kp Ps H (L2.upd H1 T (.tup [.int (0 + (i : Nat)), .int xs[i]])) := kp.upd hT hT0
      refine ⟨T, _, rfl, .inl (.inl upd_same), rfl, _, _, rfl, _, _, rfl, rfl, ?_⟩
      refine ⟨_, rfl, _, _, rfl, rfl, _, rfl, ite2 (fun h => ?_) (fun h => ?_)⟩
      · have h : xs[i] < 0 := of_decide_eq_true h
        have hf : fneg xs = some i := by
          unfold fneg
          rw [List.findIdx?_eq_some_iff_getElem]
          refine ⟨hlt, decide_eq_true h, fun j hj => ?_⟩
          have := hno j hj _ (List.getElem?_eq_getElem (by omega))
          simpa using this
        have := q _ kp1
        rw [hf, Int.zero_add] at this
        refine ⟨_, rfl, ?_⟩
        show Q (.int (0 + (i : Nat))) _
        rw [Int.zero_add]
        exact this
      · have h : ¬ xs[i] < 0 := fun z => h (decide_eq_true z)
        refine ⟨_, _, rfl, kp1, fun j hj y hy => ?_⟩
        by_cases e : j = i
        · rw [e, hk] at hy
          obtain rfl := Option.some.inj hy
          exact h
        · exact hno j (by omega) y hy
    · rintro σ H' ⟨v1, v2, rfl, kp, hno⟩
      have hf : fneg xs = none := by
        unfold fneg
        rw [List.findIdx?_eq_none_iff]
        intro y hy
        obtain ⟨j, hj, rfl⟩ := List.mem_iff_getElem.mp hy
        have := hno j (by rw [List.length_map]; exact hj) _ (List.getElem?_eq_getElem hj)
        simpa using this
      have := q H' kp
      rw [hf] at this
      exact this
end
end Ln


set_option Elab.async false
set_option linter.all false
set_option maxRecDepth 100000
set_option maxHeartbeats 4000000
namespace Ln
open PySem PySem.Spec PyProof.Rows L2 GxR
theorem filt_take (xs S : List Str) (i : Nat) (c : Str) (h : xs[i]? = some c) : (xs.take (i + 1)).filter (fun c => decide (c ∈ S)) = (xs.take i).filter (fun c => decide (c ∈ S)) ++ if c ∈ S then [c] else [] := by
  rw [List.take_add_one, h, List.filter_append]
  congr 1
  show List.filter _ [c] = _
  by_cases q : c ∈ S
  · rw [if_pos q, List.filter_cons_of_pos (by simpa using q)]
    rfl
  · rw [if_neg q, List.filter_cons_of_neg (by simpa using q)]
    rfl
section
variable {P : Program} {w : World} {K : PySem.W.Frag} {mg : Str → Option Value} {base : Heap} {Ps : List Addr}
def spExtras (K : PySem.W.Frag) (Ps : List Addr) : Sp := fun vs H Q _ => ∃ (a l f : Addr) (xs : List Str) (as : List Addr) (es : List Ev) (S : List Str), vs = [.ref a, .ref l, .ref f] ∧ LaneAt K H a xs ∧ laneB xs = true ∧ LogAt K H l as es ∧ logB xs xs.length es = true ∧ SqT K H f (S.map V.str) ∧ Tabs Ps H ∧
  ∀ H' p, Kp Ps H H' → H p = none → H' p = some (.lst ((ext0 xs S es).map V.int)) → Q (.ref p) H'
theorem ok_extras {f fZ : Addr} {fd fdZ : FuncData} (F : Fun K "extras" "extras" sExtras f fd) (B : Bi mg)
    (GZ : FnOk P w K mg base CX0 8 fZ fdZ ["start", "log"] (spSizes K Ps)) (mgZ : mg "sizes" = some (.ref fZ)) (kZ : PySem.W.keepIn K (.ref fZ) = true) (bZ : Binds K fdZ ["start", "log"] []) : FnOk P w K mg base CX0 9 f fd ["start", "log", "cars"] (spExtras K Ps) := by
  refine F.ok scExtras (fun vs H Q E h => ?_) (fun cdv A outer s H vs Q E hr h => ?_)
  · obtain ⟨a, l, f, xs, as, es, S, rfl, _⟩ := h
    rfl
  · obtain ⟨a, l, f, xs, as, es, S, rfl, hL, hB, hE, hB2, hF, hT, q⟩ := h
    refine ⟨_, pss_cons (ps_set (i := 3) scExtras.nd rfl (.inl rfl) (pe_callB call_len_seq (by rfl) B.len PySem.boot_len (pa_cons
          (pe_lc (own := [("car", 8)]) (g := gName 8) (by rfl) scExtras.nd (pi_tup (pv 0)) (blkOk_by (own := [("car", 8)]) (N := ["start", "log", "cars", "stay", "present", "found", "event", "count", "car"]) (sc := defScope sExtras) (by decide +kernel))
            (fun _ _ _ _ _ => pg_name (i := 8) scExtras.nd rfl (Or.inl rfl)) (fun _ _ _ _ _ => pts_one (pt_cmpR (r := rIn K false) op_in_seq (pv 8) (pv 2) (by rfl))) (fun _ _ _ _ _ => pv 8)) pa_nil)))
      (pss_cons (ps_set (i := 4) scExtras.nd rfl (.inl rfl) (pe_call GZ hr (by rfl) mgZ kZ bZ .nil pass0 (pa_cons (pv 0) (pa_cons (pv 1) pa_nil))))
      (pss_cons (ps_set (i := 5) scExtras.nd rfl (.inl rfl) (pe_lst (pa_cons (pe_op op_sub (pe_ix ix_list (pv 4) pe_int (fun _ _ => rfl)) (pv 3)) pa_nil)))
      (pss_cons (ps_for PassesOwn.never rfl (pi_zip (by rfl) B.zip (pa_cons (pv 1) (pa_cons (pe_slice sl_list (pv 4) (po_some pe_int) po_none) pa_nil)))
          (pg_tup rfl (pgs_cons (pg_name (i := 6) scExtras.nd rfl (.inl rfl)) (pgs_cons (pg_name (i := 7) scExtras.nd rfl (.inl rfl)) pgs_nil)))
        (pss_cons (ps_if (PW.pt (pw_and (pt_cmpR op_eq (pe_ix ix_tup (pv 6) pe_int (fun _ _ => rfl)) pe_str (nomark _)) (pw_and1 (pt_cmpR op_in_seq (pe_ix ix_tup (pv 6) pe_int (fun _ _ => rfl)) (pv 2) (by rfl)))))
            (pss_one (ps_aug (i := 3) scExtras.nd rfl (.inl rfl) pe_int ip_add)) pss_nil)
        (pss_one (ps_expr (pe_bm PySem.F.plainAttrs_list PySem.F.slot_list_append PySem.F.type_list_append mt_append (pv 5) (pa_cons (pe_op op_sub (pv 7) (pv 3)) pa_nil))))))
      (pss_one (ps_ret (pv 5)))))), ?_⟩
    have few1 := hL.few
    have few2 := hE.few
    have hlen := Paired.length hE.evs
    -- stay
    refine ⟨.ref a, rfl, a, rfl, ⟨_, hL.at_⟩, fun D hD => ?_⟩
    refine lc_tup (K := K) (a := a) (xs := xs.map V.str) (fun i H' => Kp Ps H H' ∧ H' D = some (.lst (((xs.take i).filter fun c => decide (c ∈ S)).map V.str))) ?_ ?_ ?_ ?_
    · exact ⟨Kp.new hT hD, upd_same⟩
    · rintro i H' _ ⟨kp, _⟩
      exact (hL.kp kp hT).at_
    · rintro i y H' hi ⟨kp, hD'⟩
      have hlt : i < xs.length := by
        have h1 := (List.getElem?_eq_some_iff.mp hi).1
        rw [List.length_map] at h1
        omega
      have hc : xs[i]? = some xs[i] := List.getElem?_eq_getElem hlt
      rw [List.getElem?_map, hc] at hi
      obtain rfl := Option.some.inj hi
      have hft := filt_take xs S i _ hc
      refine ⟨rfl, _, rfl, .ref f, rfl, f, _, rfl, .inr (kp.seqT hT hF), rfl, flat_strs S, _, rfl, ?_⟩
      show if inV (.str xs[i]) (S.map V.str) = true then _ else _
      rw [inV_strs]
      by_cases hin : xs[i] ∈ S
      · rw [decide_eq_true hin]
        rw [if_pos hin] at hft
        refine iteT ⟨_, rfl, _, hD', ?_, kp.upd hT hD, ?_⟩
        · rw [List.length_map]
          have := List.length_filter_le (fun c => decide (c ∈ S)) (xs.take i)
          rw [List.length_take] at this
          exact small1000 (by omega)
        · rw [upd_same, hft, List.map_append]
          rfl
      · rw [decide_eq_false hin]
        rw [if_neg hin, List.append_nil] at hft
        refine iteF ⟨kp, ?_⟩
        rw [hft]
        exact hD'
    rintro H1 ⟨k1, hD1⟩
    rw [List.length_map, List.take_length] at hD1
    refine ⟨D, _, rfl, .inl (.inl (.inl hD1)), ?_⟩
    have hst : ((((xs.filter fun c => decide (c ∈ S)).map V.str).length : Nat) : Int) = stayN xs S := by rw [List.length_map]; rfl
    rw [hst]
    -- present
    refine ⟨.ref a, rfl, .ref l, rfl, a, l, xs, as, es, rfl, hL.kp k1 hT, hB, hE.kp k1 hT, hB2, k1.tab, fun H2 u k2' hu1 hu2 => ?_⟩
    have k2 := k1.trans k2'
    have hu0 : H u = none := k1.free hT hu1
    have hU : SqL K H2 u ((szs xs.length es).map V.int) := SqL.of hu2
    have hz0 : atI ((szs xs.length es).map V.int) 0 = some (V.int xs.length) := atI_nat (j := 0) (by rw [List.getElem?_map, szs_head]; rfl)
    refine ⟨.ref u, rfl, u, _, 0, _, rfl, rfl, hU, hz0, _, rfl, _, _, rfl, rfl, by show 1 ≤ sizeLine; decide, fun o ho => ?_⟩
    have ho0 : H o = none := k2.free hT ho
    have nou : u ≠ o := ne_of_none hu2 ho
    have k3 : Kp Ps H (L2.upd H2 o (.lst [V.int ((xs.length : Int) - stayN xs S)])) := k2.upd hT ho0
    have hu3 : (L2.upd H2 o (.lst [V.int ((xs.length : Int) - stayN xs S)])) u = some (.lst ((szs xs.length es).map V.int)) := by rw [upd_ne nou]; exact hu2
    refine ⟨.ref l, rfl, .ref u, rfl, 1, rfl, u, _, rfl, SqL.of hu3, fun c hc => ?_⟩
    have hc0 : H c = none := k3.free hT hc
    have nuc : u ≠ c := ne_of_none hu3 hc
    have noc : o ≠ c := fun z => by
      rw [← z, upd_same] at hc
      cases hc
    have k4 := k3.upd (o := .lst (cutV ((szs xs.length es).map V.int) (some 1) none)) hT hc0
    have hcut : cutV ((szs xs.length es).map V.int) (some 1) none = ((szs xs.length es).drop 1).map V.int := by
      rw [cut_one (by rw [List.length_map, szs_len]; omega), List.map_drop]
    rw [hcut] at k4 ⊢
    refine ⟨l, c, as.map V.ref, ((szs xs.length es).drop 1).map V.int, rfl, (hE.kp k4 hT).at_, SqL.of upd_same, RZ.for_zipL (K := K) (a := l) (b := c) (xs := as.map V.ref) (ys := ((szs xs.length es).drop 1).map V.int) (by rw [List.length_map, List.length_map, List.length_drop, szs_len]; omega)
      (fun i σ H' => ∃ (v6 v7 : Option V) (st : Int), σ = [some (.ref a), some (.ref l), some (.ref f), some (.int st), some (.ref u), some (.ref o), v6, v7, none] ∧ Kp Ps H H' ∧ i ≤ es.length ∧ H' c = some (.lst (((szs xs.length es).drop 1).map V.int)) ∧
        H' o = some (.lst (((ext0 xs S es).take (i + 1)).map V.int)) ∧ ∃ k, (szs xs.length es)[i]? = some k ∧ (ext0 xs S es)[i]? = some (k - st)) ?_ ?_ ?_ ?_⟩
    · refine ⟨none, none, _, rfl, k4, Nat.zero_le _, upd_same, ?_, xs.length, szs_head _ _, extL_head _ _ _⟩
      rw [upd_ne noc, upd_same, List.take_add_one, extL_head]
      rfl
    · rintro i σ H' ⟨_, _, _, _, kp, _, hc', _⟩
      exact ⟨(hE.kp kp hT).at_, SqL.of hc'⟩
    · rintro i y z T σ H' hi hsi ⟨v6, v7, st, rfl, kp, hie, hc', ho', k, hk, hx⟩ hTn
      have hlt : i < es.length := by
        have h1 := (List.getElem?_eq_some_iff.mp hi).1
        rw [List.length_map] at h1
        omega
      have hev : es[i]? = some es[i] := List.getElem?_eq_getElem hlt
      have hT0 : H T = none := kp.free hT hTn
      have kp1 : Kp Ps H (L2.upd H' T (.tup [y, z])) := kp.upd hT hT0
      have nTo : o ≠ T := ne_of_none ho' hTn
      have nTc : c ≠ T := ne_of_none hc' hTn
      obtain ⟨b, hb, hbt⟩ := pair_at (hE.kp kp1 hT).evs i _ hev
      have hy : y = .ref b := by
        rw [List.getElem?_map, hb] at hi
        exact (Option.some.inj hi).symm
      subst hy
      have hstep := szs_step _ es i _ _ hev hk
      have hz : z = .int (k + (es[i]).dn) := by
        rw [List.getElem?_map, List.getElem?_drop, show 1 + i = i + 1 by omega, hstep] at hsi
        exact (Option.some.inj hsi).symm
      subst hz
      have hxstep := extL_step S _ es i _ _ hev hx
      have ho1 : (L2.upd H' T (.tup [.ref b, .int (k + (es[i]).dn)])) o = some (.lst (((ext0 xs S es).take (i + 1)).map V.int)) := by rw [upd_ne nTo]; exact ho'
      have hc1 : (L2.upd H' T (.tup [.ref b, .int (k + (es[i]).dn)])) c = some (.lst (((szs xs.length es).drop 1).map V.int)) := by rw [upd_ne nTc]; exact hc'
      have room : (((ext0 xs S es).take (i + 1)).map V.int).length < sizeLine := by
        rw [List.length_map, List.length_take]
        exact Nat.lt_of_le_of_lt (Nat.min_le_left _ _) (small1000 (by omega))
      have fin : ∀ (st' : Int) (v6 v7 : Option V), (k + (es[i]).dn) - st' = (k - st) + (es[i]).de S →
          ∃ (v6' v7' : Option V) (st2 : Int), [some (V.ref a), some (.ref l), some (.ref f), some (.int st'), some (.ref u), some (.ref o), v6, v7, none] = [some (.ref a), some (.ref l), some (.ref f), some (.int st2), some (.ref u), some (.ref o), v6', v7', none] ∧
            Kp Ps H (L2.upd (L2.upd H' T (.tup [.ref b, .int (k + (es[i]).dn)])) o (.lst (((ext0 xs S es).take (i + 1)).map V.int ++ [V.int ((k + (es[i]).dn) - st')]))) ∧ i + 1 ≤ es.length ∧
            (L2.upd (L2.upd H' T (.tup [.ref b, .int (k + (es[i]).dn)])) o (.lst (((ext0 xs S es).take (i + 1)).map V.int ++ [V.int ((k + (es[i]).dn) - st')]))) c = some (.lst (((szs xs.length es).drop 1).map V.int)) ∧
            (L2.upd (L2.upd H' T (.tup [.ref b, .int (k + (es[i]).dn)])) o (.lst (((ext0 xs S es).take (i + 1)).map V.int ++ [V.int ((k + (es[i]).dn) - st')]))) o = some (.lst (((ext0 xs S es).take (i + 1 + 1)).map V.int)) ∧ ∃ k', (szs xs.length es)[i + 1]? = some k' ∧ (ext0 xs S es)[i + 1]? = some (k' - st2) := fun st' v6 v7 e => by
        refine ⟨v6, v7, st', rfl, kp1.upd hT ho0, hlt, ?_, ?_, _, hstep, ?_⟩
        · rw [upd_ne noc.symm]
          exact hc1
        · rw [upd_same, List.take_add_one (i := i + 1), hxstep, List.map_append, e]
          rfl
        · rw [hxstep, e]
      refine ⟨T, _, rfl, .inl (.inl upd_same), rfl, _, _, rfl, _, _, rfl, rfl, ?_⟩
      cases hE2 : es[i] with
      | inn d =>
        rw [hE2] at hbt fin kp1 ho1
        have hd1 : (Ev.inn d).dn = 1 := rfl
        refine ⟨.ref b, rfl, b, _, 0, .str "in", rfl, rfl, hbt, atI_nat (j := 0) rfl, rfl, _, rfl, ?_⟩
        rw [decide_eq_true (rfl : V.str "in" = V.str "in")]
        refine iteT ⟨.ref b, rfl, b, _, 1, .str d, rfl, rfl, hbt, atI_nat (j := 1) rfl, .ref f, rfl, f, _, rfl, .inr (kp1.seqT hT hF), rfl, flat_strs S, _, rfl, ?_⟩
        show if inV (.str d) (S.map V.str) = true then _ else _
        rw [inV_strs]
        by_cases hin : d ∈ S
        · rw [decide_eq_true hin]
          refine iteT ⟨_, rfl, _, _, rfl, rfl, ?_⟩
          refine ⟨.ref o, rfl, .inl ⟨rfl, _, .inl (.inl ho1)⟩, _, rfl, _, rfl, _, _, rfl, rfl, o, _, _, rfl, rfl, ho1, room, ?_⟩
          refine fin (st + 1) _ _ ?_
          show k + 1 - (st + 1) = (k - st) + if d ∈ S then 0 else 1
          rw [if_pos hin]
          omega
        · rw [decide_eq_false hin]
          refine iteF ?_
          refine ⟨.ref o, rfl, .inl ⟨rfl, _, .inl (.inl ho1)⟩, _, rfl, _, rfl, _, _, rfl, rfl, o, _, _, rfl, rfl, ho1, room, ?_⟩
          refine fin st _ _ ?_
          show k + 1 - st = (k - st) + if d ∈ S then 0 else 1
          rw [if_neg hin]
          omega
      | out =>
        rw [hE2] at hbt fin kp1 ho1
        refine ⟨.ref b, rfl, b, _, 0, .str "out", rfl, rfl, hbt, atI_nat (j := 0) rfl, rfl, _, rfl, ?_⟩
        rw [decide_eq_false (fun z => ne_oi (V.str.inj z))]
        refine iteF (iteF ?_)
        refine ⟨.ref o, rfl, .inl ⟨rfl, _, .inl (.inl ho1)⟩, _, rfl, _, rfl, _, _, rfl, rfl, o, _, _, rfl, rfl, ho1, room, ?_⟩
        refine fin st _ _ ?_
        show k + -1 - st = (k - st) + -1
        omega
    · rintro σ H' ⟨v6, v7, st, rfl, kp, hie, hc', ho', _⟩
      refine ⟨.ref o, rfl, q H' o kp ho0 ?_⟩
      rw [ho', List.length_map, hlen, List.take_of_length_le (by rw [extL_len]; exact Nat.le_refl _)]
end
end Ln


set_option Elab.async false
set_option linter.all false
set_option maxRecDepth 100000
set_option maxHeartbeats 2000000
namespace Ln.GC
open PySem PySem.Spec PyProof.Rows L2 GxR
theorem isCell_kept {h h' : Heap} {c : Addr} {v : Option Value} (z : h.IsCell c v) (k : ∀ b o, h.get? b = some o → h'.get? b = some o) : h'.IsCell c v := by
  obtain ⟨o, ho, hd⟩ := z
  exact ⟨o, k c o ho, hd⟩
/-- the context of a generator expression's own frame -/
def genCx (X : Cx) (cenv : Env) (A' : Around) (N : List Str) (fp : List Addr) (s4 : Shared) (H4 : Hp) (pn : List (Addr × Obj)) : Cx where
  prog := X.prog
  w := X.w
  K := X.K
  mg := X.mg
  base := X.base
  A := A'
  N := N
  s_0 := s4
  H_0 := H4
  env := cenv
  outer := X.stack
  stack := cenv :: X.stack
  ex := fp
  fn := fun _ => false
  calm := true
  pn := pn
  xe := fun _ _ => False

structure GSc (scope sc : Scope) (x : Str) (ys : List Str) : Prop where
  kind : scope.kind = .function
  co : scope.isCoroutine = false
  cell : ∀ y ∈ scope.names, y.2 ≠ .cell
  free : ∀ y ∈ scope.names, y.2 = .free → sc.names.lookup y.1 = some .cell ∨ sc.names.lookup y.1 = some .free
  cap : ∀ y ∈ ys, scope.names.lookup y = some .free
  nd : (x :: ys).Nodup
  dot : scope.names.lookup (".0" : Str) = some NameKind.local
  loc : scope.names.lookup x = some .local

def YA (Y : Cx) (τ : L2.St) (Q : VK) : Protocol := fun _ _ v s kap =>
  ∃ (b : Bool) (H : Hp), v = .bool b ∧ Inv Y [] (none :: τ) H s ∧ if b = true then ∀ s', s'.heap = s.heap → s'.os = s.os → AllBare s'.gens → kap (.send .none) s' else Q (.bl false) H
def RA (Y : Cx) (τ : L2.St) (Q : VK) : Nat → Shared → Shared → Prop := fun _ _ s => ∃ H, Inv Y [] (none :: τ) H s ∧ Q (.bl true) H
def RestA (Y : Cx) (τ : L2.St) (fp : List Addr) (tn : Nat → Heap → Prop) (W : Nat → Nat → Hp → Prop) (n i : Nat) (s : Shared) : Prop :=
  ∃ m H, m < n ∧ Inv Y [] (none :: τ) H s ∧ tn i s.heap ∧ (∀ b ∈ fp, H b = none) ∧ W i m H
/-- what is asked of each turn -/
def TurnA (J : It) (te : TE) (τ : L2.St) (W : Nat → Nat → Hp → Prop) (Q : VK) : Prop := ∀ i m H, W i m H →
  (J.stop i H ∧ Q (.bl true) H) ∨ (J.go i H ∧ ∀ v H', J.yld i H v H' → te (some v :: τ) H' fun y H3 => ∃ b, y = .bl b ∧ if b = true then ∃ m', m' < m ∧ W (i + 1) m' H3 else Q (.bl false) H3)
theorem inv_none {Y : Cx} {τ : L2.St} {v : Option V} {pins : List (Addr × Obj)} {H : Hp} {s : Shared} (I : Inv Y pins (v :: τ) H s) : Inv Y pins (none :: τ) H s :=
  I.weak rfl fun i u e => by
    match i, e with
    | 0, e => cases e
    | i + 1, e => exact e
section
variable {X : Cx} {elt iter : Expr} {x : Str} {px pos : Pos} {scope : Scope} {it : Addr} {fp : List Addr} {tn : Nat → Heap → Prop} {J : It} {te : TE} {W : Nat → Nat → Hp → Prop} {Q : VK} {cenv : Env} {s4 : Shared} {H4 : Hp} {pn : List (Addr × Obj)} {A2 : Around} {ys : List Str} {sc : Scope} {τ : L2.St}
theorem seg_all (hsc : GSc scope sc x ys) (hcs : cenv.scope = scope)
    (hE : PE (genCx X cenv (A2.deeper cenv) (x :: ys) fp s4 H4 pn) elt te) (T : Turn X.prog X.w X.K (.Name x px) J fp it tn)
    (hst : ∀ H : Hp, (∀ b ∈ fp, H b = none) → ∀ b ∈ fp, FpOk (genCx X cenv (A2.deeper cenv) (x :: ys) fp s4 H4 pn) [] H b) (turn : TurnA J te τ W Q) :
    ∀ (n i : Nat) (s₀ s : Shared), RestA (genCx X cenv (A2.deeper cenv) (x :: ys) fp s4 H4 pn) τ fp tn W n i s →
      Seg (model X.prog X.w) A2 (fun n s₀ r s₁ => r = .ok .next ∧ RA (genCx X cenv (A2.deeper cenv) (x :: ys) fp s4 H4 pn) τ Q n s₀ s₁) (YA (genCx X cenv (A2.deeper cenv) (x :: ys) fp s4 H4 pn) τ Q) n s₀
        (.compLoop (.GeneratorExp elt [⟨.Name x px, iter, [], 0⟩] scope pos) 0 (.ref it) .none cenv)
        ((model X.prog X.w).den (.compLoop (.GeneratorExp elt [⟨.Name x px, iter, [], 0⟩] scope pos) 0 (.ref it) .none cenv)) [] s := by
  intro n
  induction n with
  | zero =>
    intro i s₀ s ⟨m, _, hm, _⟩
    exact absurd hm (Nat.not_lt_zero m)
  | succ n ih =>
    intro i s₀ s ⟨m, H, hm, I, st, fr, w⟩
    have ov : A2.over (.compLoop (.GeneratorExp elt [⟨.Name x px, iter, [], 0⟩] scope pos) 0 (.ref it) .none cenv) [] = A2.deeper cenv := over_comp
    show Seg _ A2 _ _ _ s₀ _ ((compTurn (.GeneratorExp elt [⟨.Name x px, iter, [], 0⟩] scope pos) 0 (.ref it) .none cenv).onRaise (leaving cenv)) [] s
    rw [compTurn_gen, Sem.onRaise_eq_wrap]
    refine seg_bind_wrap (wpAny_standAt (seg_bind_wrap ?_))
    rw [ov]
    rcases turn i m H w with ⟨stop, q⟩ | ⟨go, step⟩
    · refine thn (T.done (genCx X cenv (A2.deeper cenv) (x :: ys) fp s4 H4 pn) rfl rfl rfl rfl i [] s (none :: τ) H _ I (hst H fr) st stop) fun r s1 h1 => ?_
      obtain ⟨rfl, I1⟩ := h1
      exact seg_end (.ok .next) ⟨rfl, H, I1, q⟩
    · refine thn (T.item (genCx X cenv (A2.deeper cenv) (x :: ys) fp s4 H4 pn) rfl rfl rfl rfl i [] s (none :: τ) H _ I (hst H fr) st go) fun r s1 h1 => ?_
      obtain ⟨u, rfl, h1⟩ := h1
      refine seg_bind_wrap ?_
      rw [ov]
      refine thn h1 fun _ s2 h2 => ?_
      obtain ⟨v, H2, I2, r2, y2, st2, fr2⟩ := h2
      have I2' := I2.pinned (hst H2 fr2) (T.obj _ _ st2)
      refine seg_bind_wrap ?_
      rw [ov]
      have hpg : PG (genCx X cenv (A2.deeper cenv) (x :: ys) fp s4 H4 pn) (.Name x px) (gName 0) := pg_name (X := genCx X cenv (A2.deeper cenv) (x :: ys) fp s4 H4 pn) hsc.nd rfl (.inl (by show cenv.scope.names.lookup x = _; rw [hcs]; exact hsc.loc)) (.inr (by show cenv.scope.names.lookup x = _; rw [hcs]; exact hsc.loc))
      refine wpAny_mono (hpg.run _ s2 (none :: τ) H2 v u (fun σ' H' => σ' = (some v :: τ) ∧ H' = H2) I2' r2 ⟨rfl, rfl⟩) (fun _ s3 h3 => ?_) fun _ _ z => False.elim z
      obtain ⟨σ3, H3, I3, e3, e4⟩ := h3
      subst e3
      have e4 := e4.symm
      subst e4
      refine seg_bind_wrap ?_
      refine wpAny_of_eq (a := true) (by simp only [List.forIn_nil]) ?_
      simp only [if_true]
      have hy : ∀ v, yieldOut cenv v = yieldValue v := fun v => by simp only [yieldOut, hcs, hsc.co, Bool.false_eq_true, if_false]
      simp only [hy]
      rw [Sem.bind_eq_wrap', Sem.bind_eq_wrap', Sem.wrap_wrap, Sem.wrap_wrap]
      refine seg_wrap ?_
      rw [ov]
      refine wpAny_mono (hE.run _ s3 (some v :: τ) H2 _ I3 (step v H2 y2)) (fun y s5 h5 => ?_) fun _ _ z => False.elim z
      obtain ⟨v5, H5, I5, r5, b, rfl, hb⟩ := h5
      obtain rfl : y = Value.bool b := r5
      have I6 := inv_none I5
      have fr5 : ∀ b ∈ fp, H5 b = none := fun c hc => by
        obtain ⟨o, e, d⟩ := T.obj _ _ st2 c hc
        exact (I5.pin (c, o) (List.mem_append_right _ (List.mem_append_right _ (mem_pinsAt hc e)))).2.1
      have st5 : tn (i + 1) s5.heap := T.keep _ _ _ st2 fun c hc o e => (I5.pin (c, o) (List.mem_append_right _ (List.mem_append_right _ (mem_pinsAt hc e)))).1
      refine seg_at (seg_yield rfl rfl rfl ⟨b, H5, rfl, I6.unpinned, ?_⟩)
      cases b with
      | false => exact hb
      | true =>
        obtain ⟨m', hm', w'⟩ := hb
        intro s6 hh ho hbare
        refine seg_again rfl (ih (i + 1) s6 s6 ⟨m', H5, by omega, inv_same I6.unpinned hh ho hbare, by rw [hh]; exact st5, fr5, w'⟩)
end

section
variable {X : Cx} {elt iter : Expr} {x : Str} {px pos : Pos} {scope : Scope} {it : Addr} {fp : List Addr} {tn : Nat → Heap → Prop} {J : It} {te : TE} {W : Nat → Nat → Hp → Prop} {Q : VK} {cenv : Env} {s4 : Shared} {H4 : Hp} {pn : List (Addr × Obj)} {A2 : Around} {ys : List Str} {sc : Scope} {τ : L2.St}
theorem seg_all0 (hsc : GSc scope sc x ys) (hcs : cenv.scope = scope)
    (hE : PE (genCx X cenv (A2.deeper cenv) (x :: ys) fp s4 H4 pn) elt te) (T : Turn X.prog X.w X.K (.Name x px) J fp it tn)
    (hst : ∀ H : Hp, (∀ b ∈ fp, H b = none) → ∀ b ∈ fp, FpOk (genCx X cenv (A2.deeper cenv) (x :: ys) fp s4 H4 pn) [] H b) (turn : TurnA J te τ W Q)
    (n : Nat) (s₀ s : Shared) (h : RestA (genCx X cenv (A2.deeper cenv) (x :: ys) fp s4 H4 pn) τ fp tn W n 0 s) :
      Seg (model X.prog X.w) A2 (fun n s₀ r s₁ => r = .ok .next ∧ RA (genCx X cenv (A2.deeper cenv) (x :: ys) fp s4 H4 pn) τ Q n s₀ s₁) (YA (genCx X cenv (A2.deeper cenv) (x :: ys) fp s4 H4 pn) τ Q) n s₀
        (.compStart (.GeneratorExp elt [⟨.Name x px, iter, [], 0⟩] scope pos) 0 (.ref it) .none cenv)
        ((model X.prog X.w).den (.compStart (.GeneratorExp elt [⟨.Name x px, iter, [], 0⟩] scope pos) 0 (.ref it) .none cenv)) [] s := by
  have hl := seg_all (iter := iter) (pos := pos) hsc hcs hE T hst turn n 0 s₀ s h
  obtain ⟨m, H, _, I, st, _⟩ := h
  show Seg _ A2 _ _ _ s₀ _ ((compStart (.GeneratorExp elt [⟨.Name x px, iter, [], 0⟩] scope pos) 0 (.ref it) .none cenv).onRaise (leaving cenv)) [] s
  unfold compStart
  rw [Sem.onRaise_eq_wrap]
  show Seg _ A2 _ _ _ s₀ _ (Sem.wrap _ _ _ _ (ask >>= _)) [] s
  refine seg_bind_wrap (wpAny_askSetting ?_)
  split
  · exact seg_again rfl hl
  · first
      | exact seg_bind_wrap (wpAny_rule (seg_bind_wrap (wpAny_standAt (seg_bind_wrap (T.self _ 0 s _ _ st (seg_again rfl hl))))))
      | (refine seg_bind_wrap (wpAny_rule ?_)
         show Seg _ A2 _ _ _ s₀ _ (Sem.wrap _ _ _ _ (standAt iter.pos >>= _)) [] s
         exact seg_bind_wrap (wpAny_standAt (seg_bind_wrap (T.self _ 0 s _ _ st (seg_again rfl hl)))))

theorem loop_all {Y : Cx} {τ : L2.St} {ag : Addr} {go : Obj} {g : Nat} {A : Around} {R : Result → Shared → Prop} (hpn : (ag, go) ∈ Y.pn) (hgo : ∀ h : Heap, h.get? ag = some go → h.IsGen ag g) (hh : A.handled = none) (hd : A.depth < recursionLimit)
    (hR : ∀ (b : Bool) (H : Hp) (s : Shared), Inv Y [] (none :: τ) H s → Q (.bl b) H → R (.ok (.ret (.bool b))) s) :
    ∀ (n : Nat) (s : Shared), s.heap.IsGen ag g → s.heap.NoLimit →
      (∃ gs, s.gens[g]? = some gs ∧ gs.Goes (model Y.prog Y.w) A.in1.in1 (fun n s₀ r s₁ => r = .ok .next ∧ RA Y τ Q n s₀ s₁) (YA Y τ Q) n (.send .none) (s.setGen g .running)) →
      codeAny (model Y.prog Y.w) A (.builtin "all.loop" ⟨[.ref ag], []⟩) R s := by
  have ends : ∀ (n : Nat) (s s₁ : Shared), RA Y τ Q n (s.setGen g .running) s₁ → ∀ h', (∀ b o, s₁.heap.get? b = some o → h'.get? b = some o) → R (.ok (.ret (.bool true))) { s₁.setGen g .finished with heap := h' } := by
    intro n s s₁ ⟨H, I, q⟩ h' hk
    refine hR true H _ ?_ q
    exact I.call' (ch := []) rfl (Un.kept hk) (I.hok.kept hk) (bare_set I.bare rfl) fun b z => by simp at z
  intro n
  induction n with
  | zero =>
    intro s hg hl ⟨gs, hgs, hgo'⟩
    refine codeAny_builtin F.entry_all_loop ?_
    rw [Around.under_plainId F.plain_all_loop _]
    show wpAny _ A.in1 (pyNext (.ref ag) >>= fun r => _) _ _ s
    refine wpAny_bind (wpAny_pyNext_genexpQ (A := A.in1) (P := RA Y τ Q) hh hl hd hg hgs hgo' (fun v s₁ gs' hbare hv => ?_) fun s₁ hp h' hk => ?_)
    · obtain ⟨b, H, rfl, I, hb⟩ := hv
      refine wpAny_bind (wpAny_holding (wpAny_truthy_bool ?_))
      refine wpAny_bind (wpAny_letGo ?_)
      cases b with
      | true => exact False.elim (hb s₁ rfl rfl I.bare)
      | false =>
        simp only [Bool.false_eq_true, if_false]
        exact wpAny_bind (wpAny_rule (wpAny_pure (hR false H _ (inv_same I rfl rfl (bare_set I.bare hbare)) hb)))
    · exact wpAny_bind (wpAny_rule (wpAny_pure (ends _ _ _ hp h' hk)))
  | succ n ih =>
    intro s hg hl ⟨gs, hgs, hgo'⟩
    have hgl : g < s.gens.size := (Array.getElem?_eq_some_iff.mp hgs).1
    refine codeAny_builtin F.entry_all_loop ?_
    rw [Around.under_plainId F.plain_all_loop _]
    show wpAny _ A.in1 (pyNext (.ref ag) >>= fun r => _) _ _ s
    refine wpAny_bind (GenW.wpAny_gsz (n := g + 1) hgl (wpAny_pyNext_genexpQ (A := A.in1) (P := RA Y τ Q) hh hl hd hg hgs hgo' (fun v s₁ gs' hbare hv => ?_) fun s₁ hp h' hk => ?_))
    · intro hsz
      obtain ⟨b, H, rfl, I, hb⟩ := hv
      refine wpAny_bind (wpAny_holding (wpAny_truthy_bool ?_))
      refine wpAny_bind (wpAny_letGo ?_)
      have sz : (s₁.setGen g gs').gens.size = s₁.gens.size := by simp [Shared.setGen]
      have hsz1 : g < s₁.gens.size := by
        have : g + 1 ≤ (s₁.setGen g gs').gens.size := hsz
        omega
      cases b with
      | true =>
        simp only [if_true]
        refine wpAny_pure ⟨plainId_quiet F.plain_all_loop _, ih _ (hgo _ ?_) I.nolimit ⟨gs', ?_, ?_⟩⟩
        · exact (I.pin (ag, go) (List.mem_append_left _ hpn)).1
        · show (s₁.gens.setIfInBounds g gs')[g]? = some gs'
          simp [hsz1]
        · exact hb _ rfl rfl (bare_set (s := s₁.setGen g gs') (bare_set I.bare hbare) rfl)
      | false =>
        simp only [Bool.false_eq_true, if_false]
        exact wpAny_bind (wpAny_rule (wpAny_pure (hR false H _ (inv_same I rfl rfl (bare_set I.bare hbare)) hb)))
    · intro _
      exact wpAny_bind (wpAny_rule (wpAny_pure (ends _ _ _ hp h' hk)))
end

def capt (σ : L2.St) (is : List Nat) : L2.St := is.map fun i => (σ[i]?).join
def tAllG (P : Addr) (wi : TI) (te : TE) (is : List Nat) : TE := fun σ H Q => wi σ H fun J H1 => TabG H1 P ∧ ∃ W : Nat → Nat → Hp → Prop, (∀ H2, Tabbed P H1 H2 → ∃ m, W 0 m H2) ∧ TurnA J te (capt σ is) W Q
section
variable {X : Cx}
/-- all(elt for x in iter): elt anything that raises nothing -/
theorem pe_allG {c P : Addr} {elt iter : Expr} {x : Str} {px p pos gpos : Pos} {scope : Scope} {wi : TI} {te : TE} {k : Nat} {ys : List Str} (is : List Nat)
    (hr : Room (k + 1) X.A) (hc : X.calm = true) (hg : Gl X "all") (hm : X.mg "all" = none) (TB : TabB X.base X.mg c P) (hcode : X.env.code = .ref c) (S : GSc scope X.env.scope x ys) (hix : ∀ (j : Nat) (y : Str) (i : Nat), ys[j]? = some y → is[j]? = some i → X.N[i]? = some y) (hil : is.length = ys.length) (hi : PI X (.Name x px) iter wi)
    (hE : ∀ (C : Addr) (code : Value) (bi : Addr) (A' : Around) (fp : List Addr) (s4 : Shared) (H4 : Hp) (pn : List (Addr × Obj)), Room k A' → PE (genCx X (genEnv scope (cloFrom X.env.cells scope.names []) C code bi X.env) A' (x :: ys) fp s4 H4 pn) elt te)
    (hs : ∀ v, genFold iter X.env v = pure v := by intro _; rfl)
    (he : starEach [.GeneratorExp elt [⟨.Name x px, iter, [], 0⟩] scope gpos] X.env = (false, eval (.GeneratorExp elt [⟨.Name x px, iter, [], 0⟩] scope gpos) X.env) :: starEach [] X.env := by rfl) :
    PE X (.Call (.Name "all" p) [.GeneratorExp elt [⟨.Name x px, iter, [], 0⟩] scope gpos] [] pos) (tAllG P wi te is) := by
  refine ⟨fun pins s σ H Q I h => ?_⟩
  refine wpAny_Call_Name_kw (ld_blt I hg hm boot_all ?_)
  refine PyProof.Rows.callWith_builtin1 ?_ he (by rfl)
  rw [he]
  show wpAny (model X.prog X.w) X.A (spliced ((false, eval (.GeneratorExp elt [⟨.Name x px, iter, [], 0⟩] scope gpos) X.env) :: backTo pos (starEach [] X.env))) _ _ s
  have hfree : ∀ y ∈ scope.names, y.2 = .free → ∃ c, X.env.cells.lookup y.1 = some c := fun y hy e => by
    rcases S.free y hy e with k | k
    · exact I.ok.has _ (.inl k)
    · exact I.ok.has _ (.inr k)
  have hclo : closureFor scope X.env = pure (cloFrom X.env.cells scope.names []) := closure_ok hfree
  generalize hcl : cloFrom X.env.cells scope.names [] = clo at *
  have cm : ∀ {y c}, clo.lookup y = some c → X.env.cells.lookup y = some c := fun {y c} e => by
    have hm := PySem.mem_of_lookup e
    rw [← hcl] at hm
    rcases cloFrom_mem hm with hm | ⟨h1, rfl⟩
    · cases hm
    · obtain ⟨c, hc⟩ := hfree _ h1 rfl
      rw [hc]
      rfl
  have look : ∀ {y}, (y, NameKind.free) ∈ scope.names → ∃ c, clo.lookup y = some c ∧ X.env.cells.lookup y = some c := fun {y} hy => by
    obtain ⟨c', e'⟩ := mem_lookup (cloFrom_has (cells := X.env.cells) (acc := []) hy)
    rw [hcl] at e'
    exact ⟨c', e', cm e'⟩
  refine Calls.spliced_cons (wpAny_GeneratorExp_make S.co hclo S.cell S.dot S.kind hr.depth ?_ hs)
  refine thn (hi.run pins s σ H _ I h) fun xv s1 h1 => thn h1 fun itv s2 h2 => ?_
  obtain ⟨it, fp, tn, J, H2, rfl, I2, T, st2, f2, ⟨ps, hP, htr⟩, W, hW, turn⟩ := h2
  refine ⟨I2.nolimit, ?_⟩
  have hPs : s2.heap.get? P = some { cls := .none, data := .fields ps } := I2.hok P _ hP
  have cd : PySem.W.CodeHd s2.heap c P := TB.code.keeps I2.bk
  have fpP : ∀ b ∈ fp, b ≠ P := fun b hb e => by
    have := (f2 b hb).1
    rw [e, hP] at this
    cases this
  have cont : ∀ (code : Value) (h3 : Heap) (tk : Nat) (H3 : Hp), Inv X pins σ H3 { s2 with heap := h3, toks := tk } → Tabbed P H2 H3 → tn 0 h3 →
      wpAny (model X.prog X.w) X.A (builtinsFor X.env.globals X.env.builtins) (fun bi s4 =>
        ∀ h', h'.Ns s4.heap.objs.size (fun y => if y = ".0" then some (.ref it) else none) → Heap.SameBut s4.heap.objs.size (s4.heap.push { cls := .type "frame", data := .dict #[] }) h' →
          wpAny (model X.prog X.w) X.A (call (.builtin "all") [.ref h'.objs.size]) (EP X pins σ Q) X.xe { s4 with
            gens := s4.gens.push (.fresh (.compStart (.GeneratorExp elt [⟨.Name x px, iter, [], 0⟩] scope gpos) 0 (.ref it) .none (genEnv scope clo s4.heap.objs.size code bi X.env))),
            toks := s4.toks + 1 + 1 + 1,
            heap := h'.push { cls := .type "generator", data := .fields #[.int s4.gens.size 0, .str "<genexpr>" (s4.toks + 1), .str (X.env.qual ++ "<genexpr>") (s4.toks + 1 + 1)] } }) X.xe { s2 with heap := h3, toks := tk } := by
    intro code h3 tk H3 I3 hT st3
    have fr3 : ∀ b ∈ fp, H3 b = none := fun b hb => (hT.2 b (fpP b hb)).trans (f2 b hb).1
    obtain ⟨bm, ob, e1, e2, e3, e4, e5, e6, e7, e8⟩ := TB.bm
    refine wpAny_builtinsFor (m := X.mg) (by rw [I3.ok.glob]; exact I3.mod.glob.keeps I3.bk) e1 e2 (I3.bk _ _ e5) e6 e7 e8 ?_
    intro h' hn' hs'
    generalize hs3 : ({ s2 with heap := h3, toks := tk } : Shared) = s3 at *
    generalize hgo : ({ cls := .type "generator", data := .fields #[.int s3.gens.size 0, .str "<genexpr>" (s3.toks + 1), .str (X.env.qual ++ "<genexpr>") (s3.toks + 1 + 1)] } : Obj) = go
    have hgd : ∀ h : Heap, ∀ a, h.get? a = some go → h.IsGen a s3.gens.size := fun h a e => ⟨go, _, _, e, by rw [← hgo], by rw [← hgo], by rw [← hgo]⟩
    have hgp : ∀ h : Heap, (h.push go).get? h.objs.size = some go := fun h => Heap.get?_push_size _ (by rw [← hgo]; rfl)
    have hgc : ∀ v, go.data ≠ .cell v := fun v e => by rw [← hgo] at e; cases e
    have hsz : h'.objs.size = s3.heap.objs.size + 1 := by rw [hs'.1, Heap.size_push]
    have keep' : ∀ b o, s3.heap.get? b = some o → h'.get? b = some o := fun b o e => hs'.extBut b o (Nat.ne_of_lt (Heap.lt_size e)) (Heap.get?_push_of_some _ e)
    have keepG : ∀ b o, s3.heap.get? b = some o → (h'.push go).get? b = some o := fun b o e => Heap.get?_push_of_some _ (keep' b o e)
    have st3' : tn 0 s3.heap := by rw [← hs3]; exact st3
    have nstk : ∀ b, s3.heap.objs.size ≤ b → b ∉ frs X.stack := fun b hb z => by
      rcases List.mem_cons.mp (I3.stkSub b z) with e | e
      · have := I3.lt
        rw [e] at hb
        exact Nat.lt_irrefl _ (Nat.lt_of_lt_of_le this hb)
      · exact I3.nofs hb e
    have fpl : ∀ b ∈ fp, b < s3.heap.objs.size := fun b hb => by
      obtain ⟨o, e, _⟩ := T.obj _ _ st3' b hb
      exact Heap.lt_size e
    have fpS : ∀ b ∈ fp, b ∉ frs X.stack := fun b hb z => by
      obtain ⟨_, g1, g2, _⟩ := f2 b hb
      rcases List.mem_cons.mp (I3.stkSub b z) with e | e
      · exact g1 e
      · exact g2 e
    have hH3 : ∀ b, s3.heap.objs.size ≤ b → H3 b = none := fun b hb => I3.hok.fresh hb
    refine call_function_tree F.kind_all F.plain_all F.entry_all (F.args_all1 _) ?_
    unfold Builtin.«all»
    refine wpAny_bind (m := oneArg "all" _) (wpAny_pure ?_)
    refine wpAny_bind (wpAny_pyIter_gen (g := s3.gens.size) (hgd _ _ (hgp h')) ?_)
    refine wpAny_pure ⟨plainId_quiet F.plain_all_loop _, ?_⟩
    have hroomk : Room k (X.A.in1.in1.deeper (genEnv scope clo s3.heap.objs.size code builtinsNs X.env)) :=
      ⟨hr.hd, by have := hr.dp; show X.A.depth + 1 + 3 * k + 5 < _; omega, by have := hr.un; show X.A.units + 1 + 1 + 3 + 16 * k + 200 < _; omega⟩
    have kin : ∀ {y : Str}, (scope.names.lookup y = some .cell ∨ scope.names.lookup y = some .free) → ∃ c, clo.lookup y = some c := fun {y} e => by
      rcases e with e | e
      · exact absurd rfl (S.cell _ (PySem.mem_of_lookup e))
      · obtain ⟨c, h1, _⟩ := look (PySem.mem_of_lookup e)
        exact ⟨c, h1⟩
    have IY : Inv (genCx X (genEnv scope clo s3.heap.objs.size code builtinsNs X.env) (X.A.in1.in1.deeper (genEnv scope clo s3.heap.objs.size code builtinsNs X.env)) (x :: ys) fp s3 H3 [(h'.objs.size, go)]) [] (none :: capt σ is) H3
        { s3 with gens := (s3.gens.push (.fresh (.compStart (.GeneratorExp elt [⟨.Name x px, iter, [], 0⟩] scope gpos) 0 (.ref it) .none (genEnv scope clo s3.heap.objs.size code builtinsNs X.env)))), toks := s3.toks + 1 + 1 + 1, heap := h'.push go } := by
      refine ⟨⟨I3.ok.mod, S.kind, I3.ok.glob, rfl, Nat.le_refl _, fun y z c' e e' => I3.ok.inj y z c' (cm e) (cm e'), fun y e => kin e, fun y c' e _ => (nomatch e), fun _ => hr.hd, Around.frames_deeper I3.ok.frames, .inr ⟨rfl, rfl⟩,
        fun b hb => ⟨Nat.ne_of_lt (fpl b hb), fun y c' e => (f2 b hb).2.2.2.2.1 y c' (cm e)⟩, I3.bs, Nat.le_trans I3.ok.bsz I3.sz, fun b o e hb => ?_, fpS, I3.stack, I3.stkFree⟩,
        rfl, I3.bare.push rfl, Un.kept keepG, ⟨_, hn'.keeps fun b o e => Heap.get?_push_of_some _ e, fun i y v e1 e2 _ => ?_⟩, fun y c' e => (I3.cell y c' (cm e)).elim fun v z => ⟨v, isCell_kept z keepG⟩, hH3 _ (Nat.le_refl _), fun y c' e => I3.freeC y c' (cm e), fun p hp => ?_, I3.hok.kept keepG, by show (capt σ is).length + 1 = ys.length + 1; rw [capt, List.length_map, hil]⟩
      · obtain ⟨_, _, _, g3, _⟩ := f2 b hb
        rcases g3 with g3 | g3
        · exact I2.ok.noex b o e g3
        · have h1 := Heap.lt_size e
          have h2 := I2.ok.bsz
          exact Nat.lt_irrefl _ (Nat.lt_of_lt_of_le h1 (Nat.le_trans h2 g3))
      · match i, e2 with
        | 0, e2 => cases e2
        | i + 1, e2 =>
          have e1 : ys[i]? = some y := e1
          have e2 : (capt σ is)[i]? = some (some v) := e2
          unfold capt at e2
          rw [List.getElem?_map] at e2
          cases hk : is[i]? with
          | none => rw [hk] at e2; cases e2
          | some k =>
            rw [hk] at e2
            have e2 : (σ[k]?).join = some v := Option.some.inj e2
            have e3 : σ[k]? = some (some v) := by
              cases hσ : σ[k]? with
              | none => rw [hσ] at e2; cases e2
              | some o => rw [hσ] at e2; exact congrArg some e2
            have hfr := PySem.mem_of_lookup (S.cap y (List.mem_of_getElem? e1))
            have hX := S.free _ hfr rfl
            obtain ⟨m, _, hl⟩ := I3.loc
            obtain ⟨u, ru, lk⟩ := hl k y v (hix i y k e1 hk) e3 (.inr hX)
            refine ⟨u, ru, ?_⟩
            obtain ⟨c, hc1, hc2⟩ := look hfr
            rcases lk with ⟨l1, _⟩ | ⟨_, c', hc', z⟩
            · have l1 : X.env.scope.names.lookup y = some .local := l1
              rcases hX with hX | hX
              · rw [hX] at l1; cases l1
              · rw [hX] at l1; cases l1
            · rw [hc2] at hc'
              cases hc'
              exact .inr ⟨.inr (S.cap y (List.mem_of_getElem? e1)), c, hc1, isCell_kept z keepG⟩
      · have hp2 : p ∈ ([(h'.objs.size, go)] ++ [] : List (Addr × Obj)) := hp
        have hp' : p = (h'.objs.size, go) := by simpa using hp2
        subst hp'
        exact ⟨hgp h', hH3 _ (by rw [hsz]; exact Nat.le_succ _), by show h'.objs.size ≠ s3.heap.objs.size; rw [hsz]; exact Nat.succ_ne_self _, nstk _ (by rw [hsz]; exact Nat.le_succ _), hgc⟩
    have hst : ∀ H' : Hp, (∀ b ∈ fp, H' b = none) → ∀ b ∈ fp, FpOk (genCx X (genEnv scope clo s3.heap.objs.size code builtinsNs X.env) (X.A.in1.in1.deeper (genEnv scope clo s3.heap.objs.size code builtinsNs X.env)) (x :: ys) fp s3 H3 [(h'.objs.size, go)]) [] H' b :=
      fun H' hf b hb => ⟨hf b hb, Nat.ne_of_lt (fpl b hb), fpS b hb, .inl hb, fun y c' e => (f2 b hb).2.2.2.2.1 y c' (cm e), fun p hp => by
        have hp2 : p ∈ ([(h'.objs.size, go)] ++ [] : List (Addr × Obj)) := hp
        have hp' : p = (h'.objs.size, go) := by simpa using hp2
        subst hp'
        show h'.objs.size ≠ b
        rw [hsz]
        exact Nat.ne_of_gt (Nat.lt_succ_of_lt (fpl b hb))⟩
    obtain ⟨m, w0⟩ := hW H3 hT
    refine loop_all (τ := capt σ is) (Q := Q) (go := go) (g := s3.gens.size) (A := X.A) (Y := genCx X (genEnv scope clo s3.heap.objs.size code builtinsNs X.env) (X.A.in1.in1.deeper (genEnv scope clo s3.heap.objs.size code builtinsNs X.env)) (x :: ys) fp s3 H3 [(h'.objs.size, go)])
      (by exact List.mem_singleton.mpr rfl) (fun h e => hgd h _ e) hr.hd hr.depth (fun b H' s' I' q' => ?_) (m + 1) _ (hgd _ _ (hgp h')) IY.nolimit ⟨_, Array.getElem?_push_size .., rfl, ?_⟩
    · refine ⟨.bl b, H', ?_, rfl, q'⟩
      refine I3.call' (ch := fp) I'.os I'.base I'.hok I'.bare fun b hb => ?_
      obtain ⟨_, g1, _, g3, g4, g5⟩ := f2 b hb
      exact ⟨g3, g1, g4, g5⟩
    · exact seg_all0 S rfl (hE _ _ _ _ _ _ _ _ hroomk) T hst turn (m + 1) _ _ ⟨m, H3, Nat.lt_succ_self m, inv_same IY rfl rfl (bare_set IY.bare rfl), T.keep _ _ _ st3' fun b _ o e => keepG b o e, fr3, w0⟩
  cases hf : codeAmong gpos ps.toList with
  | none =>
    refine wpAny_genexprCodeX hcode (cd.code hPs htr) (cd.tab hPs) hf fun c' h' tk hx hge hlt hco' _ htab' _ => ?_
    obtain ⟨o1, vs, f1, tf, fl, tg, inF, tx, tt, op, _, _, _, _, _, _, _, _, _, htr', _⟩ := hco'
    have J3 := inv_tab (h' := h') (g' := s2.gens) (d' := s2.drawn) (t' := tk) I2 hP (fun b u hb e => hx b u hb e) htab'.2 I2.bare
    exact thn (cont _ h' tk _ J3 ⟨⟨_, upd_same, htr'⟩, fun b hb => upd_ne hb⟩ (T.keep _ _ _ st2 fun b hb o e => hx b o (fpP b hb) e)) fun bi s4 h4 h'' a1 a2 => Calls.spliced_nil (h4 h'' a1 a2)
  | some cv =>
    refine wpAny_genexprCode_hit hcode (cd.code hPs htr) hf ?_
    exact thn (cont cv s2.heap s2.toks H2 I2 ⟨⟨ps, hP, htr⟩, fun _ _ => rfl⟩ st2) fun bi s4 h4 h'' a1 a2 => Calls.spliced_nil (h4 h'' a1 a2)
end
end Ln.GC


set_option Elab.async false
set_option linter.all false
set_option maxRecDepth 100000
set_option maxHeartbeats 2000000
namespace Ln
open PySem PySem.Spec PyProof.Rows L2 GxR
/-- the lane and the departed cars after one event -/
def stepR (p : List Str × List Str) (x : Ev × Str) : List Str × List Str :=
  match x.1 with
  | .inn c => (if x.2 = "L" then c :: p.1 else p.1 ++ [c], p.2)
  | .out => if x.2 = "L" then (p.1.drop 1, p.2 ++ p.1.take 1) else (p.1.dropLast, p.2 ++ p.1.drop (p.1.length - 1))
/-- behind the first i events -/
def atR (xs : List Str) (es : List Ev) (sd : List Str) (i : Nat) : List Str × List Str := ((es.zip sd).take i).foldl stepR (xs, [])
theorem atR_succ {xs : List Str} {es : List Ev} {sd : List Str} {i : Nat} {e : Ev} {x : Str} (h1 : es[i]? = some e) (h2 : sd[i]? = some x) : atR xs es sd (i + 1) = stepR (atR xs es sd i) (e, x) := by
  unfold atR
  have : (es.zip sd)[i]? = some (e, x) := by rw [List.getElem?_zip_eq_some]; exact ⟨h1, h2⟩
  rw [List.take_add_one, this, List.foldl_append]
  rfl
/-- how many are present, and that the rest of the log goes on -/
def Live (xs : List Str) (es : List Ev) (i m : Nat) : Prop := ∃ us, logB us m (es.drop i) = true
theorem live_step {xs : List Str} {es : List Ev} {i m : Nat} {e : Ev} (h : Live xs es i m) (he : es[i]? = some e) : match e with
  | .inn _ => Live xs es (i + 1) (m + 1)
  | .out => 0 < m ∧ Live xs es (i + 1) (m - 1) := by
  obtain ⟨us, hl⟩ := h
  have hlt := (List.getElem?_eq_some_iff.mp he).1
  have hd : es.drop i = e :: es.drop (i + 1) := by
    rw [List.drop_eq_getElem_cons hlt, (List.getElem?_eq_some_iff.mp he).2]
  rw [hd] at hl
  cases e with
  | inn c =>
    have hl : (if carB c = true ∧ ¬ c ∈ us then logB (c :: us) (m + 1) (es.drop (i + 1)) else false) = true := hl
    by_cases q : carB c = true ∧ ¬ c ∈ us
    · rw [if_pos q] at hl
      exact ⟨_, hl⟩
    · rw [if_neg q] at hl
      cases hl
  | out =>
    have hl : (if 0 < m then logB us (m - 1) (es.drop (i + 1)) else false) = true := hl
    by_cases q : 0 < m
    · rw [if_pos q] at hl
      exact ⟨q, _, hl⟩
    · rw [if_neg q] at hl
      cases hl
theorem side_cases {x : Str} (h : sideB x = true) : x = "L" ∨ x = "R" := by
  unfold sideB at h
  rcases Bool.or_eq_true _ _ ▸ h with h | h
  · exact .inl (of_decide_eq_true h)
  · exact .inr (of_decide_eq_true h)
theorem ne_RL : ¬ (("R" : Str) = "L") := by decide +kernel
section
variable {P : Program} {w : World} {K : PySem.W.Frag} {mg : Str → Option Value} {base : Heap} {Ps : List Addr}
def spReplay (K : PySem.W.Frag) (Ps : List Addr) : Sp := fun vs H Q _ => ∃ (a l m : Addr) (xs : List Str) (as : List Addr) (es : List Ev) (sd : List Str), vs = [.ref a, .ref l, .ref m] ∧ LaneAt K H a xs ∧ laneB xs = true ∧ LogAt K H l as es ∧ logB xs xs.length es = true ∧
  SqL K H m (sd.map V.str) ∧ sd.length = es.length ∧ sd.all sideB = true ∧ Tabs Ps H ∧
  ∀ H' p t d, Kp Ps H H' → H p = none → H t = none → H d = none → H' p = some (.tup [.ref t, .ref d]) → H' t = some (.tup ((atR xs es sd es.length).1.map V.str)) → H' d = some (.lst ((atR xs es sd es.length).2.map V.str)) → Q (.ref p) H'
theorem stepR_g (x g : List Str) (e : Ev × Str) : stepR (x, g) e = ((stepR (x, []) e).1, g ++ (stepR (x, []) e).2) := by
  obtain ⟨ev, s⟩ := e
  cases ev with
  | inn c => exact Prod.ext rfl (List.append_nil g).symm
  | out =>
    show (if s = "L" then (x.drop 1, g ++ x.take 1) else (x.dropLast, g ++ x.drop (x.length - 1)) : List Str × List Str) = ((if s = "L" then (x.drop 1, [] ++ x.take 1) else (x.dropLast, [] ++ x.drop (x.length - 1)) : List Str × List Str).1, g ++ (if s = "L" then (x.drop 1, [] ++ x.take 1) else (x.dropLast, [] ++ x.drop (x.length - 1)) : List Str × List Str).2)
    split <;> rfl
end
end Ln


set_option Elab.async false
set_option linter.all false
set_option maxRecDepth 100000
set_option maxHeartbeats 2000000
namespace Ln
open PySem PySem.Spec PyProof.Rows L2 GxR
structure Bl (mg : Str → Option Value) : Prop where
  max : mg "max" = none
  min : mg "min" = none
  abs : mg "abs" = none
  rng : mg "range" = none
  rep : mg "repr" = none
/-- i ** j of great i -/
def CPowW (i j : Int) : Prop := 0 ≤ j ∧ j ≤ 10 ∧ i.natAbs < 2 ^ 1000
theorem op_powW {X : Cx} : OpR X (binaryOp .Pow) (rI CPowW fun i j => .int (i ^ j.toNat)) := opI fun i j _ _ _ _ _ hc q => by
  obtain ⟨h0, h1, h2⟩ := hc
  refine pow_int h0 ?_ q
  have hb : Builtin.Int.intBits i ≤ 1000 := by
    unfold Builtin.Int.intBits
    split
    · omega
    · have := PySem.Flt.log2_lt_of (show 0 < 1000 by decide) h2
      omega
  calc (Builtin.Int.intBits i : Int) * j ≤ 1000 * 10 := Int.mul_le_mul (by omega) h1 h0 (by decide)
    _ ≤ 2 ^ 27 := by decide
/-- a source of draws: at most n have been made -/
def SrcV (n : Nat) (l : List V) : Prop := ∃ a b c : Int, l = [.int a, .int b, .int c] ∧ 0 ≤ a ∧ 0 ≤ b ∧ b < 2 ^ 130 ∧ 0 ≤ c ∧ c ≤ n
theorem SrcV.mono {n m : Nat} {l : List V} (h : SrcV n l) (hm : n ≤ m) : SrcV m l := by
  obtain ⟨a, b, c, e, h1, h2, h3, h4, h5⟩ := h
  exact ⟨a, b, c, e, h1, h2, h3, h4, by omega⟩
theorem SrcV.len {n : Nat} {l : List V} (h : SrcV n l) : l.length = 3 := by
  obtain ⟨a, b, c, e, _⟩ := h
  rw [e]
  rfl
section
variable {P : Program} {w : World} {K : PySem.W.Frag} {mg : Str → Option Value} {base : Heap} {Ps : List Addr}
def spSource (K : PySem.W.Frag) : Sp := fun vs H Q _ => ∃ (a : Addr) (ns : List Int) (k : Nat), vs = [.ref a, .int k] ∧ SqL K H a (ns.map V.int) ∧ k ≤ 8 ∧ ∀ p l, H p = none → SrcV 0 l → Q (.ref p) (upd H p (.lst l))
def spDraw : Sp := fun vs H Q _ => ∃ (s : Addr) (l : List V) (n : Nat) (lim : Int), vs = [.ref s, .int lim] ∧ H s = some (.lst l) ∧ SrcV n l ∧ n ≤ 1000000 ∧ 1 ≤ lim ∧ lim ≤ 100000 ∧ ∀ l' r, SrcV (n + 1) l' → 0 ≤ r → r < lim → Q (.int r) (upd H s (.lst l'))
end
end Ln


set_option Elab.async false
set_option linter.all false
set_option maxRecDepth 100000
set_option maxHeartbeats 2000000
namespace Ln
open PySem PySem.Spec PyProof.Rows L2 GxR
/-- what stood stands, the source apart -/
def Ch (s : Addr) (H H' : Hp) : Prop := ∀ b o, H b = some o → b ≠ s → H' b = some o
theorem Ch.refl {s : Addr} {H : Hp} : Ch s H H := fun _ _ e _ => e
theorem Ch.trans {s : Addr} {H H1 H2 : Hp} (a : Ch s H H1) (b : Ch s H1 H2) : Ch s H H2 := fun c o e n => b c o (a c o e n) n
theorem Ch.src {s : Addr} {H : Hp} {o : HO} : Ch s H (upd H s o) := fun b q e n => by rw [upd_ne n]; exact e
theorem Ch.new {s p : Addr} {H H1 : Hp} {o : HO} (k : Ch s H H1) (hp : H p = none) : Ch s H (upd H1 p o) := fun b q e n => by rw [upd_ne (ne_of_none e hp)]; exact k b q e n
theorem Ch.seqL {K : PySem.W.Frag} {s a : Addr} {H H1 : Hp} {xs : List V} (k : Ch s H H1) (h : SqL K H a xs) (n : a ≠ s) : SqL K H1 a xs := by
  rcases h with (e | ⟨ob, e⟩) | e
  · exact .inl (.inl (k _ _ e n))
  · exact .inl (.inr ⟨ob, k _ _ e n⟩)
  · exact .inr e
theorem Ch.seqT {K : PySem.W.Frag} {s a : Addr} {H H1 : Hp} {xs l : List V} (k : Ch s H H1) (h : SqT K H a xs) (hs : H s = some (.lst l)) : SqT K H1 a xs := by
  rcases h with (e | ⟨ob, e⟩) | e
  · exact .inl (.inl (k _ _ e fun z => by rw [z, hs] at e; cases e))
  · exact .inl (.inr ⟨ob, k _ _ e fun z => by rw [z, hs] at e; cases e⟩)
  · exact .inr e
/-- a new address stays apart from the source -/
theorem Ch.free {s p : Addr} {H H1 : Hp} {l : List V} (k : Ch s H H1) (hs : H s = some (.lst l)) (hs1 : ∃ l1, H1 s = some (.lst l1)) (hp : H1 p = none) : H p = none := by
  by_cases z : p = s
  · obtain ⟨l1, e⟩ := hs1
    rw [z, e] at hp
    cases hp
  · cases q : H p with
    | none => rfl
    | some u =>
      rw [k p u q z] at hp
      cases hp
theorem Ch.tabs {s : Addr} {Ps : List Addr} {H H1 : Hp} {l : List V} (k : Ch s H H1) (hs : H s = some (.lst l)) (hT : Tabs Ps H) : Tabs Ps H1 := fun q hq => by
  obtain ⟨ps, e, t⟩ := hT q hq
  exact ⟨ps, k q _ e (fun z => by rw [z, hs] at e; cases e), t⟩
theorem erase_perm {α : Type} {l : List α} {k : Nat} {x : α} (h : l[k]? = some x) : (x :: l.eraseIdx k).Perm l := by
  obtain ⟨hk, e⟩ := List.getElem?_eq_some_iff.mp h
  have e1 : l = l.take k ++ x :: l.drop (k + 1) := by
    rw [← e, ← List.drop_eq_getElem_cons hk, List.take_append_drop]
  rw [List.eraseIdx_eq_take_drop_succ]
  conv => rhs; rw [e1]
  exact List.perm_middle.symm
theorem map_erase {α β : Type} (f : α → β) : ∀ (l : List α) (k : Nat), (l.map f).eraseIdx k = (l.eraseIdx k).map f
  | [], _ => rfl
  | _ :: _, 0 => rfl
  | x :: r, k + 1 => by
    show f x :: (r.map f).eraseIdx k = f x :: (r.eraseIdx k).map f
    rw [map_erase f r k]
abbrev rLenSeq (K : PySem.W.Frag) : List V → Hp → VK → Prop := fun xs H Q => ∃ p ys, xs = [.ref p] ∧ (SqL K H p ys ∨ SqT K H p ys) ∧ Q (.int ((ys.length : Nat) : Int)) H
section
variable {P : Program} {w : World} {K : PySem.W.Frag} {mg : Str → Option Value} {base : Heap} {Ps : List Addr}
def spMixed (K : PySem.W.Frag) : Sp := fun vs H Q _ => ∃ (s t : Addr) (l : List V) (n : Nat) (xs : List Str), vs = [.ref s, .ref t] ∧ H s = some (.lst l) ∧ SrcV n l ∧ n + xs.length ≤ 1000000 ∧ SqL K H t (xs.map V.str) ∧ t ≠ s ∧ xs.length ≤ 1000 ∧
  ∀ (H' : Hp) (p : Addr) (ys : List Str) (l' : List V), Ch s H H' → H p = none → ys.Perm xs → SrcV (n + xs.length) l' → H' s = some (.lst l') → H' p = some (.lst (ys.map V.str)) → Q (.ref p) H'
end
end Ln


set_option Elab.async false
set_option linter.all false
set_option maxRecDepth 100000
set_option maxHeartbeats 2000000
namespace Ln
open PySem PySem.Spec PyProof.Rows L2 GxR
/-- how many are present behind a log, if it can be -/
def cnt : Nat → List Ev → Option Nat
  | n, [] => some n
  | n, .inn _ :: r => cnt (n + 1) r
  | n, .out :: r => if 0 < n then cnt (n - 1) r else none
theorem cnt_snoc : ∀ (n : Nat) (es : List Ev) (e : Ev) (m : Nat), cnt n es = some m → cnt n (es ++ [e]) = cnt m [e]
  | n, [], e, m, h => by
    obtain rfl : n = m := Option.some.inj h
    rfl
  | n, .inn c :: r, e, m, h => cnt_snoc (n + 1) r e m h
  | n, .out :: r, e, m, h => by
    show (if 0 < n then cnt (n - 1) (r ++ [e]) else none) = _
    have h : (if 0 < n then cnt (n - 1) r else none) = some m := h
    by_cases q : 0 < n
    · rw [if_pos q] at h ⊢
      exact cnt_snoc (n - 1) r e m h
    · rw [if_neg q] at h
      cases h
/-- a log of new cars that counts is a log -/
theorem logB_of : ∀ (es : List Ev) (us : List Str) (n m : Nat), cnt n es = some m → (∀ c ∈ arrs es, carB c = true ∧ ¬ c ∈ us) → (arrs es).Nodup → logB us n es = true
  | [], _, _, _, _, _, _ => rfl
  | .inn c :: r, us, n, m, h, hc, hn => by
    show (if carB c = true ∧ ¬ c ∈ us then logB (c :: us) (n + 1) r else false) = true
    have hn : (c :: arrs r).Nodup := hn
    obtain ⟨h1, h2⟩ := List.nodup_cons.mp hn
    rw [if_pos (hc c List.mem_cons_self)]
    refine logB_of r (c :: us) (n + 1) m h (fun d hd => ⟨(hc d (List.mem_cons_of_mem _ hd)).1, fun z => ?_⟩) h2
    rcases List.mem_cons.mp z with z | z
    · exact h1 (z ▸ hd)
    · exact (hc d (List.mem_cons_of_mem _ hd)).2 z
  | .out :: r, us, n, m, h, hc, hn => by
    show (if 0 < n then logB us (n - 1) r else false) = true
    have h : (if 0 < n then cnt (n - 1) r else none) = some m := h
    by_cases q : 0 < n
    · rw [if_pos q] at h ⊢
      exact logB_of r us (n - 1) m h hc hn
    · rw [if_neg q] at h
      cases h
/-- the tuples stand -/
def KT (H H' : Hp) : Prop := ∀ b xs, H b = some (.tup xs) → H' b = some (.tup xs)
theorem KT.upd {H : Hp} {a : Addr} {o : HO} (h : ∀ xs, H a ≠ some (.tup xs)) : KT H (upd H a o) := fun b xs e => by
  rw [upd_ne (fun z => h xs (by rw [← z]; exact e))]
  exact e
theorem KT.trans {H H1 H2 : Hp} (a : KT H H1) (b : KT H1 H2) : KT H H2 := fun c xs e => b c xs (a c xs e)
/-- the events' own tuples -/
def EvT (H : Hp) (as : List Addr) (es : List Ev) : Prop := Paired (fun a (e : Ev) => H a = some (.tup e.vals)) as es
theorem EvT.kt {H H' : Hp} {as : List Addr} {es : List Ev} (h : EvT H as es) (k : KT H H') : EvT H' as es := Paired.imp h fun _ _ q => k _ _ q
theorem EvT.at_ {K : PySem.W.Frag} {H : Hp} {as : List Addr} {es : List Ev} (h : EvT H as es) : EvsAt K H as es := Paired.imp h fun _ _ q => SqT.of q
theorem dp_strs {K : PySem.W.Frag} {H : Hp} : ∀ xs : List Str, DpAll K H (xs.map V.str) (xs.map PyData.str)
  | [] => .nil
  | x :: r => .cons (.str x) (dp_strs r)
theorem lay_strs : ∀ xs : List Str, (∀ x ∈ xs, PyData.strOk x = true) → PyData.canLayAll0 (xs.map PyData.str) = true
  | [], _ => rfl
  | x :: r, h => by
    simp only [List.map_cons, PyData.canLayAll0, PyData.canLay0, lay_strs r fun y hy => h y (List.mem_cons_of_mem _ hy), h x List.mem_cons_self]
    rfl
theorem dep_strs : ∀ xs : List Str, PyData.depthAll (xs.map PyData.str) ≤ 1
  | [] => by simp [PyData.depthAll]
  | x :: r => by
    have := dep_strs r
    simp only [List.map_cons, PyData.depthAll, PyData.depth]
    omega
theorem shaped_strs (xs : List Str) (h : ∀ x ∈ xs, PyData.strOk x = true) : SeqAt.shaped (.list (xs.map PyData.str)) = true := by
  unfold SeqAt.shaped
  rw [Bool.and_eq_true]
  refine ⟨by rw [PyData.canLay0]; exact lay_strs xs h, decide_eq_true ?_⟩
  have := dep_strs xs
  simp only [PyData.depth]
  omega
theorem eqv_nil (xs : List Str) : PyData.eqv (.list (xs.map PyData.str)) (.list []) = xs.isEmpty := by
  cases xs with
  | nil => rfl
  | cons x r => simp [PyData.eqv, PyData.eqvAll]
theorem car_ok {x : Str} (h : carB x = true) : PyData.strOk x = true := by
  unfold carB at h
  rw [Bool.and_eq_true] at h
  have h2 := List.all_eq_true.mp h.2
  unfold PyData.strOk
  rw [← Array.all_toList, List.all_eq_true]
  intro c hc
  have := h2 c hc
  unfold lowB at this
  rw [Bool.and_eq_true] at this
  have := of_decide_eq_true this.2
  exact decide_eq_true (by omega)
theorem cnt_le : ∀ (n : Nat) (es : List Ev) (m : Nat), cnt n es = some m → m ≤ n + es.length
  | n, [], m, h => by
    obtain rfl : n = m := Option.some.inj h
    exact Nat.le_refl _
  | n, .inn c :: r, m, h => by
    have := cnt_le (n + 1) r m h
    show m ≤ n + (r.length + 1)
    omega
  | n, .out :: r, m, h => by
    have h : (if 0 < n then cnt (n - 1) r else none) = some m := h
    by_cases q : 0 < n
    · rw [if_pos q] at h
      have := cnt_le (n - 1) r m h
      show m ≤ n + (r.length + 1)
      omega
    · rw [if_neg q] at h
      cases h
section
variable {P : Program} {w : World} {K : PySem.W.Frag} {mg : Str → Option Value} {base : Heap} {Ps : List Addr}
def spHap (K : PySem.W.Frag) : Sp := fun vs H Q _ => ∃ (s t : Addr) (l : List V) (n n0 most : Nat) (zs : List Str), vs = [.ref s, .int n0, .ref t, .int most] ∧ H s = some (.lst l) ∧ SrcV n l ∧ n + 200 ≤ 1000000 ∧ most ≤ 120 ∧ n0 ≤ 400 ∧ SqL K H t (zs.map V.str) ∧ t ≠ s ∧ zs.length ≤ 400 ∧ (∀ z ∈ zs, carB z = true) ∧
  ∀ (H' : Hp) (p : Addr) (as : List Addr) (es : List Ev) (k m : Nat) (l' : List V), Ch s H H' → H p = none → (∀ a ∈ as, H a = none) → es.length ≤ most → arrs es = zs.take k → cnt n0 es = some m → SrcV (n + 122) l' → H' s = some (.lst l') → H' p = some (.lst (as.map V.ref)) → EvT H' as es → Q (.ref p) H'
end
end Ln


set_option Elab.async false
set_option linter.all false
set_option maxRecDepth 100000
set_option maxHeartbeats 4000000
namespace Ln
open PySem PySem.Spec PyProof.Rows L2 GxR
/-! ### cars, lanes and logs that are right -/
theorem logB_cars : ∀ (es : List Ev) (us : List Str) (n : Nat), logB us n es = true → ∀ c ∈ arrs es, carB c = true
  | .inn c :: r, us, n, h, d, hd => by
    have h : (if carB c = true ∧ ¬ c ∈ us then logB (c :: us) (n + 1) r else false) = true := h
    by_cases q : carB c = true ∧ ¬ c ∈ us
    · rw [if_pos q] at h
      rcases List.mem_cons.mp (show d ∈ c :: arrs r from hd) with e | e
      · rw [e]
        exact q.1
      · exact logB_cars r _ _ h d e
    · rw [if_neg q] at h
      cases h
  | .out :: r, us, n, h, d, hd => by
    have h : (if 0 < n then logB us (n - 1) r else false) = true := h
    by_cases q : 0 < n
    · rw [if_pos q] at h
      exact logB_cars r _ _ h d hd
    · rw [if_neg q] at h
      cases h
theorem mem_arrs {c : Str} : ∀ {es : List Ev}, Ev.inn c ∈ es → c ∈ arrs es
  | .inn d :: r, h => by
    rcases List.mem_cons.mp h with e | e
    · injection e with e
      rw [e]
      exact List.mem_cons_self
    · exact List.mem_cons_of_mem _ (mem_arrs e)
  | .out :: r, h => by
    rcases List.mem_cons.mp h with e | e
    · cases e
    · exact mem_arrs (es := r) e
theorem carLen {x : Str} (h : carB x = true) : x.length ≤ 4 := by
  unfold carB at h
  rw [Bool.and_eq_true, Bool.and_eq_true] at h
  exact of_decide_eq_true h.1.2
theorem car_sz {x : Str} (h : carB x = true) : x.length ≤ sizeLine := Nat.le_trans (carLen h) (by decide)
theorem carsOf {xs : List Str} (h : laneB xs = true) : ∀ x ∈ xs, carB x = true := fun x hx => by
  unfold Ln.laneB at h
  rw [Bool.and_eq_true] at h
  exact List.all_eq_true.mp h.1 x hx
theorem shapedT (xs : List Str) (h : ∀ x ∈ xs, carB x = true) : SeqAt.shaped (.tuple (xs.map PyData.str)) = true := by
  unfold SeqAt.shaped
  rw [Bool.and_eq_true]
  refine ⟨by rw [PyData.canLay0]; exact lay_strs xs fun x hx => car_ok (h x hx), decide_eq_true ?_⟩
  have := dep_strs xs
  simp only [PyData.depth]
  omega
theorem logB_sub : ∀ (es : List Ev) (us vs : List Str) (n : Nat), (∀ u ∈ vs, u ∈ us) → logB us n es = true → logB vs n es = true
  | [], _, _, _, _, _ => rfl
  | .inn c :: r, us, vs, n, hs, h => by
    have h : (if carB c = true ∧ ¬ c ∈ us then logB (c :: us) (n + 1) r else false) = true := h
    show (if carB c = true ∧ ¬ c ∈ vs then logB (c :: vs) (n + 1) r else false) = true
    by_cases q : carB c = true ∧ ¬ c ∈ us
    · rw [if_pos q] at h
      rw [if_pos ⟨q.1, fun z => q.2 (hs c z)⟩]
      refine logB_sub r (c :: us) (c :: vs) (n + 1) (fun u hu => ?_) h
      rcases List.mem_cons.mp hu with e | e
      · rw [e]
        exact List.mem_cons_self
      · exact List.mem_cons_of_mem _ (hs u e)
    · rw [if_neg q] at h
      cases h
  | .out :: r, us, vs, n, hs, h => by
    have h : (if 0 < n then logB us (n - 1) r else false) = true := h
    show (if 0 < n then logB vs (n - 1) r else false) = true
    by_cases q : 0 < n
    · rw [if_pos q] at h ⊢
      exact logB_sub r us vs (n - 1) hs h
    · rw [if_neg q] at h
      cases h
/-- no car arrives twice -/
theorem logB_nodup : ∀ (es : List Ev) (us : List Str) (n : Nat), logB us n es = true → us.Nodup → (us ++ arrs es).Nodup
  | [], us, n, _, hu => by
    show (us ++ []).Nodup
    rw [List.append_nil]
    exact hu
  | .inn c :: r, us, n, h, hu => by
    have h : (if carB c = true ∧ ¬ c ∈ us then logB (c :: us) (n + 1) r else false) = true := h
    by_cases q : carB c = true ∧ ¬ c ∈ us
    · rw [if_pos q] at h
      have ih := logB_nodup r (c :: us) (n + 1) h (List.nodup_cons.mpr ⟨q.2, hu⟩)
      exact (List.perm_middle (a := c) (l₁ := us) (l₂ := arrs r)).symm.nodup_iff.mp ih
    · rw [if_neg q] at h
      cases h
  | .out :: r, us, n, h, hu => by
    have h : (if 0 < n then logB us (n - 1) r else false) = true := h
    by_cases q : 0 < n
    · rw [if_pos q] at h
      exact logB_nodup r us (n - 1) h hu
    · rw [if_neg q] at h
      cases h
theorem laneB_nodup {xs : List Str} (h : laneB xs = true) : xs.Nodup := by
  unfold laneB at h
  rw [Bool.and_eq_true] at h
  exact of_decide_eq_true h.2
theorem laneB_rev {xs : List Str} (h : laneB xs = true) : laneB xs.reverse = true := by
  unfold laneB
  rw [Bool.and_eq_true]
  exact ⟨List.all_eq_true.mpr fun x hx => carsOf h x (List.mem_reverse.mp hx), decide_eq_true ((List.reverse_perm xs).nodup_iff.mpr (laneB_nodup h))⟩
end Ln


set_option Elab.async false
set_option linter.all false
set_option maxRecDepth 100000
set_option maxHeartbeats 4000000
namespace Ln
open PySem PySem.Spec PyProof.Rows L2 GxR
theorem scReqFin : FnScope ["start", "log", "lane"] ["start", "log", "lane"] (defScope sReqFin) := ⟨rfl, rfl, rfl, by decide +kernel, rfl, by decide +kernel, by decide +kernel⟩
theorem scHasRC : FnScope ["start", "log", "lane", "known"] ["start", "log", "lane"] (defScope sHasRC) := ⟨rfl, rfl, rfl, by decide +kernel, rfl, by decide +kernel, by decide +kernel⟩
theorem scHasBlk : FnScope ["start", "lane", "low", "high", "begin", "end"] ["start", "lane"] (defScope sHasBlk) := ⟨rfl, rfl, rfl, by decide +kernel, rfl, by decide +kernel, by decide +kernel⟩
theorem freeRC : ∀ y ∈ ([(".0", .local), ("car", .local), ("known", .free)] : List (Str × NameKind)), y.2 = .free → (defScope sHasRC).names.lookup y.1 = some .cell ∨ (defScope sHasRC).names.lookup y.1 = some .free := by decide +kernel
theorem plcs_take (xs S : List Str) (i : Nat) (c : Str) (h : xs[i]? = some c) : plcs S 0 (xs.take (i + 1)) = plcs S 0 (xs.take i) ++ if c ∈ S then [i] else [] := by
  rw [List.take_add_one, h, plcs_app]
  have hi := (List.getElem?_eq_some_iff.mp h).1
  rw [Nat.zero_add, List.length_take, Nat.min_eq_left (Nat.le_of_lt hi)]
  rfl
theorem plcs_len (S : List Str) : ∀ (xs : List Str) (i : Nat), (plcs S i xs).length ≤ xs.length
  | [], _ => Nat.le_refl _
  | c :: r, i => by
    have := plcs_len S r (i + 1)
    show (if c ∈ S then i :: plcs S (i + 1) r else plcs S (i + 1) r).length ≤ r.length + 1
    split
    · exact Nat.succ_le_succ this
    · exact Nat.le_succ_of_le this
theorem plcs_lt (S : List Str) : ∀ (xs : List Str) (i : Nat), ∀ p ∈ plcs S i xs, p < i + xs.length
  | [], _, p, h => by cases h
  | c :: r, i, p, h => by
    have ih := plcs_lt S r (i + 1)
    rw [List.length_cons]
    have h : p ∈ (if c ∈ S then i :: plcs S (i + 1) r else plcs S (i + 1) r) := h
    split at h
    · rcases List.mem_cons.mp h with e | h
      · omega
      · have := ih p h
        omega
    · have := ih p h
      omega
theorem brg_le (xs S : List Str) : (brg xs S).1 ≤ xs.length ∧ (brg xs S).2 ≤ xs.length := by
  have h := plcs_lt S xs 0
  unfold brg
  cases hp : plcs S 0 xs with
  | nil => exact ⟨Nat.zero_le _, Nat.zero_le _⟩
  | cons a r =>
    rw [hp] at h
    have h1 := h a List.mem_cons_self
    have h2 := h _ (List.getLast_mem (List.cons_ne_nil a r))
    exact ⟨by show a ≤ _; omega, by show (a :: r).getLast _ + 1 ≤ _; omega⟩
theorem eqv_strs : ∀ xs ys : List Str, PyData.eqv (.tuple (xs.map PyData.str)) (.tuple (ys.map PyData.str)) = decide (xs = ys) := by
  have key : ∀ xs ys : List Str, PyData.eqvAll (xs.map PyData.str) (ys.map PyData.str) = decide (xs = ys) := by
    intro xs
    induction xs with
    | nil =>
      intro ys
      cases ys with
      | nil => rfl
      | cons y r => rfl
    | cons x r ih =>
      intro ys
      cases ys with
      | nil => rfl
      | cons y q =>
        show ((x == y) && PyData.eqvAll (r.map PyData.str) (q.map PyData.str)) = _
        rw [ih q]
        by_cases h : x = y
        · subst h
          rw [beq_self_eq_true, Bool.true_and]
          exact decide_eq_decide.mpr ⟨fun e => by rw [e], fun e => (List.cons.inj e).2⟩
        · rw [beq_eq_false_iff_ne.mpr h, Bool.false_and]
          exact (decide_eq_false fun e => h (List.cons.inj e).1).symm
  exact key
theorem dp_str {K : PySem.W.Frag} {H : Hp} : ∀ xs : List Str, DpAll K H (xs.map V.str) (xs.map PyData.str)
  | [] => .nil
  | x :: r => .cons (.str x) (dp_str r)
theorem cutV_nat {xs : List V} {lo hi : Nat} (h1 : lo ≤ xs.length) (h2 : hi ≤ xs.length) : cutV xs (some ((lo : Nat) : Int)) (some ((hi : Nat) : Int)) = (xs.take hi).drop lo := by
  unfold cutV
  rw [HT.sIx_nat, HT.sIx_nat, Nat.min_eq_left h1, Nat.min_eq_left h2, List.drop_take]
section
variable {P : Program} {w : World} {K : PySem.W.Frag} {mg : Str → Option Value} {base : Heap} {Ps : List Addr}
def spBlockR (K : PySem.W.Frag) (Ps : List Addr) : Sp := fun vs H Q _ => ∃ (a f : Addr) (xs S : List Str), vs = [.ref a, .ref f] ∧ SqT K H a (xs.map V.str) ∧ SqT K H f (S.map V.str) ∧ xs.length ≤ 400 ∧ Tabs Ps H ∧
  ∀ H' p, Kp Ps H H' → H p = none → H' p = some (.tup [.int (brg xs S).1, .int (brg xs S).2]) → Q (.ref p) H'
theorem ok_blockR {f : Addr} {fd : FuncData} (F : Fun K "block_range" "block_range" sBlockR f fd) (B3 : Bn mg) : FnOk P w K mg base CX0 1 f fd ["start", "cars"] (spBlockR K Ps) := by
  refine F.ok scBlockR (fun vs H Q E h => ?_) (fun cdv A outer s H vs Q E hr h => ?_)
  · obtain ⟨a, f, xs, S, rfl, _⟩ := h
    rfl
  · obtain ⟨a, f, xs, S, rfl, hA, hF, few, hT, q⟩ := h
    refine ⟨_, pss_cons (ps_setLc (i := 2) (own := [("place", 3), ("car", 4)]) (g := gTup K 2 (gCons (gName 3) (gCons (gName 4) gNil))) (by rfl) scBlockR.nd rfl rfl (sw_true rfl rfl rfl (by decide +kernel)) (pi_enumA false (by rfl) B3.enm (pa_cons (pv 0) pa_nil))
          (blkOk_by (own := [("place", 3), ("car", 4)]) (N := ["start", "cars", "places", "place", "car"]) (sc := defScope sBlockR) (by decide +kernel))
          (fun _ _ _ _ _ => pg_tup rfl (pgs_cons (pg_name (i := 3) scBlockR.nd rfl (Or.inl rfl)) (pgs_cons (pg_name (i := 4) scBlockR.nd rfl (Or.inl rfl)) pgs_nil)))
          (fun _ _ _ _ _ => pts_one (pt_cmpR (r := rIn K false) op_in_seq (pv 4) (pv 1) (by rfl))) (fun _ _ _ _ _ => pv 3))
      (pss_one (ps_ret (pe_ifExp (pt_truth (pv 2) (by intro _; rfl)) (pe_tup (pa_cons (pe_ix ix_list (pv 2) pe_int (fun _ _ => rfl)) (pa_cons (pe_op op_add (pe_ix ix_list (pv 2) (pe_un un_neg pe_int) (fun _ _ => rfl)) pe_int) pa_nil)))
        (pe_tup (pa_cons pe_int (pa_cons pe_int pa_nil)))))), ?_⟩
    refine ⟨.ref a, rfl, a, xs.map V.str, rfl, hA, fun D hD => ?_⟩
    refine lc_it (walk_enumA (K := K) (b := false) (k0 := 0) (a := a) (xs := xs.map V.str)) (fun i H' => Kp Ps H H' ∧ H' D = some (.lst ((plcs S 0 (xs.take i)).map fun n => V.int (n : Nat)))) ?_ ?_ ?_ ?_
    · exact ⟨Kp.new hT hD, upd_same⟩
    · rintro i H' _ ⟨kp, _⟩
      exact kp.seqT hT hA
    · rintro i x H1 H2 hi ⟨kp, hD'⟩ ⟨T, y1, y2, rfl, hTn, rfl, e1, e2⟩
      obtain rfl := Option.some.inj e1
      have hlt : i < xs.length := by
        rw [List.length_map] at hi
        exact hi
      have hc : xs[i]? = some xs[i] := List.getElem?_eq_getElem hlt
      have e2 : (xs.map V.str)[i]? = some y2 := e2
      rw [List.getElem?_map, hc] at e2
      obtain rfl := Option.some.inj e2
      have hT0 : H T = none := kp.free hT hTn
      have kp1 : Kp Ps H (L2.upd H1 T (.tup [.int (0 + (i : Nat)), .str xs[i]])) := kp.upd hT hT0
      have nDT : D ≠ T := ne_of_none hD' hTn
      have hD1 : (L2.upd H1 T (.tup [.int (0 + (i : Nat)), .str xs[i]])) D = some (.lst ((plcs S 0 (xs.take i)).map fun n => V.int (n : Nat))) := by rw [upd_ne nDT]; exact hD'
      have hpt := plcs_take xs S i _ hc
      refine ⟨T, _, rfl, .inl (.inl upd_same), rfl, _, _, rfl, _, _, rfl, rfl, rfl, _, rfl, .ref f, rfl, f, _, rfl, .inr (kp1.seqT hT hF), rfl, flat_strs S, _, rfl, ?_⟩
      show if inV (.str xs[i]) (S.map V.str) = true then _ else _
      rw [inV_strs]
      by_cases hin : xs[i] ∈ S
      · rw [decide_eq_true hin]
        rw [if_pos hin] at hpt
        refine iteT ⟨_, rfl, _, hD1, ?_, kp1.upd hT hD, ?_⟩
        · rw [List.length_map]
          have := plcs_len S (xs.take i) 0
          rw [List.length_take] at this
          exact small1000 (by omega)
        · rw [upd_same, hpt, List.map_append]
          show _ = some (HO.lst (_ ++ [V.int ((i : Nat) : Int)]))
          rw [Int.zero_add]
      · rw [decide_eq_false hin]
        rw [if_neg hin, List.append_nil] at hpt
        refine iteF ⟨kp1, ?_⟩
        rw [hpt]
        exact hD1
    rintro H1 ⟨k1, hD1⟩
    rw [List.length_map, List.take_length] at hD1
    refine ⟨.ref D, rfl, _, .inl ⟨_, SqL.of hD1, rfl⟩, ?_⟩
    cases hp : plcs S 0 xs with
    | nil =>
      refine iteF ⟨by show 2 ≤ sizeLine; decide, fun p hpn => ?_⟩
      have hpp : H p = none := k1.free hT hpn
      refine q _ p (k1.upd hT hpp) hpp ?_
      rw [upd_same]
      unfold brg
      rw [hp]
      rfl
    | cons a0 r0 =>
      rw [hp] at hD1
      have hlast : atI ((a0 :: r0).map fun n => V.int (n : Nat)) (-1) = some (V.int ((a0 :: r0).getLast (List.cons_ne_nil a0 r0) : Nat)) := by
        have e : (a0 :: r0) = (a0 :: r0).dropLast ++ [(a0 :: r0).getLast (List.cons_ne_nil a0 r0)] := (List.dropLast_concat_getLast _).symm
        have e2 : ((a0 :: r0).map fun n => V.int (n : Nat)) = ((a0 :: r0).dropLast.map fun n => V.int (n : Nat)) ++ [V.int ((a0 :: r0).getLast (List.cons_ne_nil a0 r0) : Nat)] := by
          conv => lhs; rw [e]
          rw [List.map_append]
          rfl
        rw [e2]
        exact atI_last _ _
      refine iteT ⟨.ref D, rfl, D, _, 0, _, rfl, rfl, SqL.of hD1, atI_nat (j := 0) rfl, .ref D, rfl, 1, rfl, D, _, -1, _, rfl, rfl, SqL.of hD1, hlast, _, _, rfl, rfl, by show 2 ≤ sizeLine; decide, fun p hpn => ?_⟩
      have hpp : H p = none := k1.free hT hpn
      refine q _ p (k1.upd hT hpp) hpp ?_
      rw [upd_same]
      unfold brg
      rw [hp]
      rfl
def spReqFin (K : PySem.W.Frag) (Ps : List Addr) : Sp := fun vs H Q _ => ∃ (a l f : Addr) (xs : List Str) (as : List Addr) (es : List Ev) (F : List Str), vs = [.ref a, .ref l, .ref f] ∧ LaneAt K H a xs ∧ laneB xs = true ∧ LogAt K H l as es ∧ logB xs xs.length es = true ∧ LaneAt K H f F ∧ laneB F = true ∧ Tabs Ps H ∧ ∀ H', Kp Ps H H' → Q .non H'
theorem ok_reqFin {f fL fN : Addr} {fd fdL fdN : FuncData} (F : Fun K "require_final_lane" "require_final_lane" sReqFin f fd)
    (GL : FnOk P w K mg base CX0 7 fL fdL ["start", "log"] (spReqLog K Ps)) (mgL : mg "require_log" = some (.ref fL)) (kL : PySem.W.keepIn K (.ref fL) = true) (bL : Binds K fdL ["start", "log"] [])
    (GN : FnOk P w K mg base CX0 5 fN fdN ["value"] (spReqLane K Ps)) (mgN : mg "require_lane" = some (.ref fN)) (kN : PySem.W.keepIn K (.ref fN) = true) (bN : Binds K fdN ["value"] []) : FnOk P w K mg base CX0 8 f fd ["start", "log", "lane"] (spReqFin K Ps) := by
  refine F.ok scReqFin (fun vs H Q E h => ?_) (fun cdv A outer s H vs Q E hr h => ?_)
  · obtain ⟨a, l, f, xs, as, es, F, rfl, _⟩ := h
    rfl
  · obtain ⟨a, l, f, xs, as, es, F, rfl, hL, hB, hE, hB2, hF, hFB, hT, q⟩ := h
    refine ⟨_, pss_cons (ps_expr (pe_call GL hr (by rfl) mgL kL bL .nil pass0 (pa_cons (pv 0) (pa_cons (pv 1) pa_nil))))
      (pss_one (ps_expr (pe_call GN (hr.mono (by decide)) (by rfl) mgN kN bN .nil pass0 (pa_cons (pv 2) pa_nil)))), ?_⟩
    refine ⟨.ref a, rfl, .ref l, rfl, a, l, xs, as, es, rfl, hL, hB, hE, hB2, hT, fun H1 k1 => ?_⟩
    have hF1 := hF.kp k1 hT
    exact ⟨.ref f, rfl, f, F, rfl, hF1.at_, by have := hF1.few; omega, hF1.sz, hFB, k1.tab, fun H2 k2 => q H2 (k1.trans k2)⟩
theorem szs_last : ∀ (n : Int) (es : List Ev), ∃ r, szs n es = r ++ [endI n es]
  | n, [] => ⟨[], rfl⟩
  | n, .inn _ :: r => by
    obtain ⟨q, e⟩ := szs_last (n + 1) r
    exact ⟨n :: q, by show n :: szs (n + 1) r = _; rw [e]; rfl⟩
  | n, .out :: r => by
    obtain ⟨q, e⟩ := szs_last (n - 1) r
    exact ⟨n :: q, by show n :: szs (n - 1) r = _; rw [e]; rfl⟩
def spHasRC (K : PySem.W.Frag) (Ps : List Addr) : Sp := fun vs H Q _ => ∃ (a l f : Addr) (xs : List Str) (as : List Addr) (es : List Ev) (F : List Str), vs = [.ref a, .ref l, .ref f] ∧ LaneAt K H a xs ∧ laneB xs = true ∧ LogAt K H l as es ∧ logB xs xs.length es = true ∧ SqT K H f (F.map V.str) ∧ Tabs Ps H ∧ ∀ H', Kp Ps H H' → Q (.bl (carsOk xs es F)) H'
theorem ok_hasRC {f c P1 fZ fN : Addr} {fd fdZ fdN : FuncData} (F : FunC K "has_right_cars" "has_right_cars" sHasRC f fd c) (B : Bi mg) (TB : TabB base mg c P1) (hP : P1 ∈ Ps)
    (GN : FnOk P w K mg base CX0 8 fN fdN ["start", "log"] (spNumbers K Ps)) (mgN : mg "numbers" = some (.ref fN)) (kN : PySem.W.keepIn K (.ref fN) = true) (bN : Binds K fdN ["start", "log"] [])
    (GZ : FnOk P w K mg base CX0 8 fZ fdZ ["start", "log"] (spSizes K Ps)) (mgZ : mg "sizes" = some (.ref fZ)) (kZ : PySem.W.keepIn K (.ref fZ) = true) (bZ : Binds K fdZ ["start", "log"] []) : FnOk P w K mg base CX0 9 f fd ["start", "log", "lane"] (spHasRC K Ps) := by
  refine F.ok scHasRC (fun vs H Q E h => ?_) (fun A outer s H vs Q E hr h => ?_)
  · obtain ⟨a, l, f, xs, as, es, F, rfl, _⟩ := h
    rfl
  · obtain ⟨a, l, f, xs, as, es, F, rfl, hL, hB, hE, hB2, hF, hT, q⟩ := h
    refine ⟨_, pss_cons (ps_set (i := 3) scHasRC.nd rfl (.inr rfl) (pe_call GN hr (by rfl) mgN kN bN .nil pass0 (pa_cons (pv 0) (pa_cons (pv 1) pa_nil))))
      (pss_one (ps_ret (pe_and (pe_cmpR op_eq (pe_callB call_len_seq (by rfl) B.len PySem.boot_len (pa_cons (pv 2) pa_nil)) (pe_ix ix_list (pe_call GZ hr (by rfl) mgZ kZ bZ .nil pass0 (pa_cons (pv 0) (pa_cons (pv 1) pa_nil))) (pe_un un_neg pe_int) (fun _ _ => rfl)) (nomark _))
        (pe_one (GC.pe_allG (k := 7) (x := "car") (ys := ["known"]) [3] hr rfl (by rfl) B.all TB rfl ⟨rfl, rfl, by decide +kernel, freeRC, by decide +kernel, by decide +kernel, rfl, rfl⟩ (fun j y i h1 h2 => by
            match j, h1, h2 with
            | 0, h1, h2 =>
              obtain rfl := Option.some.inj h1
              obtain rfl := Option.some.inj h2
              rfl
            | j + 1, h1, h2 => simp at h1) rfl (pi_tup (pv 2))
          (fun _ _ _ _ _ _ _ _ hk => pe_cmpR (r := rIn K false) op_in_seq (pv 0) (pv 1) (by rfl))))))), ?_⟩
    refine ⟨.ref a, rfl, .ref l, rfl, a, l, xs, as, es, rfl, hL, hB, hE, hB2, hT, fun H1 u k1 hu hu1 => ?_⟩
    refine ⟨.ref f, rfl, f, _, rfl, .inr (k1.seqT hT hF), .ref a, rfl, .ref l, rfl, a, l, xs, as, es, rfl, hL.kp k1 hT, hB, hE.kp k1 hT, hB2, k1.tab, fun H2 z k2' hz hz2 => ?_⟩
    have k2 := k1.trans k2'
    obtain ⟨r0, hr0⟩ := szs_last xs.length es
    have hlastZ : atI ((szs xs.length es).map V.int) (-1) = some (V.int (endI xs.length es)) := by
      rw [hr0, List.map_append]
      exact atI_last _ _
    refine ⟨1, rfl, z, _, -1, _, rfl, rfl, SqL.of hz2, hlastZ, rfl, _, rfl, ?_⟩
    have e1 : decide (V.int (((F.map V.str).length : Nat) : Int) = V.int (endI xs.length es)) = decide ((F.length : Int) = endI xs.length es) := by
      rw [List.length_map]
      exact decide_eq_decide.mpr ⟨fun h => V.int.inj h, fun h => by rw [h]⟩
    rw [e1]
    by_cases hn : (F.length : Int) = endI xs.length es
    · rw [decide_eq_true hn]
      have hcar : carsOk xs es F = F.all fun c => decide (c ∈ xs ++ arrs es) := by
        unfold carsOk
        rw [decide_eq_true hn, Bool.true_and]
      have hu2 : H2 u = some (.lst ((xs ++ arrs es).map V.str)) := k2'.lst k1.tab hu1
      refine iteT ⟨.ref f, rfl, f, rfl, ⟨_, k2.seqT hT hF⟩, k2.tab P1 hP, fun i n H' => n = F.length - i ∧ Kp Ps H2 H' ∧ i ≤ F.length ∧ ∀ c ∈ F.take i, c ∈ xs ++ arrs es, fun H3 hH => ⟨F.length, by omega, Kp.tabbed k2.tab hP hH, Nat.zero_le _, fun c hc => by cases hc⟩, fun i n H' hW => ?_⟩
      obtain ⟨rfl, kp, hi, hall⟩ := hW
      have kpH := k2.trans kp
      have hS' := kpH.seqT hT hF
      by_cases hlt : i < F.length
      · have hx : (F.map V.str)[i]? = some (V.str F[i]) := by rw [List.getElem?_map, List.getElem?_eq_getElem hlt]; rfl
        refine .inr ⟨⟨_, _, hS', hx⟩, fun v H3 hy => ?_⟩
        obtain ⟨rfl, fv⟩ := hy
        obtain rfl : v = V.str F[i] := Option.some.inj ((fv _ hS').symm.trans hx)
        refine ⟨_, rfl, .ref u, rfl, u, _, rfl, .inl (SqL.of (kp.lst k2.tab hu2)), rfl, flat_strs _, _, rfl, ?_⟩
        show if (inV (.str F[i]) ((xs ++ arrs es).map V.str)) = true then _ else _
        rw [inV_strs]
        by_cases hin : F[i] ∈ xs ++ arrs es
        · rw [decide_eq_true hin]
          refine iteT ⟨_, by omega, rfl, kp, hlt, fun c hc => ?_⟩
          rw [List.take_add_one, List.getElem?_eq_getElem hlt] at hc
          rcases List.mem_append.mp hc with h | h
          · exact hall c h
          · rw [List.mem_singleton.mp h]
            exact hin
        · rw [decide_eq_false hin]
          refine iteF ?_
          have hf : carsOk xs es F = false := by
            rw [hcar]
            refine Bool.eq_false_iff.mpr fun z => hin ?_
            exact of_decide_eq_true (List.all_eq_true.mp z _ (List.getElem_mem hlt))
          have := q _ kpH
          rw [hf] at this
          exact this
      · refine .inl ⟨⟨_, hS', by rw [List.length_map]; omega⟩, ?_⟩
        have hf : carsOk xs es F = true := by
          rw [hcar]
          refine List.all_eq_true.mpr fun c hc => decide_eq_true (hall c ?_)
          rw [List.take_of_length_le (by omega)]
          exact hc
        have := q H' kpH
        rw [hf] at this
        exact this
    · rw [decide_eq_false hn]
      refine iteF ?_
      have hf : carsOk xs es F = false := by
        unfold carsOk
        rw [decide_eq_false hn]
        rfl
      have := q H2 k2
      rw [hf] at this
      exact this
end
end Ln


set_option Elab.async false
set_option linter.all false
set_option maxRecDepth 100000
set_option maxHeartbeats 4000000
namespace Ln
open PySem PySem.Spec PyProof.Rows L2 GxR
theorem scCell : FnScope ["script", "k"] ["script", "k"] (defScope sCell) := ⟨rfl, rfl, rfl, by decide +kernel, rfl, by decide +kernel, by decide +kernel⟩
theorem scBag : FnScope ["cell", "k"] ["cell", "k"] (defScope sBag) := ⟨rfl, rfl, rfl, by decide +kernel, rfl, by decide +kernel, by decide +kernel⟩
theorem scTake : FnScope ["bag", "limit", "found", "mixed"] ["bag", "limit"] (defScope sTake) := ⟨rfl, rfl, rfl, by decide +kernel, rfl, by decide +kernel, by decide +kernel⟩
theorem scFolk : FnScope ["initial", "entries", "entry"] ["initial", "entries"] (defScope sFolk) := ⟨rfl, rfl, rfl, by decide +kernel, rfl, by decide +kernel, by decide +kernel⟩
section
variable {P : Program} {w : World} {K : PySem.W.Frag} {mg : Str → Option Value} {base : Heap} {Ps : List Addr}
def spCell (K : PySem.W.Frag) : Sp := fun vs H Q _ => ∃ (a : Addr) (ns : List Int) (k : Nat), vs = [.ref a, .int k] ∧ SqL K H a (ns.map V.int) ∧ ∀ c : Int, Q (.int c) H
theorem ok_cell {f : Addr} {fd : FuncData} (F : Fun K "_law_cell_at" "_law_cell_at" sCell f fd) (B : Bi mg) : FnOk P w K mg base CX0 1 f fd ["script", "k"] (spCell K) := by
  refine F.ok scCell (fun vs H Q E h => ?_) (fun cdv A outer s H vs Q E hr h => ?_)
  · obtain ⟨a, ns, k, rfl, _⟩ := h
    rfl
  · obtain ⟨a, ns, k, rfl, hS, q⟩ := h
    refine ⟨_, pss_cons (ps_if (pt_cmpR op_lt (pv 1) (pe_callB call_len_seq (by rfl) B.len PySem.boot_len (pa_cons (pv 0) pa_nil)) (nomark _)) (pss_one (ps_ret (pe_ix ix_list (pv 0) (pv 1) (fun _ _ => rfl)))) pss_nil) (pss_one (ps_ret pe_int)), ?_⟩
    refine ⟨_, rfl, .ref a, rfl, a, _, rfl, .inl hS, _, _, rfl, rfl, _, rfl, ite2 (fun h => ?_) (fun h => ?_)⟩
    · have h : (k : Int) < ((ns.map V.int).length : Nat) := of_decide_eq_true h
      have hk : k < ns.length := by
        rw [List.length_map] at h
        omega
      refine ⟨.ref a, rfl, _, rfl, a, _, k, .int ns[k], rfl, rfl, hS, atI_nat (by rw [List.getElem?_map, List.getElem?_eq_getElem hk]; rfl), ?_⟩
      exact q _
    · exact q 0
def spBag : Sp := fun vs H Q _ => ∃ (c : Int) (k : Nat), vs = [.int c, .int k] ∧ k ≤ 64 ∧ ∀ p l, H p = none → SrcV 0 l → Q (.ref p) (upd H p (.lst l))
theorem ok_bag {f : Addr} {fd : FuncData} (F : Fun K "_law_bag" "_law_bag" sBag f fd) (B2 : Bl mg) : FnOk P w K mg base CX0 1 f fd ["cell", "k"] spBag := by
  refine F.ok scBag (fun vs H Q E h => ?_) (fun cdv A outer s H vs Q E hr h => ?_)
  · obtain ⟨c, k, rfl, _⟩ := h
    rfl
  · obtain ⟨c, k, rfl, hk, q⟩ := h
    refine ⟨_, pss_one (ps_ret (pe_lst (pa_cons (pe_callB (call_max2 rfl) (by rfl) B2.max (by decide +kernel) (pa_cons pe_int (pa_cons (pe_op op_sub (pv 0) (pe_op op_pow pe_int pe_int)) pa_nil))) (pa_cons (pe_op op_add (pe_op op_mod (pv 0) pe_int) (pe_op op_mul pe_int (pe_op op_add (pv 1) pe_int))) (pa_cons pe_int pa_nil))))), ?_⟩
    refine ⟨_, rfl, 10, 18, rfl, rfl, ⟨by decide, by decide, by decide⟩, _, _, rfl, rfl, _, _, rfl, ?_⟩
    refine ⟨_, rfl, _, _, rfl, rfl, (by show (0 : Int) < 162259276829213363391578010288127; decide), _, rfl, _, _, rfl, rfl, _, _, rfl, rfl, .inl ⟨by decide, by decide⟩, _, _, rfl, rfl, by show 3 ≤ sizeLine; decide, fun p hp => ?_⟩
    refine q p _ hp ⟨_, _, 0, rfl, ?_, ?_, ?_, by decide, by decide⟩
    · split <;> omega
    · have h1 : (0 : Int) ≤ c % 162259276829213363391578010288127 := Int.emod_nonneg _ (by decide)
      omega
    · have h1 : c % 162259276829213363391578010288127 < 162259276829213363391578010288127 := Int.emod_lt_of_pos _ (by decide)
      have h2 : (162259276829213363391578010288127 : Int) + 6469 * 65 < 2 ^ 130 := by decide
      omega
def spTake : Sp := fun vs H Q _ => ∃ (s : Addr) (l : List V) (n : Nat) (lim : Int), vs = [.ref s, .int lim] ∧ H s = some (.lst l) ∧ SrcV n l ∧ n ≤ 1000000 ∧ 1 ≤ lim ∧ lim ≤ 100000 ∧ ∀ l' r, SrcV (n + 1) l' → 0 ≤ r → r < lim → Q (.int r) (upd H s (.lst l'))
theorem ok_take {f : Addr} {fd : FuncData} (F : Fun K "_law_take" "_law_take" sTake f fd) : FnOk P w K mg base CX0 1 f fd ["bag", "limit"] spTake := by
  refine F.ok scTake (fun vs H Q E h => ?_) (fun cdv A outer s H vs Q E hr h => ?_)
  · obtain ⟨s0, l, n, lim, rfl, _⟩ := h
    rfl
  · obtain ⟨s0, l, n, lim, rfl, hs, ⟨a, b, c, rfl, ha, hb, hb2, hc, hcn⟩, hn, hl1, hl2, q⟩ := h
    refine ⟨_, pss_cons (ps_if (pt_cmpR op_gt (pe_ix ix_list (pv 0) pe_int (fun _ _ => rfl)) pe_int (nomark _))
        (pss_cons (ps_set (i := 2) scTake.nd rfl (.inl rfl) (pe_op op_mod (pe_ix ix_list (pv 0) pe_int (fun _ _ => rfl)) (pv 1)))
        (pss_cons (ps_asg (pe_op op_fdiv (pe_ix ix_list (pv 0) pe_int (fun _ _ => rfl)) (pv 1)) (pg_sub (pv 0) pe_int set_list))
        (pss_one (ps_ret (pv 2))))) pss_nil)
      (pss_cons (ps_asg (pe_op op_add (pe_ix ix_list (pv 0) pe_int (fun _ _ => rfl)) pe_int) (pg_sub (pv 0) pe_int set_list))
      (pss_cons (ps_set (i := 3) scTake.nd rfl (.inl rfl) (pe_op op_mod (pe_op op_powW (pe_op op_add (pe_ix ix_list (pv 0) pe_int (fun _ _ => rfl)) (pe_op op_mul pe_int (pe_ix ix_list (pv 0) pe_int (fun _ _ => rfl)))) pe_int) pe_int))
      (pss_cons (ps_set (i := 3) scTake.nd rfl (.inl rfl) (pe_op op_mod (pe_op op_powW (pe_op op_add (pv 3) (pe_op op_mul pe_int (pe_ix ix_list (pv 0) pe_int (fun _ _ => rfl)))) pe_int) pe_int))
      (pss_one (ps_ret (pe_op op_mod (pe_op op_fdiv (pv 3) pe_int) (pv 1))))))), ?_⟩
    have hS := SqL.of (K := K) hs
    refine ⟨.ref s0, rfl, s0, _, 0, .int a, rfl, rfl, hS, atI_nat (j := 0) rfl, _, _, rfl, rfl, _, rfl, ite2 (fun h => ?_) (fun h => ?_)⟩
    · refine ⟨.ref s0, rfl, s0, _, 0, .int a, rfl, rfl, hS, atI_nat (j := 0) rfl, _, rfl, _, _, rfl, rfl, by omega, ?_⟩
      refine ⟨.ref s0, rfl, s0, _, 0, .int a, rfl, rfl, hS, atI_nat (j := 0) rfl, _, rfl, _, _, rfl, rfl, ⟨by omega, by omega⟩, ?_⟩
      refine ⟨.ref s0, rfl, s0, _, _, 0, rfl, rfl, hs, rfl, ?_⟩
      refine ⟨_, rfl, q _ _ ⟨a / lim, b, c, rfl, Int.ediv_nonneg ha (by omega), hb, hb2, hc, by omega⟩ (Int.emod_nonneg _ (by omega)) (Int.emod_lt_of_pos _ (by omega))⟩
    · refine ⟨.ref s0, rfl, s0, _, 2, .int c, rfl, rfl, hS, atI_nat (j := 2) rfl, _, _, rfl, rfl, ?_⟩
      refine ⟨.ref s0, rfl, s0, _, _, 2, rfl, rfl, hs, rfl, ?_⟩
      have hS2 : SqL K (upd H s0 (.lst [.int a, .int b, .int (c + 1)])) s0 [.int a, .int b, .int (c + 1)] := SqL.of upd_same
      have nat_lt : ∀ x y : Int, 0 ≤ x → x ≤ y → y.natAbs < 2 ^ 1000 → x.natAbs < 2 ^ 1000 := fun x y h0 h1 h2 => Nat.lt_of_le_of_lt (by omega) h2
      have big : ((2 ^ 140 : Int)).natAbs < 2 ^ 1000 := by decide +kernel
      refine ⟨.ref s0, rfl, s0, _, 1, .int b, rfl, rfl, hS2, atI_nat (j := 1) rfl, .ref s0, rfl, s0, _, 2, .int (c + 1), rfl, rfl, hS2, atI_nat (j := 2) rfl, _, _, rfl, rfl, .inl ⟨by decide, by decide⟩, _, _, rfl, rfl, _, 3, rfl, rfl, ⟨by decide, by decide, ?_⟩, _, _, rfl, rfl, (by show (0 : Int) < 162259276829213363391578010288127; decide), ?_⟩
      · refine nat_lt _ (2 ^ 140) (by omega) ?_ big
        have : (2 : Int) ^ 130 + 1300223 * 1000001 ≤ 2 ^ 140 := by decide
        omega
      · have m1 : ∀ z : Int, 0 ≤ z % 162259276829213363391578010288127 ∧ z % 162259276829213363391578010288127 ≤ 2 ^ 130 := fun z => by
          have h1 : 0 ≤ z % 162259276829213363391578010288127 := Int.emod_nonneg _ (by decide)
          have h2 : z % 162259276829213363391578010288127 < 162259276829213363391578010288127 := Int.emod_lt_of_pos _ (by decide)
          have h3 : (162259276829213363391578010288127 : Int) ≤ 2 ^ 130 := by decide
          omega
        generalize hmx : (b + 1300223 * (c + 1)) ^ Int.toNat 3 % 162259276829213363391578010288127 = mx
        have m1' : 0 ≤ mx ∧ mx ≤ 2 ^ 130 := by
          rw [← hmx]
          exact m1 _
        refine ⟨_, rfl, .ref s0, rfl, s0, _, 2, .int (c + 1), rfl, rfl, hS2, atI_nat (j := 2) rfl, _, _, rfl, rfl, .inl ⟨by decide, by decide⟩, _, _, rfl, rfl, _, 5, rfl, rfl, ⟨by decide, by decide, ?_⟩, _, _, rfl, rfl, (by show (0 : Int) < 618970019642690137449562111; decide), ?_⟩
        · refine nat_lt _ (2 ^ 140) (by omega) ?_ big
          have : (2 : Int) ^ 130 + 15486253 * 1000001 ≤ 2 ^ 140 := by decide
          omega
        · generalize (mx + 15486253 * (c + 1)) ^ Int.toNat 5 % 618970019642690137449562111 = my
          refine ⟨_, rfl, _, _, rfl, rfl, ⟨by decide, by decide⟩, _, rfl, _, _, rfl, rfl, by show (0 : Int) < lim; omega, ?_⟩
          exact q _ _ ⟨a, b, c + 1, rfl, ha, hb, hb2, by omega, by omega⟩ (Int.emod_nonneg _ (by omega)) (Int.emod_lt_of_pos _ (by omega))
def spFolk (K : PySem.W.Frag) : Sp := fun vs H Q _ => ∃ (a l : Addr) (xs : List Str) (as : List Addr) (es : List Ev), vs = [.ref a, .ref l] ∧ SqT K H a (xs.map V.str) ∧ SqL K H l (as.map V.ref) ∧ EvsAt K H as es ∧ xs.length ≤ 400 ∧ es.length ≤ 400 ∧
  ∀ (H' : Hp) (p : Addr), L2.Same H H' → H p = none → H' p = some (.lst ((xs ++ arrs es).map V.str)) → Q (.ref p) H'
theorem ok_folk {f : Addr} {fd : FuncData} (F : Fun K "_law_folk" "_law_folk" sFolk f fd) (B : Bi mg) : FnOk P w K mg base CX0 1 f fd ["initial", "entries"] (spFolk K) := by
  refine F.ok scFolk (fun vs H Q E h => ?_) (fun cdv A outer s H vs Q E hr h => ?_)
  · obtain ⟨a, l, xs, as, es, rfl, _⟩ := h
    rfl
  · obtain ⟨a, l, xs, as, es, rfl, hA, hL, hE, few1, few2, q⟩ := h
    refine ⟨_, pss_one (ps_ret (pe_op op_cat (pe_callTy call_list_of (by rfl) B.lst (by decide +kernel) (pa_cons (pv 0) pa_nil))
        (pe_lc (own := [("entry", 2)]) (g := gName 2) (by rfl) scFolk.nd (pi_list (pv 1)) (blkOk_by (own := [("entry", 2)]) (N := ["initial", "entries", "entry"]) (sc := defScope sFolk) (by decide +kernel))
          (fun _ _ _ _ _ => pg_name (i := 2) scFolk.nd rfl (Or.inl rfl)) (fun _ _ _ _ _ => pts_one (pt_cmpR op_eq (pe_ix (r := rIxT K) ix_tup (pv 2) pe_int (fun _ _ => rfl)) pe_str (nomark _))) (fun _ _ _ _ _ => pe_ix (r := rIxT K) ix_tup (pv 2) pe_int (fun _ _ => rfl))))), ?_⟩
    have hlen := Paired.length hE
    refine ⟨.ref a, rfl, a, _, rfl, .inr hA, fun o ho => ?_⟩
    have smo : L2.Same H (upd H o (.lst (xs.map V.str))) := fun b u e => by rw [upd_ne (ne_of_none e ho)]; exact e
    refine ⟨.ref l, rfl, l, rfl, ⟨_, smo.seq hL⟩, fun D hD => ?_⟩
    have hDo : D ≠ o := fun z => by
      rw [z, upd_same] at hD
      cases hD
    rw [upd_ne hDo] at hD
    have seqT : ∀ {H1 : Hp} {b : Addr} {zs : List V}, L2.Same H H1 → SqT K H b zs → SqT K H1 b zs := fun {H1 b zs} k h => by
      rcases h with (e | ⟨ob, e⟩) | e
      · exact .inl (.inl (k _ _ e))
      · exact .inl (.inr ⟨ob, k _ _ e⟩)
      · exact .inr e
    have new : ∀ {H1 : Hp} {p : Addr} {u : HO}, L2.Same H H1 → H p = none → L2.Same H (upd H1 p u) := fun {H1 p u} k hp b v e => by
      rw [upd_ne (ne_of_none e hp)]
      exact k b v e
    refine lc_list (K := K) (a := l) (xs := as.map V.ref) (fun i H' => L2.Same H H' ∧ i ≤ es.length ∧ H' o = some (.lst (xs.map V.str)) ∧ H' D = some (.lst ((arrs (es.take i)).map V.str))) ?_ ?_ ?_ ?_
    · exact ⟨new smo hD, Nat.zero_le _, by rw [upd_ne hDo.symm, upd_same], upd_same⟩
    · rintro i H' _ ⟨sm, _⟩
      exact sm.seq hL
    · rintro i y H' hi ⟨sm, hie, ho', hD'⟩
      have hlt : i < es.length := by
        have h1 := (List.getElem?_eq_some_iff.mp hi).1
        rw [List.length_map] at h1
        omega
      have hev : es[i]? = some es[i] := List.getElem?_eq_getElem hlt
      obtain ⟨b, hb, hbt0⟩ := pair_at hE i _ hev
      have hbt := seqT sm hbt0
      have hy : y = .ref b := by
        rw [List.getElem?_map, hb] at hi
        exact (Option.some.inj hi).symm
      subst hy
      have htake : es.take (i + 1) = es.take i ++ [es[i]] := by rw [List.take_add_one, hev]; rfl
      refine ⟨rfl, ?_⟩
      cases hE2 : es[i] with
      | inn c =>
        rw [hE2] at hbt htake
        refine ⟨.ref b, rfl, b, _, 0, .str "in", rfl, rfl, hbt, atI_nat (j := 0) rfl, rfl, _, rfl, ?_⟩
        rw [decide_eq_true (rfl : V.str "in" = V.str "in")]
        refine iteT ⟨.ref b, rfl, b, _, 1, .str c, rfl, rfl, hbt, atI_nat (j := 1) rfl, _, hD', ?_, new sm hD, hlt, ?_, ?_⟩
        · rw [List.length_map]
          refine small1000 ?_
          have := arrs_len (es.take i)
          rw [List.length_take] at this
          omega
        · rw [upd_ne hDo.symm]
          exact ho'
        · rw [upd_same, htake, arrs_app, List.map_append]
          rfl
      | out =>
        rw [hE2] at hbt htake
        refine ⟨.ref b, rfl, b, _, 0, .str "out", rfl, rfl, hbt, atI_nat (j := 0) rfl, rfl, _, rfl, ?_⟩
        rw [decide_eq_false (fun z => ne_oi (V.str.inj z))]
        refine iteF ⟨sm, hlt, ho', ?_⟩
        rw [hD', htake, arrs_app]
        show _ = some (HO.lst ((arrs (es.take i) ++ []).map V.str))
        rw [List.append_nil]
    · rintro H' ⟨sm, hie, ho', hD'⟩
      rw [List.length_map, hlen, List.take_length] at hD'
      refine ⟨o, D, _, _, rfl, rfl, ho', hD', ?_, fun p hp => ?_⟩
      · have h3 := arrs_len es
        rw [List.length_map, List.length_map]
        exact Nat.le_of_lt (small1000 (by omega))
      · exact q _ p (new sm (sm.free hp)) (sm.free hp) (by rw [upd_same, List.map_append])
end
end Ln


set_option Elab.async false
set_option linter.all false
set_option maxRecDepth 100000
set_option maxHeartbeats 4000000
namespace Ln
open PySem PySem.Spec PyProof.Rows L2 GxR
theorem scNames : FnScope ["bag", "many", "pool", "sign", "k", "more"] ["bag", "many"] (defScope sNames) := ⟨rfl, rfl, rfl, by decide +kernel, rfl, by decide +kernel, by decide +kernel⟩
/-! ### the pool of names -/
def pool0 : List Str := ["a", "b", "z", "aa", "ab", "in", "out", "l", "r", "none", "zzzz", "abcd", "abce"]
abbrev sgnS : Str := "cdefghijkmnopq"
abbrev morS : Str := "pqrstuvwxyz"
abbrev sgn (c : Nat) : Str := ⟨#[c]⟩
def pool1 (c : Nat) : List Str := [sgn c, sgn c ++ ("a" : Str)]
def pool2 (c i : Nat) : List Str := (morS.cps.toList.take i).map fun m => (sgn c ++ ("x" : Str)) ++ sgn m
def poolAt (i : Nat) : List Str := pool0 ++ (sgnS.cps.toList.take i).flatMap fun c => pool1 c ++ pool2 c 11
abbrev poolL : List Str := poolAt 14
theorem pool_len : ∀ i < 15, (poolAt i).length ≤ 195 := by decide +kernel
theorem pool_cars : ∀ x ∈ poolL, carB x = true := by decide +kernel
theorem pool_nodup : poolL.Nodup := by decide +kernel
theorem pool_len14 : poolL.length = 195 := by decide +kernel
section
variable {P : Program} {w : World} {K : PySem.W.Frag} {mg : Str → Option Value} {base : Heap} {Ps : List Addr}
def spNames : Sp := fun vs H Q _ => ∃ (s : Addr) (l : List V) (n many : Nat), vs = [.ref s, .int (many : Nat)] ∧ H s = some (.lst l) ∧ SrcV n l ∧ n + many ≤ 1000000 ∧ many ≤ 190 ∧
  ∀ (H' : Hp) (p : Addr) (ys : List Str) (l' : List V), Ch s H H' → H p = none → ys.length = many → ys.Nodup → (∀ y ∈ ys, y ∈ poolL) → SrcV (n + many) l' → H' s = some (.lst l') → H' p = some (.lst (ys.map V.str)) → Q (.ref p) H'
theorem ok_names {f fT : Addr} {fd fdT : FuncData} (F : Fun K "_law_names" "_law_names" sNames f fd) (B : Bi mg) (B2 : Bl mg)
    (GT : FnOk P w K mg base CX0 1 fT fdT ["bag", "limit"] spTake) (mgT : mg "_law_take" = some (.ref fT)) (kT : PySem.W.keepIn K (.ref fT) = true) (bT : Binds K fdT ["bag", "limit"] []) : FnOk P w K mg base CX0 2 f fd ["bag", "many"] spNames := by
  refine F.ok scNames (fun vs H Q E h => ?_) (fun cdv A outer s H vs Q E hr h => ?_)
  · obtain ⟨s0, l, n, many, rfl, _⟩ := h
    rfl
  · obtain ⟨s0, l, n, many, rfl, hs, hl, hn, hm, q⟩ := h
    refine ⟨_, pss_cons (ps_set (i := 2) scNames.nd rfl (.inr rfl) (pe_lst (pa_cons pe_str (pa_cons pe_str (pa_cons pe_str (pa_cons pe_str (pa_cons pe_str (pa_cons pe_str (pa_cons pe_str (pa_cons pe_str (pa_cons pe_str (pa_cons pe_str (pa_cons pe_str (pa_cons pe_str (pa_cons pe_str pa_nil)))))))))))))))
      (pss_cons (ps_for PassesOwn.never rfl (pi_str pe_str) (pg_name (i := 3) scNames.nd rfl (.inr rfl))
        (pss_one (ps_set (i := 2) scNames.nd rfl (.inr rfl) (pe_op op_cat (pe_op op_cat (pv 2) (pe_lst (pa_cons (pv 3) (pa_cons (pe_op op_add_str (pv 3) pe_str) pa_nil))))
          (pe_lc (own := [("more", 5)]) (g := gName 5) (tt := tYes) (by rfl) scNames.nd (pi_str pe_str) (blkOk_by (own := [("more", 5)]) (N := ["bag", "many", "pool", "sign", "k", "more"]) (sc := defScope sNames) (by decide +kernel))
            (fun _ _ _ _ _ => pg_name (i := 5) scNames.nd rfl (Or.inl rfl)) (fun _ _ _ _ _ => pts_nil) (fun _ _ _ _ _ => pe_op op_add_str (pe_op op_add_str (pv 3) pe_str) (pv 5)))))))
      (pss_one (ps_ret (pe_lc (own := [("k", 4)]) (g := gName 4) (tt := tYes) (te := tBM K "list" rPopAt (tVar 2) (tCons (tCall spTake [] E0 (tCons (tVar 0) (tCons (tCB (rLenSeq K) (tCons (tVar 2) tNil)) tNil))) tNil)) (by rfl) scNames.nd
        (pi_range1 (by rfl) B2.rng (pa_cons (pv 1) pa_nil)) (blkOk_by (own := [("k", 4)]) (N := ["bag", "many", "pool", "sign", "k", "more"]) (sc := defScope sNames) (by decide +kernel))
        (fun _ _ _ _ _ => pg_name (i := 4) scNames.nd rfl (Or.inl rfl)) (fun _ _ _ _ _ => pts_nil)
        (fun _ _ _ _ _ => pe_bm PySem.F.plainAttrs_list PySem.F.slot_list_pop PySem.F.type_list_pop mt_popAt (pv 2) (pa_cons (pe_call GT hr (by rfl) mgT kT bT .nil pass0 (pa_cons (pv 0) (pa_cons (pe_callB call_len_seq (by rfl) B.len PySem.boot_len (pa_cons (pv 2) pa_nil)) pa_nil))) pa_nil)))))), ?_⟩
    refine ⟨by show 13 ≤ sizeLine; decide, fun p hp => ?_⟩
    refine ⟨_, rfl, ?_⟩
    have new : ∀ {H1 H2 : Hp} {p : Addr} {u : HO}, L2.Same H1 H2 → H1 p = none → L2.Same H1 (upd H2 p u) := fun {H1 H2 p u} k hp b v e => by
      rw [upd_ne (ne_of_none e hp)]
      exact k b v e
    refine for_it (walk_str (z := sgnS)) (fun i σ H' => ∃ (p : Addr) (v3 v4 v5 : Option V), σ = [some (.ref s0), some (.int (many : Nat)), some (.ref p), v3, v4, v5] ∧ L2.Same H H' ∧ H p = none ∧ H' p = some (.lst ((poolAt i).map V.str))) ?_ (fun _ _ _ _ _ => trivial) ?_ ?_
    · exact ⟨p, none, none, none, rfl, new (L2.Same.refl H) hp, hp, upd_same⟩
    · rintro i x σ H0 H1 hi ⟨p, v3, v4, v5, rfl, sm, hp0, hpl⟩ ⟨rfl, c, hc, rfl⟩
      have hi14 : i < 14 := hi
      have hat : sgnS.cps.toList[i]? = some c := by
        rw [Array.getElem?_toList]
        exact hc
      have hlen := pool_len i (by omega)
      have hnext : poolAt (i + 1) = (poolAt i ++ pool1 c) ++ pool2 c 11 := by
        unfold poolAt
        rw [List.take_add_one, hat, List.flatMap_append, ← List.append_assoc]
        show _ ++ ((pool1 c ++ pool2 c 11) ++ []) = _
        rw [List.append_nil, ← List.append_assoc]
      have hlen2 := pool_len (i + 1) (by omega)
      rw [hnext, List.length_append, List.length_append] at hlen2
      refine ⟨.ref p, rfl, _, rfl, _, rfl, _, _, rfl, rfl, by show 2 ≤ sizeLine; decide, by show 2 ≤ sizeLine; decide, fun p1 hp1 => ?_⟩
      have sm1 := new sm (sm.free hp1) (u := .lst ((pool1 c).map V.str))
      have e1 : (upd H1 p1 (.lst ((pool1 c).map V.str))) p1 = some (.lst ((pool1 c).map V.str)) := upd_same
      have el1 : (upd H1 p1 (.lst ((pool1 c).map V.str))) p = some (.lst ((poolAt i).map V.str)) := by rw [upd_ne (ne_of_none hpl hp1)]; exact hpl
      show rCat (.ref p) (.ref p1) (upd H1 p1 (.lst ((pool1 c).map V.str))) _
      generalize upd H1 p1 (.lst ((pool1 c).map V.str)) = H2 at sm1 e1 el1 ⊢
      refine ⟨p, p1, _, _, rfl, rfl, el1, e1, ?_, fun p2 hp2 => ?_⟩
      · rw [List.length_map, List.length_map]
        exact Nat.le_of_lt (small1000 (by omega))
      rw [← List.map_append]
      have sm2 := new sm1 (sm1.free hp2) (u := .lst ((poolAt i ++ pool1 c).map V.str))
      have e2 : (upd H2 p2 (.lst ((poolAt i ++ pool1 c).map V.str))) p2 = some (.lst ((poolAt i ++ pool1 c).map V.str)) := upd_same
      generalize upd H2 p2 (.lst ((poolAt i ++ pool1 c).map V.str)) = H3 at sm2 e2 ⊢
      refine ⟨_, rfl, fun D hD => ?_⟩
      have hDp : D ≠ p2 := (ne_of_none e2 hD).symm
      refine lc_it (walk_str (z := morS)) (fun j H' => L2.Same H H' ∧ H' p2 = some (.lst ((poolAt i ++ pool1 c).map V.str)) ∧ H' D = some (.lst ((pool2 c j).map V.str))) ?_ (fun _ _ _ _ => trivial) ?_ ?_
      · exact ⟨new sm2 (sm2.free hD), by rw [upd_ne hDp.symm]; exact e2, upd_same⟩
      · rintro j x H0' H4 hj ⟨sm4, e4, hD4⟩ ⟨rfl, d, hd, rfl⟩
        have hj11 : j < 11 := hj
        have hdt : morS.cps.toList[j]? = some d := by
          rw [Array.getElem?_toList]
          exact hd
        have hn2 : pool2 c (j + 1) = pool2 c j ++ [(sgn c ++ ("x" : Str)) ++ sgn d] := by
          unfold pool2
          rw [List.take_add_one, hdt, List.map_append]
          rfl
        refine ⟨rfl, ?_⟩
        unfold tYes
        refine iteT ⟨_, rfl, _, _, rfl, rfl, by show 2 ≤ sizeLine; decide, _, rfl, _, _, rfl, rfl, by show 3 ≤ sizeLine; decide, _, hD4, ?_, new sm4 (sm2.free hD), ?_, ?_⟩
        · unfold pool2
          rw [List.length_map, List.length_map, List.length_take]
          exact small1000 (by omega)
        · rw [upd_ne hDp.symm]
          exact e4
        · rw [upd_same, hn2, List.map_append]
          rfl
      · rintro H4 ⟨sm4, e4, hD4⟩
        refine ⟨p2, D, _, _, rfl, rfl, e4, hD4, ?_, fun p3 hp3 => ?_⟩
        · rw [List.length_map, List.length_map, List.length_append]
          refine Nat.le_of_lt (small1000 ?_)
          show ((poolAt i).length + (pool1 c).length) + (pool2 c 11).length ≤ 1000
          omega
        refine ⟨p3, _, _, _, rfl, new sm4 (sm4.free hp3), sm4.free hp3, ?_⟩
        rw [upd_same, hnext, ← List.map_append]
        rfl
    · rintro σ H1 ⟨p, v3, v4, v5, rfl, sm, hp0, hpl⟩
      have hps : p ≠ s0 := (ne_of_none hs hp0).symm
      have hs1 := sm _ _ hs
      have hpl : H1 p = some (.lst (poolL.map V.str)) := hpl
      refine ⟨_, rfl, _, rfl, by omega, by omega, fun D hD => ?_⟩
      have hDp : D ≠ p := (ne_of_none hpl hD).symm
      have hDs : D ≠ s0 := (ne_of_none hs1 hD).symm
      have hD0 : H D = none := sm.free hD
      have ch0 : Ch s0 H H1 := fun b o e _ => sm _ _ e
      refine lc_range (lo := 0) (n := ((many : Nat) : Int).toNat) (fun i H' => ∃ (l' : List V) (ys zs : List Str), Ch s0 H H' ∧ i ≤ many ∧ SrcV (n + i) l' ∧ H' s0 = some (.lst l') ∧ H' p = some (.lst (zs.map V.str)) ∧ H' D = some (.lst (ys.map V.str)) ∧ (ys ++ zs).Perm poolL ∧ ys.length = i) ?_ ?_ ?_
      · exact ⟨l, [], poolL, ch0.new hD0, Nat.zero_le _, hl, by rw [upd_ne hDs.symm]; exact hs1, by rw [upd_ne hDp.symm]; exact hpl, by rw [upd_same]; rfl, List.Perm.refl _, rfl⟩
      · rintro i H' hi ⟨l', ys, zs, ch, _, hl', hs', hu', hD', hper, hy⟩
        have hi : i < many := by
          rw [Int.toNat_natCast] at hi
          exact hi
        have hlen : ys.length + zs.length = 195 := by
          have := hper.length_eq
          rw [List.length_append, pool_len14] at this
          exact this
        refine ⟨rfl, ?_⟩
        unfold tYes
        refine iteT ?_
        refine ⟨.ref p, rfl, .inl ⟨rfl, _, .inl (.inl hu')⟩, .ref s0, rfl, .ref p, rfl, p, _, rfl, .inl (.inl (.inl hu')), ?_⟩
        refine ⟨s0, l', n + i, _, rfl, hs', hl', by omega, by rw [List.length_map]; omega, by rw [List.length_map]; omega, fun l2 r hl2 h0 h1 => ?_⟩
        rw [List.length_map] at h1
        obtain ⟨k, rfl⟩ : ∃ k : Nat, r = (k : Int) := ⟨r.toNat, by omega⟩
        have hk : k < zs.length := by omega
        have hz : zs[k]? = some zs[k] := List.getElem?_eq_getElem hk
        have hu2 : (upd H' s0 (.lst l2)) p = some (.lst (zs.map V.str)) := by rw [upd_ne hps]; exact hu'
        have hpe := erase_perm hz
        refine ⟨p, _, k, k, V.str zs[k], rfl, rfl, hu2, by omega, by omega, ?_, by rw [List.getElem?_map, hz]; rfl, ys.map V.str, ?_, ?_, ?_⟩
        · refine (ixN_seq (i := (k : Int)) (j := k) ?_).1
          unfold ixN
          rw [if_pos (by omega), if_pos (by rw [List.length_map]; omega)]
          rfl
        · rw [upd_ne hDp, upd_ne hDs]
          exact hD'
        · rw [List.length_map]
          exact small1000 (by omega)
        · refine ⟨l2, ys ++ [zs[k]], zs.eraseIdx k, ((ch.trans Ch.src).new hp0).new hD0, hi, ?_, ?_, ?_, ?_, ?_, ?_⟩
          · rw [← Nat.add_assoc]
            exact hl2
          · rw [upd_ne hDs.symm, upd_ne hps.symm, upd_same]
          · rw [upd_ne hDp.symm, upd_same, map_erase]
          · rw [upd_same, List.map_append]
            rfl
          · rw [List.append_assoc]
            exact ((List.Perm.append_left ys hpe)).trans hper
          · rw [List.length_append, hy]
            rfl
      · rintro H' ⟨l', ys, zs, ch, _, hl', hs', hu', hD', hper, hy⟩
        rw [Int.toNat_natCast] at hy hl'
        have hnd : (ys ++ zs).Nodup := hper.nodup_iff.mpr pool_nodup
        exact q H' D ys l' ch hD0 hy (List.nodup_append.mp hnd).1 (fun y hy => hper.mem_iff.mp (List.mem_append_left _ hy)) hl' hs' hD'
end
end Ln

set_option Elab.async false
set_option linter.all false
set_option maxRecDepth 100000
set_option maxHeartbeats 4000000
namespace Ln
open PySem PySem.Spec PyProof.Rows L2 GxR
theorem scFirstPk : FnScope ["known", "lane", "order", "index", "car"] ["known", "lane"] (defScope sFirstPk) := ⟨rfl, rfl, rfl, by decide +kernel, rfl, by decide +kernel, by decide +kernel⟩
theorem isPk_none {o : List Nat} {i : Nat} (h : ∀ j, j < i → isPk o (1 + j) = false) (hi : i = o.length - 2) : fpk o = none := by
  unfold fpk
  rw [List.find?_eq_none]
  intro j hj
  rw [List.mem_range'_1] at hj
  have := h (j - 1) (by omega)
  rw [show 1 + (j - 1) = j by omega] at this
  simp [this]
theorem isPk_some {o : List Nat} {i : Nat} (h : ∀ j, j < i → isPk o (1 + j) = false) (hi : i < o.length - 2) (hp : isPk o (1 + i) = true) : fpk o = some (1 + i) := by
  unfold fpk
  rw [List.find?_range'_eq_some]
  refine ⟨hp, by rw [List.mem_range'_1]; omega, fun j h1 h2 => ?_⟩
  have := h (j - 1) (by omega)
  rw [show 1 + (j - 1) = j by omega] at this
  rw [this]
  rfl
section
variable {P : Program} {w : World} {K : PySem.W.Frag} {mg : Str → Option Value} {base : Heap} {Ps : List Addr}
def spHasBlk (K : PySem.W.Frag) (Ps : List Addr) : Sp := fun vs H Q _ => ∃ (a f : Addr) (xs F : List Str), vs = [.ref a, .ref f] ∧ SqT K H a (xs.map V.str) ∧ SqT K H f (F.map V.str) ∧ xs.length ≤ 400 ∧ F.length ≤ 400 ∧ (∀ x ∈ xs, carB x = true) ∧ (∀ x ∈ F, carB x = true) ∧ Tabs Ps H ∧
  ∀ H', Kp Ps H H' → Q (.bl (hasBlk xs F)) H'
theorem ok_hasBlk {f fB : Addr} {fd fdB : FuncData} (F : Fun K "has_block" "has_block" sHasBlk f fd)
    (GB : FnOk P w K mg base CX0 1 fB fdB ["start", "cars"] (spBlockR K Ps)) (mgB : mg "block_range" = some (.ref fB)) (kB : PySem.W.keepIn K (.ref fB) = true) (bB : Binds K fdB ["start", "cars"] []) : FnOk P w K mg base CX0 2 f fd ["start", "lane"] (spHasBlk K Ps) := by
  refine F.ok scHasBlk (fun vs H Q E h => ?_) (fun cdv A outer s H vs Q E hr h => ?_)
  · obtain ⟨a, f, xs, F, rfl, _⟩ := h
    rfl
  · obtain ⟨a, f, xs, F, rfl, hA, hF, few1, few2, hc1, hc2, hT, q⟩ := h
    have hu : A.units + 3 + 64 < cLine := hr.units
    refine ⟨_, pss_cons (ps_asg (pe_call GB hr (by rfl) mgB kB bB .nil pass0 (pa_cons (pv 0) (pa_cons (pv 1) pa_nil))) (pg_tup (by rfl) (pgs_cons (pg_name (i := 2) scHasBlk.nd rfl (.inl rfl)) (pgs_cons (pg_name (i := 3) scHasBlk.nd rfl (.inl rfl)) pgs_nil))))
      (pss_cons (ps_asg (pe_call GB hr (by rfl) mgB kB bB .nil pass0 (pa_cons (pv 1) (pa_cons (pv 0) pa_nil))) (pg_tup (by rfl) (pgs_cons (pg_name (i := 4) scHasBlk.nd rfl (.inl rfl)) (pgs_cons (pg_name (i := 5) scHasBlk.nd rfl (.inl rfl)) pgs_nil))))
      (pss_one (ps_ret (pe_cmpR (op_eqD hu) (pe_slice sl_tupA (pv 0) (po_some (pv 2)) (po_some (pv 3))) (pe_slice sl_tupA (pv 1) (po_some (pv 4)) (po_some (pv 5))) (nomark _))))), ?_⟩
    refine ⟨.ref a, rfl, .ref f, rfl, a, f, xs, F, rfl, hA, hF, few1, hT, fun H1 p1 k1 hp1 hp1' => ⟨p1, _, rfl, SqT.of hp1', rfl, _, _, rfl, _, _, rfl, rfl, ?_⟩⟩
    refine ⟨.ref f, rfl, .ref a, rfl, f, a, F, xs, rfl, k1.seqT hT hF, k1.seqT hT hA, few2, k1.tab, fun H2 p2 k2' hp2 hp2' => ⟨p2, _, rfl, SqT.of hp2', rfl, _, _, rfl, _, _, rfl, rfl, ?_⟩⟩
    have k2 := k1.trans k2'
    have b1 := brg_le xs F
    have b2 := brg_le F xs
    -- a slice of a tuple
    have sl : ∀ (H3 : Hp) (a : Addr) (xs : List Str) (p : Nat × Nat) (Q : VK), Kp Ps H H3 → SqT K H a (xs.map V.str) → p.1 ≤ xs.length → p.2 ≤ xs.length → (∀ H4 z, Kp Ps H H4 → SqT K H4 z ((cutN xs p).map V.str) → (∀ b ys, SqT K H3 b ys → SqT K H4 b ys) → Q (.ref z) H4) →
        rSlA K (.ref a) (some ((p.1 : Nat) : Int)) (some ((p.2 : Nat) : Int)) H3 Q := fun H3 a xs p Q k3 hA h1 h2 q => by
      have hA3 := k3.seqT hT hA
      have hcut : cutV (xs.map V.str) (some ((p.1 : Nat) : Int)) (some ((p.2 : Nat) : Int)) = (cutN xs p).map V.str := by
        rw [cutV_nat (by rw [List.length_map]; exact h1) (by rw [List.length_map]; exact h2)]
        unfold cutN
        rw [← List.map_take, ← List.map_drop]
      refine ⟨a, _, rfl, hA3, fun hw => ?_, fun _ z hz => ?_⟩
      · refine q H3 a k3 ?_ fun _ _ h => h
        rw [HT.sIx_nat, HT.sIx_nat, List.length_map, Nat.min_eq_left h1, Nat.min_eq_left h2] at hw
        have e : cutN xs p = xs := by
          unfold cutN
          rw [hw.1, hw.2, List.take_length]
          rfl
        rw [e]
        exact hA3
      · have hz0 : H z = none := k3.free hT hz
        rw [hcut]
        exact q _ z (k3.upd hT hz0) (SqT.of upd_same) fun b ys h => (Kp.upd (Kp.refl k3.tab) k3.tab hz).seqT k3.tab h
    refine ⟨.ref a, rfl, _, rfl, _, rfl, _, rfl, _, rfl, sl H2 a xs (brg xs F) _ k2 hA b1.1 b1.2 fun H3 z3 k3 hz3 _ => ?_⟩
    refine ⟨.ref f, rfl, _, rfl, _, rfl, _, rfl, _, rfl, sl H3 f F (brg F xs) _ k3 hF b2.1 b2.2 fun H4 z4 k4 hz4 keep => ?_⟩
    have m1 : ∀ x ∈ cutN xs (brg xs F), carB x = true := fun x hx => hc1 x (List.mem_of_mem_take (List.mem_of_mem_drop hx))
    have m2 : ∀ x ∈ cutN F (brg F xs), carB x = true := fun x hx => hc2 x (List.mem_of_mem_take (List.mem_of_mem_drop hx))
    refine ⟨.tuple ((cutN xs (brg xs F)).map PyData.str), .tuple ((cutN F (brg F xs)).map PyData.str), .tup (keep _ _ hz3) (dp_str _), .tup hz4 (dp_str _), shapedT _ m1, shapedT _ m2, ?_⟩
    rw [eqv_strs]
    exact q H4 k4
def spFirstPk (K : PySem.W.Frag) (Ps : List Addr) : Sp := fun vs H Q _ => ∃ (k f : Addr) (kn F : List Str), vs = [.ref k, .ref f] ∧ SqL K H k (kn.map V.str) ∧ SqT K H f (F.map V.str) ∧ F.length ≤ 400 ∧ (∀ c ∈ F, c ∈ kn) ∧ Tabs Ps H ∧
  ∀ H', Kp Ps H H' → Q (match fpk (F.map fun c => kn.idxOf c) with | none => .non | some i => .int (i : Nat)) H'
theorem ok_firstPk {f : Addr} {fd : FuncData} (F : Fun K "first_peak" "first_peak" sFirstPk f fd) (B : Bi mg) (B3 : Bn mg) : FnOk P w K mg base CX0 1 f fd ["known", "lane"] (spFirstPk K Ps) := by
  refine F.ok scFirstPk (fun vs H Q E h => ?_) (fun cdv A outer s H vs Q E hr h => ?_)
  · obtain ⟨k, f, kn, F, rfl, _⟩ := h
    rfl
  · obtain ⟨k, f, kn, F, rfl, hN, hF, few, hall, hT, q⟩ := h
    refine ⟨_, pss_cons (ps_setLc (i := 2) (own := [("car", 4)]) (g := gName 4) (tt := tYes) (te := tBM K "list" (rIndex K) (tVar 0) (tCons (tVar 4) tNil)) (by rfl) scFirstPk.nd rfl rfl (sw_true rfl rfl rfl (by decide +kernel)) (pi_tup (pv 1))
          (blkOk_by (own := [("car", 4)]) (N := ["known", "lane", "order", "index", "car"]) (sc := defScope sFirstPk) (by decide +kernel))
          (fun _ _ _ _ _ => pg_name (i := 4) scFirstPk.nd rfl (Or.inl rfl))
          (fun _ _ _ _ _ => pts_nil) (fun _ _ _ _ _ => pe_bm PySem.F.plainAttrs_list PySem.F.slot_list_index PySem.F.type_list_index mt_index (pv 0) (pa_cons (pv 4) pa_nil)))
      (pss_cons (ps_for PassesOwn.never rfl (pi_range2 (by rfl) B3.rng (pa_cons pe_int (pa_cons (pe_op op_sub (pe_callB call_len_seq (by rfl) B.len PySem.boot_len (pa_cons (pv 2) pa_nil)) pe_int) pa_nil))) (pg_name (i := 3) scFirstPk.nd rfl (.inl rfl))
        (pss_one (ps_if (pt_chain op_lt op_gt (pe_ix ix_list (pv 2) (pe_op op_sub (pv 3) pe_int) (fun _ _ => rfl)) (pe_ix ix_list (pv 2) (pv 3) (fun _ _ => rfl)) (pe_ix ix_list (pv 2) (pe_op op_add (pv 3) pe_int) (fun _ _ => rfl))) (pss_one (ps_ret (pv 3))) pss_nil)))
      (pss_one (ps_ret pe_non))), ?_⟩
    refine ⟨.ref f, rfl, f, rfl, ⟨_, hF⟩, fun D hD => ?_⟩
    refine lc_tup (K := K) (a := f) (xs := F.map V.str) (fun i H' => Kp Ps H H' ∧ H' D = some (.lst ((F.take i).map fun c => V.int (kn.idxOf c : Nat)))) ?_ ?_ ?_ ?_
    · exact ⟨Kp.new hT hD, upd_same⟩
    · rintro i H' _ ⟨kp, _⟩
      exact kp.seqT hT hF
    · rintro i y H' hi ⟨kp, hD'⟩
      have hlt : i < F.length := by
        have h1 := (List.getElem?_eq_some_iff.mp hi).1
        rw [List.length_map] at h1
        omega
      have hc : F[i]? = some F[i] := List.getElem?_eq_getElem hlt
      rw [List.getElem?_map, hc] at hi
      obtain rfl := Option.some.inj hi
      have hin := hall _ (List.getElem_mem hlt)
      have hix : kn.idxOf F[i] < kn.length := List.idxOf_lt_length_of_mem hin
      refine ⟨rfl, .ref k, rfl, .inl ⟨rfl, _, kp.seqL hT hN⟩, _, rfl, k, kn.map V.str, .str F[i], kn.idxOf F[i], .str F[i], rfl, rfl, kp.seqL hT hN, rfl, flat_strs kn, ?_, ?_, fun m z' hm hz => ?_, ?_⟩
      · rw [List.getElem?_map, List.getElem?_eq_getElem hix, List.getElem_idxOf]
        rfl
      · show (F[i] == F[i]) = true
        exact beq_self_eq_true _
      · rw [List.getElem?_map] at hz
        have hml : m < kn.length := by omega
        rw [List.getElem?_eq_getElem hml] at hz
        obtain rfl := Option.some.inj hz
        show (kn[m] == F[i]) = false
        have := List.not_of_lt_findIdx (p := (· == F[i])) hm
        simpa using this
      · refine ⟨_, hD', ?_, kp.upd hT hD, ?_⟩
        · rw [List.length_map, List.length_take]
          exact small1000 (by omega)
        · rw [upd_same, List.take_add_one, hc, List.map_append]
          rfl
    rintro H1 ⟨k1, hD1⟩
    rw [List.length_map, List.take_length] at hD1
    generalize hO : (F.map fun c => kn.idxOf c) = O at q
    have hOl : O.length = F.length := by rw [← hO, List.length_map]
    have hD2 : H1 D = some (.lst (O.map fun n => V.int (n : Nat))) := by
      rw [hD1, ← hO, List.map_map]
      rfl
    have hS2 : SqL K H1 D (O.map fun n => V.int (n : Nat)) := SqL.of hD2
    have hn : ((((O.map fun n => V.int (n : Nat)).length : Nat) : Int) - 1 - 1).toNat = O.length - 2 := by rw [List.length_map]; omega
    refine ⟨.ref D, rfl, D, _, rfl, .inl hS2, _, _, rfl, rfl, 1, _, rfl, ⟨by decide, by decide, by rw [List.length_map]; omega, by rw [List.length_map]; omega⟩, ?_⟩
    rw [hn]
    have at_ : ∀ (z : Int) (j : Nat), z = (j : Nat) → j < O.length → atI (O.map fun n => V.int (n : Nat)) z = some (V.int (O.getD j 0 : Nat)) := fun z j e hj => by
      rw [e]
      refine atI_nat ?_
      rw [List.getElem?_map, List.getElem?_eq_getElem hj, List.getD_eq_getElem?_getD, List.getElem?_eq_getElem hj]
      rfl
    refine for_range (lo := 1) (n := O.length - 2) (fun i σ H' => ∃ v3 : Option V, σ = [some (.ref k), some (.ref f), some (.ref D), v3, none] ∧ H' = H1 ∧ ∀ j, j < i → isPk O (1 + j) = false) ?_ ?_ ?_
    · exact ⟨none, rfl, rfl, fun j hj => absurd hj (Nat.not_lt_zero j)⟩
    · rintro i σ H' hi ⟨v3, rfl, rfl, hno⟩
      have eP : isPk O (1 + i) = (decide (((O.getD i 0 : Nat) : Int) < ((O.getD (1 + i) 0 : Nat) : Int)) && decide (((O.getD (2 + i) 0 : Nat) : Int) < ((O.getD (1 + i) 0 : Nat) : Int))) := by
        unfold isPk
        rw [show 1 + i - 1 = i by omega, show 1 + i + 1 = 2 + i by omega]
        congr 1
        · exact decide_eq_decide.mpr (by omega)
        · exact decide_eq_decide.mpr (by omega)
      have next : isPk O (1 + i) = false → ∃ v3' : Option V, [some (V.ref k), some (.ref f), some (.ref D), some (.int (1 + (i : Nat))), none] = [some (V.ref k), some (.ref f), some (.ref D), v3', none] ∧ H' = H' ∧ ∀ j, j < i + 1 → isPk O (1 + j) = false := fun hp => ⟨_, rfl, rfl, fun j hj => by
        by_cases e : j = i
        · rw [e]
          exact hp
        · exact hno j (by omega)⟩
      refine ⟨.ref D, rfl, _, rfl, _, _, rfl, rfl, D, _, _, _, rfl, rfl, hS2, at_ _ i (by omega) (by omega), .ref D, rfl, _, rfl, D, _, _, _, rfl, rfl, hS2, at_ _ (1 + i) (by omega) (by omega), _, _, rfl, rfl, _, rfl, ?_⟩
      refine ite2 (fun h1 => ?_) (fun h1 => ?_)
      · refine ⟨.ref D, rfl, _, rfl, _, _, rfl, rfl, D, _, _, _, rfl, rfl, hS2, at_ _ (2 + i) (by omega) (by omega), _, _, rfl, rfl, _, rfl, ite2 (fun h2 => ?_) (fun h2 => ?_)⟩
        · have hp : isPk O (1 + i) = true := by
            rw [eP, Bool.and_eq_true]
            exact ⟨h1, h2⟩
          have := q _ k1
          rw [isPk_some hno (by omega) hp] at this
          exact ⟨_, rfl, this⟩
        · refine next ?_
          rw [eP, h1, Bool.true_and]
          exact Bool.eq_false_iff.mpr h2
      · refine ⟨_, rfl, iteF (next ?_)⟩
        rw [eP, Bool.eq_false_iff.mpr h1, Bool.false_and]
    · rintro σ H' ⟨v3, rfl, rfl, hno⟩
      have := q _ k1
      rw [isPk_none hno rfl] at this
      exact this
end
end Ln


set_option Elab.async false
set_option linter.all false
set_option maxRecDepth 100000
set_option maxHeartbeats 4000000
namespace Ln
open PySem PySem.Spec PyProof.Rows L2
/-! ### t[::-1] of a tuple -/
theorem fmap_some {α β : Type} {f : α → Option β} {g : α → β} : ∀ {xs : List α}, (∀ x ∈ xs, f x = some (g x)) → xs.filterMap f = xs.map g
  | [], _ => rfl
  | x :: r, h => by rw [List.filterMap_cons_some (h x List.mem_cons_self), fmap_some fun y hy => h y (List.mem_cons_of_mem _ hy), List.map_cons]
theorem pick_back (xs : Array Value) : ((List.range xs.size).filterMap fun (m : Nat) => xs[(((xs.size : Nat) : Int) - 1 + (m : Int) * (-1)).toNat]?).toArray = xs.toList.reverse.toArray := by
  congr 1
  have e : ∀ m ∈ List.range xs.size, xs[(((xs.size : Nat) : Int) - 1 + (m : Int) * (-1)).toNat]? = some (xs.toList.reverse.getD m .none) := fun m hm => by
    have hm := List.mem_range.mp hm
    rw [show (((xs.size : Nat) : Int) - 1 + (m : Int) * (-1)).toNat = xs.size - 1 - m by omega, ← Array.getElem?_toList, List.getD_eq_getElem?_getD, List.getElem?_reverse (by rw [Array.length_toList]; exact hm), Array.length_toList]
    have h2 : xs.size - 1 - m < xs.toList.length := by
      rw [Array.length_toList]
      omega
    rw [List.getElem?_eq_getElem h2]
    rfl
  have e2 : (List.range xs.size).filterMap (fun (m : Nat) => xs[(((xs.size : Nat) : Int) - 1 + (m : Int) * (-1)).toNat]?) = (List.range xs.size).map fun m => xs.toList.reverse.getD m .none := by
    exact fmap_some e
  rw [e2]
  refine List.ext_getElem? fun i => ?_
  by_cases h : i < xs.size
  · have h2 : i < xs.toList.reverse.length := by
      rw [List.length_reverse, Array.length_toList]
      exact h
    rw [List.getElem?_map, List.getElem?_range h, List.getElem?_eq_getElem h2]
    show some (xs.toList.reverse.getD i .none) = _
    rw [List.getD_eq_getElem?_getD, List.getElem?_eq_getElem h2]
    rfl
  · rw [List.getElem?_eq_none (by rw [List.length_map, List.length_range]; omega), List.getElem?_eq_none (by rw [List.length_reverse, Array.length_toList]; omega)]
section
variable {prog : Program} {w : World} {A : Around} {E : Value → Shared → Prop} {s : Shared}
theorem places_back (n : Nat) : Builtin.Slice.slicePlaces ((n : Int) - 1) (-1) (-1) = n := by
  unfold Builtin.Slice.slicePlaces
  rw [if_neg (by decide)]
  by_cases h : 0 < n
  · rw [if_pos (by omega), show (-(-1) : Int) = 1 from rfl, Int.ediv_one]
    omega
  · rw [if_neg (by omega)]
    omega
theorem applied_back {sl : Addr} {vs : Value} {n : Nat} {Q : Int × Int × Nat → Shared → Prop} (hs : s.heap.IsSliceOf sl .none .none vs) (ps : IsPart vs (some (-1))) (h : Q ((n : Int) - 1, -1, n) s) : wpAny (model prog w) A (Builtin.Slice.sliceApplied (.ref sl) (pure (n : Int))) Q E s := by
  obtain ⟨os, hos, hcs, hds⟩ := id hs
  unfold Builtin.Slice.sliceApplied Builtin.Slice.sliceFields
  refine wpAny_bind (wpAny_bind (wpAny_field hos hds (x := .none) rfl (wpAny_bind (wpAny_field hos hds (x := .none) rfl (wpAny_bind (wpAny_field hos hds (x := vs) rfl (wpAny_pure ?_)))))))
  refine wpAny_bind (HT.slicePart_ ps ?_)
  show wpAny _ _ (if ((-1 : Int) == 0) = true then _ else _) _ _ s
  rw [if_neg (by decide)]
  refine wpAny_bind (slicePart_none (wpAny_bind (slicePart_none (wpAny_bind (wpAny_pure ?_)))))
  show wpAny _ _ (pure ((n : Int) - 1, (-1 : Int), Builtin.Slice.slicePlaces ((n : Int) - 1) (-1) (-1))) _ _ s
  rw [places_back]
  exact wpAny_pure h
theorem getItem_tuple_back {t sl : Addr} {its : Array Value} {vs : Value} {Q : Value → Shared → Prop} (ht : IsTup s.heap t its) (hs : s.heap.IsSliceOf sl .none .none vs) (ps : IsPart vs (some (-1)))
    (h : Q (.ref s.heap.objs.size) { s with heap := s.heap.push { cls := .type "tuple", data := .seq its.toList.reverse.toArray } }) (hsz : its.size ≤ sizeLine) : wpAny (model prog w) A (getItem (.ref t) (.ref sl)) Q E s := by
  have hk : sizeOk (.seq its.toList.reverse.toArray) := by
    show its.toList.reverse.toArray.size ≤ sizeLine
    rw [List.size_toArray, List.length_reverse, Array.length_toList]
    exact hsz
  obtain ⟨os, hos, hcs, hds⟩ := id hs
  have hTs : s.TypeIs (.ref sl) "slice" := ⟨os, hos, hcs⟩
  unfold getItem
  try with_reducible refine wpAny_holding ?_
  first | refine wpAny_bind (wpAny_pure ?_) | skip
  refine wpAny_bind (wpAny_sequenceKey ht.typeIs (by decide) (wpAny_bind (wpAny_callSpecial?_slot (name := Str.ofString "__getitem__") ht.typeIs PyProof.Rows.slot_tuple_getitem (wpAny_call_entry PyProof.Rows.slot_tuple_getitem ht.typeIs entry_tuple_getitem ?_ (args_tuple_getitem _ _)))))
  show wpAny _ _ (Builtin.Tuple.tupleItemsOf (.ref t) >>= _) _ _ s
  refine wpAny_bind (tupleItemsOf_ ht (wpAny_bind (wpAny_typeOf hTs ?_)))
  rw [if_pos (by decide)]
  refine wpAny_bind (applied_back hs ps ?_)
  have hno : ¬ ((((its.size : Nat) : Int) - 1 == 0 && (-1 : Int) == 1 && its.size == its.size) = true) := fun q => by
    rw [Bool.and_eq_true, Bool.and_eq_true] at q
    exact absurd q.1.2 (by decide)
  show wpAny _ _ (if (((its.size : Nat) : Int) - 1 == 0 && (-1 : Int) == 1 && its.size == its.size) = true then _ else _) _ _ s
  rw [if_neg hno, pick_back]
  first
    | exact wpAny_bind (m := Builtin.Tuple.tupleExact _) (wpAny_newObj_type (wpAny_pure ⟨_, rfl, wpAny_pure h⟩) hk)
    | exact wpAny_bind (m := Builtin.Tuple.tupleExact _) (wpAny_newObj_type (wpAny_bind (wpAny_pure (wpAny_pure ⟨_, rfl, wpAny_pure h⟩))) hk)
    | exact wpAny_bind (wpAny_bind (m := Builtin.Tuple.tupleExact _) (wpAny_newObj_type (wpAny_pure (wpAny_pure ⟨_, rfl, wpAny_pure h⟩)) hk))
    | exact wpAny_bind (wpAny_bind (m := Builtin.Tuple.tupleExact _) (wpAny_newObj_type (wpAny_pure ⟨_, rfl, wpAny_pure h⟩) hk))
end
section
variable {X : Cx}
def tRevT (K : PySem.W.Frag) (te : TE) : TE := fun σ H Q => te σ H fun x H1 => ∃ a xs, x = .ref a ∧ SqT K H1 a xs ∧ ∀ p, H1 p = none → Q (.ref p) (upd H1 p (.tup xs.reverse))
theorem pe_revT {e : Expr} {te : TE} {k : Nat} {p1 p2 p3 pos : Pos} (he : PE X e te) : PE X (.Subscript e (.Slice none none (some (.UnaryOp .USub (.Constant (.int 1) k p1) p2)) p3) pos) (tRevT X.K te) := by
  refine ⟨fun pins s σ H Q I h => Subscript_ (thn (he.run pins s σ H _ I h) fun v s1 ⟨x, H1, I1, r1, q1⟩ => ?_)⟩
  obtain ⟨a, xs, rfl, hx, q⟩ := q1
  cases r1
  have hst : PO X (some (.UnaryOp .USub (.Constant (.int 1) k p1) p2)) (tPart (tUn (rU fun i => .int (-i)) (tC (.int 1)))) := po_some (pe_un un_neg pe_int)
  refine wpAny_Slice ?_
  rw [evalPart_none]
  refine wpAny_pure (wpAny_pure ?_)
  refine thn (hst.run pins s1 σ H1 (fun o H4 => o = some (-1) ∧ H4 = H1) I1 ⟨1, rfl, -1, rfl, rfl, rfl⟩) fun vs s4 ⟨o, H4, I4, ps, eo, e4⟩ => ?_
  subst eo e4
  have I5 : Inv X pins σ H4 { s4 with heap := s4.heap.push { cls := .type "slice", data := .fields #[.none, .none, vs] } } := I4.kept (t' := s4.toks) fun b ob q => Heap.get?_push_of_some _ q
  obtain ⟨its, r, ht, hz⟩ := I5.tuple hx
  show wpAny (model X.prog X.w) X.A (subscriptTail e (.Slice none none (some (.UnaryOp .USub (.Constant (.int 1) k p1) p2)) p3) (.ref a) (.ref s4.heap.objs.size)) (EP X pins σ Q) X.xe { s4 with heap := s4.heap.push { cls := .type "slice", data := .fields #[.none, .none, vs] } }
  refine tail_any (ops := [.ref a, .ref s4.heap.objs.size]) ht.typeIs (PyProof.Rows.slot_tuple_getitem.lookup) ?_ (by with_unfolding_all rfl)
  refine getItem_tuple_back ht (Heap.IsSliceOf.new _ .none .none vs) ps ?_ (by rw [List.size_toArray, ← r.length]; exact hz)
  refine ⟨.ref _, _, I5.laid (t' := s4.toks) (o := .tup xs.reverse) (fun b ob q => Heap.get?_push_of_some _ q) (Nat.le_refl _) ?_, rfl, q _ (I5.hok.fresh (Nat.le_refl _))⟩
  refine ⟨by rw [List.length_reverse]; exact hz, its.reverse, r.reverse, ?_⟩
  exact ⟨_, Heap.get?_push_size _ rfl, rfl, 0, rfl⟩
end
end Ln


set_option Elab.async false
set_option linter.all false
set_option maxRecDepth 100000
set_option maxHeartbeats 4000000
namespace Ln
open PySem PySem.Spec PyProof.Rows L2
/-! ### tuples that have no attributes of their own: what t.index(..) asks -/
def TupD (H : Hp) (a : Addr) (xs : List V) : Prop := ∃ ob : Obj, ob.dict = none ∧ H a = some (.frz ob (.tup xs))
theorem TupD.sq {K : PySem.W.Frag} {H : Hp} {a : Addr} {xs : List V} (h : TupD H a xs) : SqT K H a xs := by
  obtain ⟨ob, _, e⟩ := h
  exact .inl (.inr ⟨ob, e⟩)
theorem TupD.kp {Ps : List Addr} {H H1 : Hp} {a : Addr} {xs : List V} (h : TupD H a xs) (k : Kp Ps H H1) (hT : Tabs Ps H) : TupD H1 a xs := by
  obtain ⟨ob, d, e⟩ := h
  exact ⟨ob, d, k.at_ a _ e (tab_ne hT e fun q z => by cases z)⟩
theorem TupD.same {H H1 : Hp} {a : Addr} {xs : List V} (h : TupD H a xs) (k : L2.Same H H1) : TupD H1 a xs := by
  obtain ⟨ob, d, e⟩ := h
  exact ⟨ob, d, k _ _ e⟩
theorem TupD.of {H : Hp} {p : Addr} {ob : Obj} {xs : List V} (d : ob.dict = none) : TupD (upd H p (.frz ob (.tup xs))) p xs := ⟨ob, d, upd_same⟩
section
variable {X : Cx} {es : List Expr} {pos : Pos} {t : TA}
theorem objD {P : Program} {w : World} {H : Hp} {h : Heap} {xs : List V} {us : List Value} (hz : xs.length ≤ sizeLine) (r : Vals xs us) : ObjOk P w H (h.push { cls := .type "tuple", data := .seq us.toArray }) h.objs.size (.frz { cls := .type "tuple", data := .seq us.toArray } (.tup xs)) :=
  ⟨Heap.get?_push_size _ rfl, hz, us, r, ⟨_, Heap.get?_push_size _ rfl, rfl, _, rfl⟩⟩
def tTupD (t : TA) : TE := fun σ H Q => t σ H fun xs H1 => xs.length ≤ sizeLine ∧ ∀ (p : Addr) (ob : Obj), ob.dict = none → H1 p = none → Q (.ref p) (upd H1 p (.frz ob (.tup xs)))
theorem pe_tupD {x1} (h : PA X es t) : PE X (.Tuple es x1 pos) (tTupD t) := by
  refine ⟨fun pins s σ H Q I hq => ?_⟩
  refine wpAny_Tuple_spliced (thn (h.run pos pins s σ H _ I hq) fun us s1 ⟨xs, H1, I1, r, z, q⟩ => ⟨by rw [← r.length]; exact z, ?_⟩)
  have hf : H1 s1.heap.objs.size = none := I1.hok.fresh (Nat.le_refl _)
  exact ⟨.ref s1.heap.objs.size, _, I1.laid (t' := s1.toks) (fun b u e => Heap.get?_push_of_some _ e) (Nat.le_refl _) (objD z r), rfl, q _ _ rfl hf⟩
def rCatD (K : PySem.W.Frag) : R2 := fun x y H Q => ∃ a b xs ys, x = .ref a ∧ y = .ref b ∧ SqT K H a xs ∧ SqT K H b ys ∧ xs.length + ys.length ≤ sizeLine ∧
  (xs = [] → Q (.ref b) H) ∧ (xs ≠ [] → ys = [] → Q (.ref a) H) ∧ (xs ≠ [] → ys ≠ [] → ∀ (p : Addr) (ob : Obj), ob.dict = none → H p = none → Q (.ref p) (upd H p (.frz ob (.tup (xs ++ ys)))))
theorem op_catD : OpR X (binaryOp .Add) (rCatD X.K) := by
  intro pins s σ H x y v u Q I rx ry h
  obtain ⟨a, b, xs, ys, rfl, rfl, ha, hb, hz, q0, q1, q2⟩ := h
  cases rx
  cases ry
  obtain ⟨its, r1, p1, _⟩ := I.tuple ha
  obtain ⟨its2, r2, p2, _⟩ := I.tuple hb
  by_cases hx : xs = []
  · subst hx
    cases r1
    exact cat_tup0 p1 p2 ⟨.ref b, H, I, rfl, q0 rfl⟩
  · refine HT.cat_tup p1 p2 (fun z => hx (r1.nil_iff.mp z)) (fun z => ⟨.ref a, H, I, rfl, q1 hx (r2.nil_iff.mp z)⟩) (fun z => ?_) (by rw [← r1.length, ← r2.length]; exact hz)
    exact ⟨.ref s.heap.objs.size, _, I.laid (t' := s.toks) (fun b ob q => Heap.get?_push_of_some _ q) (Nat.le_refl _) (objD (by rw [List.length_append]; exact hz) (r1.append r2)), rfl, q2 hx (fun w => z (r2.nil_iff.mpr w)) _ _ rfl (I.hok.fresh (Nat.le_refl _))⟩
def rSlD (K : PySem.W.Frag) : V → Option Int → Option Int → Hp → VK → Prop := fun x lo hi H Q => ∃ a xs, x = .ref a ∧ SqT K H a xs ∧
  ¬ (HT.sIx xs.length 0 lo = 0 ∧ HT.sIx xs.length xs.length hi = xs.length) ∧ ∀ (p : Addr) (ob : Obj), ob.dict = none → H p = none → Q (.ref p) (upd H p (.frz ob (.tup (cutV xs lo hi))))
theorem sl_tupD : SlR X (rSlD X.K) := by
  intro pins s σ H x v vl vu lo hi sl Q I rx hs pl pu h
  obtain ⟨a, xs, rfl, hx, hw, q⟩ := h
  cases rx
  obtain ⟨its, r, ht, hz⟩ := I.tuple hx
  have hlen : its.toArray.size = xs.length := by rw [List.size_toArray]; exact r.length.symm
  refine ⟨"tuple", _, PyProof.Rows.slot_tuple_getitem.lookup, ht.typeIs, ?_⟩
  refine HT.getItem_tuple_cut ht hs pl pu (by rw [hlen]; exact hw) ?_ (by rw [hlen]; exact hz)
  rw [hlen]
  exact ⟨.ref s.heap.objs.size, _, I.laid (t' := s.toks) (fun b ob q => Heap.get?_push_of_some _ q) (Nat.le_refl _) (objD (xs := cutV xs lo hi) (Nat.le_trans (cutV_length xs lo hi) hz) ((r.drop (HT.sIx xs.length 0 lo)).take (HT.sIx xs.length xs.length hi - HT.sIx xs.length 0 lo))), rfl, q _ _ rfl (I.hok.fresh (Nat.le_refl _))⟩
theorem call_tuple_ofD : CallR X (.type "tuple") (fun xs H Q => ∃ p ys, xs = [.ref p] ∧ SqL X.K H p ys ∧ ∀ (l : Addr) (ob : Obj), ob.dict = none → H l = none → Q (.ref l) (upd H l (.frz ob (.tup ys)))) := by
  intro pins s σ H xs us Q I r h
  obtain ⟨p, ys, rfl, hq, q⟩ := h
  obtain ⟨u, rfl, rx⟩ := vals1 r
  cases rx
  obtain ⟨its, r', pl, hz⟩ := I.list hq
  have hlen := r'.length
  refine call_tuple_list pl.isList (fun h' kp => ?_) (by simp only [List.size_toArray] <;> omega)
  have I1 : Inv X pins σ H { s with heap := h' } := I.kept (t' := s.toks) kp
  exact ⟨.ref h'.objs.size, _, I1.laid (t' := s.toks) (fun b o e => Heap.get?_push_of_some _ e) (Nat.le_refl _) (objD hz r'), rfl, q _ _ rfl (I1.hok.fresh (Nat.le_refl _))⟩
def tRevD (K : PySem.W.Frag) (te : TE) : TE := fun σ H Q => te σ H fun x H1 => ∃ a xs, x = .ref a ∧ SqT K H1 a xs ∧ ∀ (p : Addr) (ob : Obj), ob.dict = none → H1 p = none → Q (.ref p) (upd H1 p (.frz ob (.tup xs.reverse)))
theorem pe_revD {e : Expr} {te : TE} {k : Nat} {p1 p2 p3 pos : Pos} (he : PE X e te) : PE X (.Subscript e (.Slice none none (some (.UnaryOp .USub (.Constant (.int 1) k p1) p2)) p3) pos) (tRevD X.K te) := by
  refine ⟨fun pins s σ H Q I h => Subscript_ (thn (he.run pins s σ H _ I h) fun v s1 ⟨x, H1, I1, r1, q1⟩ => ?_)⟩
  obtain ⟨a, xs, rfl, hx, q⟩ := q1
  cases r1
  have hst : PO X (some (.UnaryOp .USub (.Constant (.int 1) k p1) p2)) (tPart (tUn (rU fun i => .int (-i)) (tC (.int 1)))) := po_some (pe_un un_neg pe_int)
  refine wpAny_Slice ?_
  rw [evalPart_none]
  refine wpAny_pure (wpAny_pure ?_)
  refine thn (hst.run pins s1 σ H1 (fun o H4 => o = some (-1) ∧ H4 = H1) I1 ⟨1, rfl, -1, rfl, rfl, rfl⟩) fun vs s4 ⟨o, H4, I4, ps, eo, e4⟩ => ?_
  subst eo e4
  have I5 : Inv X pins σ H4 { s4 with heap := s4.heap.push { cls := .type "slice", data := .fields #[.none, .none, vs] } } := I4.kept (t' := s4.toks) fun b ob q => Heap.get?_push_of_some _ q
  obtain ⟨its, r, ht, hz⟩ := I5.tuple hx
  show wpAny (model X.prog X.w) X.A (subscriptTail e (.Slice none none (some (.UnaryOp .USub (.Constant (.int 1) k p1) p2)) p3) (.ref a) (.ref s4.heap.objs.size)) (EP X pins σ Q) X.xe { s4 with heap := s4.heap.push { cls := .type "slice", data := .fields #[.none, .none, vs] } }
  refine tail_any (ops := [.ref a, .ref s4.heap.objs.size]) ht.typeIs (PyProof.Rows.slot_tuple_getitem.lookup) ?_ (by with_unfolding_all rfl)
  refine getItem_tuple_back ht (Heap.IsSliceOf.new _ .none .none vs) ps ?_ (by rw [List.size_toArray, ← r.length]; exact hz)
  exact ⟨.ref _, _, I5.laid (t' := s4.toks) (fun b ob q => Heap.get?_push_of_some _ q) (Nat.le_refl _) (objD (xs := xs.reverse) (us := its.reverse) (by rw [List.length_reverse]; exact hz) r.reverse), rfl, q _ _ rfl (I5.hok.fresh (Nat.le_refl _))⟩
def tBMT (r : V → List V → Hp → VK → Prop) (to : TE) (t : TA) : TE := fun σ H Q => to σ H fun x H1 => (∃ a xs, x = .ref a ∧ TupD H1 a xs) ∧ t σ H1 fun xs H2 => r x xs H2 Q
theorem pe_bmT {o e : Expr} {es : List Expr} {to : TE} {t : TA} {name : Str} {apos cpos : Pos} {id : String} {r : V → List V → Hp → VK → Prop} (pa : PlainAttrs "tuple") (slot : Slot "tuple" name id) (hty : typeOf (.builtin id) = pure (.type "method_descriptor")) (hm : MtR X id r) (ho : PE X o to) (ha : PA X (e :: es) t)
    (hbase : attributeBase o name X.env (eval o X.env) = eval o X.env := by rfl)
    (hfew : ((backTo cpos (starEach (e :: es) X.env)).all (fun x => !x.1) && (backToKw cpos (keywordEach [] X.env)).all (fun x => x.1.isSome)
      && decide ((e :: es).length + ([] : List Keyword).length + (if ([] : List Keyword).isEmpty then 0 else 1) < 30)) = true := by rfl)
    (hline : (apos.endLine == cpos.line) = true := by rfl) (hs : starEach (e :: es) X.env = (false, eval e X.env) :: starEach es X.env := by rfl) (hplain : (backTo cpos (starEach es X.env)).any (·.1) = false := by rfl) :
    PE X (.Call (.Attribute o name apos) (e :: es) [] cpos) (tBMT r to t) := by
  refine ⟨fun pins s σ H Q I h => ?_⟩
  refine wpAny_Call_method_late hbase hfew hline rfl (thn (ho.run pins s σ H _ I h) fun v s1 ⟨x, H1, I1, r1, ⟨a, ys, ex, td⟩, q1⟩ => ?_)
  have hx : RelV x v := r1
  subst ex
  cases r1
  obtain ⟨its, _, ht, _⟩ := I1.tuple (td.sq (K := X.K))
  refine ⟨"tuple", id, pa, slot, hty, ht.typeIs, fun a' e' => ?_, ?_⟩
  · cases e'
    obtain ⟨ob, hd, e1⟩ := td
    exact ⟨ob, (I1.hok a _ e1).1, hd⟩
  have hA := ha.run cpos pins s1 σ H1 _ I1 q1
  rw [hs] at hA ⊢
  refine Calls.callWith_builtin (by show (false || (backTo cpos (starEach es X.env)).any (·.1)) = false; rw [hplain] <;> rfl) (Calls.evalArgs_plain ?_)
  exact thn hA fun us s2 ⟨vs, H2, I2, r2, q2⟩ => hm pins s2 σ H2 (.ref a) vs (.ref a) us Q I2 hx r2 q2
end
end Ln


set_option Elab.async false
set_option linter.all false
set_option maxRecDepth 100000
set_option maxHeartbeats 4000000
namespace Ln
open PySem PySem.Spec PyProof.Rows L2 GxR
theorem scArrSt : FnScope ["start", "log", "lane", "low", "high", "found", "moment", "event", "place"] ["start", "log", "lane"] (defScope sArrSt) := ⟨rfl, rfl, rfl, by decide +kernel, rfl, by decide +kernel, by decide +kernel⟩
/-- the side of a stayer -/
def sdV : Option Bool → V
  | none => .non
  | some true => .str "L"
  | some false => .str "R"
def stV (r : Str × Nat × Option Bool) : List V := [.str r.1, .int (r.2.1 : Nat), sdV r.2.2]
def StsT (H : Hp) (ts : List Addr) (rs : List (Str × Nat × Option Bool)) : Prop := Paired (fun t r => H t = some (.tup (stV r))) ts rs
theorem StsT.kt {H H' : Hp} {ts : List Addr} {rs : List (Str × Nat × Option Bool)} (h : StsT H ts rs) (k : KT H H') : StsT H' ts rs := Paired.imp h fun t r q => k t _ q
theorem StsT.kp {Ps : List Addr} {H H1 : Hp} {ts : List Addr} {rs : List (Str × Nat × Option Bool)} (h : StsT H ts rs) (k : Kp Ps H H1) (hT : Tabs Ps H) : StsT H1 ts rs := Paired.imp h fun t r q => k.tup hT q
/-- what stands in low and high -/
def LoR : Option Nat → Int → Int → Prop
  | none, _, h => h = 0
  | some l, lo, h => lo = l ∧ h ≠ 0
theorem first_at {F : List Str} {c : Str} (h : c ∈ F) : F[F.idxOf c]? = some c ∧ ∀ m, m < F.idxOf c → F[m]? ≠ some c := by
  have hl : F.idxOf c < F.length := List.idxOf_lt_length_of_mem h
  refine ⟨by rw [List.getElem?_eq_getElem hl, List.getElem_idxOf], fun m hm z => ?_⟩
  have hml : m < F.length := by omega
  rw [List.getElem?_eq_getElem hml] at z
  have := List.not_of_lt_findIdx (p := (· == c)) hm
  rw [Option.some.inj z] at this
  simp at this
section
variable {P : Program} {w : World} {K : PySem.W.Frag} {mg : Str → Option Value} {base : Heap} {Ps : List Addr}
def spArrSt (K : PySem.W.Frag) (Ps : List Addr) : Sp := fun vs H Q _ => ∃ (a l f : Addr) (xs : List Str) (as : List Addr) (es : List Ev) (F : List Str), vs = [.ref a, .ref l, .ref f] ∧ SqT K H a (xs.map V.str) ∧ LogAt K H l as es ∧ TupD H f (F.map V.str) ∧ F.length ≤ 400 ∧ Tabs Ps H ∧
  ∀ H' p ts, Kp Ps H H' → H p = none → H' p = some (.lst (ts.map V.ref)) → StsT H' ts (arrSt F (lo0 (brg F xs)) 1 es) → Q (.ref p) H'
theorem ok_arrSt {f fB : Addr} {fd fdB : FuncData} (F : Fun K "arriving_stayers" "arriving_stayers" sArrSt f fd) (B3 : Bn mg)
    (GB : FnOk P w K mg base CX0 1 fB fdB ["start", "cars"] (spBlockR K Ps)) (mgB : mg "block_range" = some (.ref fB)) (kB : PySem.W.keepIn K (.ref fB) = true) (bB : Binds K fdB ["start", "cars"] []) : FnOk P w K mg base CX0 2 f fd ["start", "log", "lane"] (spArrSt K Ps) := by
  refine F.ok scArrSt (fun vs H Q E h => ?_) (fun cdv A outer s H vs Q E hr h => ?_)
  · obtain ⟨a, l, f, xs, as, es, F, rfl, _⟩ := h
    rfl
  · obtain ⟨a, l, f, xs, as, es, F, rfl, hA, hE, hF, few, hT, q⟩ := h
    refine ⟨_, pss_cons (ps_asg (pe_call GB hr (by rfl) mgB kB bB .nil pass0 (pa_cons (pv 2) (pa_cons (pv 0) pa_nil))) (pg_tup (by rfl) (pgs_cons (pg_name (i := 3) scArrSt.nd rfl (.inl rfl)) (pgs_cons (pg_name (i := 4) scArrSt.nd rfl (.inl rfl)) pgs_nil))))
      (pss_cons (ps_set (i := 5) scArrSt.nd rfl (.inl rfl) (pe_lst pa_nil))
      (pss_cons (ps_for PassesOwn.never rfl (pi_enumF true 1 (by decide) (by decide) (by rfl) B3.enm (pa_cons (pv 1) (pa_cons pe_int pa_nil))) (pg_tup rfl (pgs_cons (pg_name (i := 6) scArrSt.nd rfl (.inl rfl)) (pgs_cons (pg_name (i := 7) scArrSt.nd rfl (.inl rfl)) pgs_nil)))
        (pss_cons (ps_if (PW.pt (pw_or (pt_cmpR op_eq (pe_ix ix_tup (pv 7) pe_int (fun _ _ => rfl)) pe_str (nomark _)) (pw_or1 (pt_cmpR op_notIn_seq (pe_ix ix_tup (pv 7) pe_int (fun _ _ => rfl)) (pv 2) (by rfl))))) (pss_one ps_continue) pss_nil)
        (pss_cons (ps_set (i := 8) scArrSt.nd rfl (.inl rfl) (pe_bmT PySem.F.plainAttrs_tuple PySem.F.slot_tuple_index PySem.F.type_tuple_index mt_tup_index (pv 2) (pa_cons (pe_ix ix_tup (pv 7) pe_int (fun _ _ => rfl)) pa_nil)))
        (pss_one (ps_if (pt_cmpR op_eq (pv 4) pe_int (nomark _))
          (pss_cons (ps_par (i := 3) (j := 4) (by rfl) scArrSt.nd rfl rfl (by decide) rfl rfl (pa_cons (pv 8) (pa_cons (pe_op op_add (pv 8) pe_int) pa_nil)) (by rfl))
            (pss_one (ps_expr (pe_bm PySem.F.plainAttrs_list PySem.F.slot_list_append PySem.F.type_list_append mt_append (pv 5) (pa_cons (pe_tup (pa_cons (pe_ix ix_tup (pv 7) pe_int (fun _ _ => rfl)) (pa_cons (pv 6) (pa_cons pe_non pa_nil)))) pa_nil)))))
          (pss_one (ps_expr (pe_bm PySem.F.plainAttrs_list PySem.F.slot_list_append PySem.F.type_list_append mt_append (pv 5) (pa_cons (pe_tup (pa_cons (pe_ix ix_tup (pv 7) pe_int (fun _ _ => rfl)) (pa_cons (pv 6) (pa_cons (pe_ifExp (pt_cmpR op_lt (pv 8) (pv 3) (nomark _)) pe_str pe_str) pa_nil)))) pa_nil)))))))))
      (pss_one (ps_ret (pv 5))))), ?_⟩
    refine ⟨.ref f, rfl, .ref a, rfl, f, a, F, xs, rfl, hF.sq, hA, few, hT, fun H1 p1 k1 hp1 hp1' => ⟨p1, _, rfl, SqT.of hp1', rfl, _, _, rfl, _, _, rfl, rfl, ?_⟩⟩
    refine ⟨Nat.zero_le _, fun o ho => ?_⟩
    have ho0 : H o = none := k1.free hT ho
    have k2 : Kp Ps H (L2.upd H1 o (.lst [])) := k1.upd hT ho0
    have hlen := Paired.length hE.evs
    have few2 := hE.few
    refine ⟨.ref l, rfl, l, as.map V.ref, rfl, (hE.kp k2 hT).at_, for_it (walk_enumA (K := K) (b := true) (k0 := 1) (a := l) (xs := as.map V.ref)) (fun i σ H' => ∃ (v6 v7 v8 : Option V) (lI hI : Int) (ts : List Addr) (acc : List (Str × Nat × Option Bool)) (lo : Option Nat),
      σ = [some (.ref a), some (.ref l), some (.ref f), some (.int lI), some (.int hI), some (.ref o), v6, v7, v8] ∧ Kp Ps H H' ∧ i ≤ es.length ∧ H' o = some (.lst (ts.map V.ref)) ∧ StsT H' ts acc ∧ arrSt F (lo0 (brg F xs)) 1 es = acc ++ arrSt F lo (i + 1) (es.drop i) ∧ acc.length ≤ i ∧ LoR lo lI hI) ?_ ?_ ?_ ?_⟩
    · refine ⟨none, none, none, _, _, [], [], lo0 (brg F xs), rfl, k2, Nat.zero_le _, upd_same, .nil, rfl, Nat.le_refl _, ?_⟩
      unfold lo0
      by_cases h : (brg F xs).2 = 0
      · rw [if_pos h]
        show (((brg F xs).2 : Nat) : Int) = 0
        omega
      · rw [if_neg h]
        exact ⟨rfl, by omega⟩
    · rintro i σ H' _ ⟨_, _, _, _, _, _, _, _, _, kp, _⟩
      exact (hE.kp kp hT).at_
    · rintro i x σ H1' H2' hi ⟨v6, v7, v8, lI, hI, ts, acc, lo, rfl, kp, hie, ho', hst, heq, hac, hlo⟩ ⟨T, y1, y2, rfl, hTn, rfl, e1, e2⟩
      obtain rfl := Option.some.inj e1
      have hlt : i < es.length := by
        rw [List.length_map] at hi
        omega
      have hev : es[i]? = some es[i] := List.getElem?_eq_getElem hlt
      have hT0 : H T = none := kp.free hT hTn
      have kp1 : Kp Ps H (L2.upd H1' T (.tup [.int (1 + (i : Nat)), y2])) := kp.upd hT hT0
      have noT : o ≠ T := ne_of_none ho' hTn
      have ho1 : (L2.upd H1' T (.tup [.int (1 + (i : Nat)), y2])) o = some (.lst (ts.map V.ref)) := by rw [upd_ne noT]; exact ho'
      have hst1 : StsT (L2.upd H1' T (.tup [.int (1 + (i : Nat)), y2])) ts acc := hst.kt (KT.upd fun xs e => by rw [hTn] at e; cases e)
      obtain ⟨b, hb, hbt⟩ := pair_at (hE.kp kp1 hT).evs i _ hev
      have hy : y2 = .ref b := by
        have e2 : (as.map V.ref)[i]? = some y2 := e2
        rw [List.getElem?_map, hb] at e2
        exact (Option.some.inj e2).symm
      subst hy
      have hdrop : es.drop i = es[i] :: es.drop (i + 1) := List.drop_eq_getElem_cons hlt
      rw [hdrop] at heq
      refine ⟨T, _, rfl, .inl (.inl upd_same), rfl, _, _, rfl, _, _, rfl, rfl, ?_⟩
      generalize L2.upd H1' T (.tup [.int (1 + (i : Nat)), .ref b]) = Ha at kp1 ho1 hst1 hbt ⊢
      cases hE2 : es[i] with
      | out =>
        rw [hE2] at hbt heq
        refine ⟨.ref b, rfl, b, _, 0, .str "out", rfl, rfl, hbt, atI_nat (j := 0) rfl, rfl, _, rfl, ?_⟩
        rw [decide_eq_true (rfl : V.str "out" = V.str "out")]
        refine iteT (iteT ?_)
        exact ⟨_, _, _, lI, hI, ts, acc, lo, rfl, kp1, hlt, ho1, hst1, heq, by omega, hlo⟩
      | inn c =>
        rw [hE2] at hbt heq
        refine ⟨.ref b, rfl, b, _, 0, .str "in", rfl, rfl, hbt, atI_nat (j := 0) rfl, rfl, _, rfl, ?_⟩
        rw [decide_eq_false (fun z => ne_io (V.str.inj z))]
        refine iteF ⟨.ref b, rfl, b, _, 1, .str c, rfl, rfl, hbt, atI_nat (j := 1) rfl, .ref f, rfl, f, _, rfl, .inr (hF.kp kp1 hT).sq, rfl, flat_strs F, _, rfl, ?_⟩
        show if (!inV (.str c) (F.map V.str)) = true then _ else _
        rw [inV_strs]
        by_cases hin : c ∈ F
        · rw [decide_eq_true hin]
          obtain ⟨hix, hno⟩ := first_at hin
          refine iteF ?_
          refine ⟨.ref f, rfl, ⟨f, _, rfl, hF.kp kp1 hT⟩, .ref b, rfl, b, _, 1, .str c, rfl, rfl, hbt, atI_nat (j := 1) rfl, f, F, c, F.idxOf c, rfl, rfl, (hF.kp kp1 hT).sq, hix, hno, ?_⟩
          have room : (ts.map V.ref).length < sizeLine := by
            rw [List.length_map, Paired.length hst1]
            exact small1000 (by omega)
          have em : (1 : Int) + (i : Nat) = ((i + 1 : Nat) : Int) := by omega
          cases lo with
          | none =>
            have hI0 : hI = 0 := hlo
            subst hI0
            have heq : arrSt F (lo0 (brg F xs)) 1 es = acc ++ (if c ∈ F then (c, i + 1, none) :: arrSt F (some (F.idxOf c)) (i + 1 + 1) (es.drop (i + 1)) else _) := heq
            rw [if_pos hin] at heq
            refine ⟨_, rfl, rfl, _, rfl, iteT ?_⟩
            refine ⟨_, rfl, _, rfl, _, _, rfl, rfl, _, _, rfl, ?_⟩
            refine ⟨.ref o, rfl, .inl ⟨rfl, _, SqL.of ho1⟩, .ref b, rfl, b, _, 1, .str c, rfl, rfl, hbt, atI_nat (j := 1) rfl, _, rfl, by show 3 ≤ sizeLine; decide, fun t ht => ?_⟩
            have ht0 : H t = none := kp1.free hT ht
            have not_ : o ≠ t := ne_of_none ho1 ht
            refine ⟨o, _, _, rfl, rfl, by rw [upd_ne not_]; exact ho1, room, ?_⟩
            refine ⟨_, _, _, _, _, ts ++ [t], acc ++ [(c, i + 1, none)], some (F.idxOf c), rfl, (kp1.upd hT ht0).upd hT ho0, hlt, ?_, ?_, ?_, ?_, rfl, ?_⟩
            · rw [upd_same, List.map_append]
              rfl
            · refine Paired.snoc ((hst1.kt (KT.upd fun xs e => by rw [ht] at e; cases e)).kt (KT.upd fun xs e => by rw [upd_ne not_, ho1] at e; cases e)) ?_
              show (L2.upd _ _ _) t = _
              rw [upd_ne not_.symm, upd_same, em]
              rfl
            · rw [heq, List.append_assoc]
              rfl
            · rw [List.length_append]
              show acc.length + 1 ≤ _
              omega
            · omega
          | some lw =>
            obtain ⟨rfl, hI0⟩ := hlo
            have heq : arrSt F (lo0 (brg F xs)) 1 es = acc ++ (if c ∈ F then (c, i + 1, some (decide (F.idxOf c < lw))) :: arrSt F (some lw) (i + 1 + 1) (es.drop (i + 1)) else _) := heq
            rw [if_pos hin] at heq
            refine ⟨_, rfl, rfl, _, rfl, ?_⟩
            rw [decide_eq_false (fun z => hI0 (V.int.inj z))]
            refine iteF ?_
            have fin : ∀ (Hb : Hp) (t : Addr), Ha t = none → Hb = L2.upd Ha t (.tup [.str c, .int (1 + (i : Nat)), sdV (some (decide (F.idxOf c < lw)))]) → ∀ v6 v7 v8 : Option V, ∃ (v6' v7' v8' : Option V) (lI' hI' : Int) (ts' : List Addr) (acc' : List (Str × Nat × Option Bool)) (lo' : Option Nat),
                [some (V.ref a), some (.ref l), some (.ref f), some (.int lw), some (.int hI), some (.ref o), v6, v7, v8] = [some (V.ref a), some (.ref l), some (.ref f), some (.int lI'), some (.int hI'), some (.ref o), v6', v7', v8'] ∧ Kp Ps H (L2.upd Hb o (.lst (ts.map V.ref ++ [V.ref t]))) ∧ i + 1 ≤ es.length ∧ (L2.upd Hb o (.lst (ts.map V.ref ++ [V.ref t]))) o = some (.lst (ts'.map V.ref)) ∧ StsT (L2.upd Hb o (.lst (ts.map V.ref ++ [V.ref t]))) ts' acc' ∧ arrSt F (lo0 (brg F xs)) 1 es = acc' ++ arrSt F lo' (i + 1 + 1) (es.drop (i + 1)) ∧ acc'.length ≤ i + 1 ∧ LoR lo' lI' hI' := fun Hb t ht e v6 v7 v8 => by
              subst e
              have ht0 : H t = none := kp1.free hT ht
              have not_ : o ≠ t := ne_of_none ho1 ht
              refine ⟨v6, v7, v8, _, _, ts ++ [t], acc ++ [(c, i + 1, some (decide (F.idxOf c < lw)))], some lw, rfl, (kp1.upd hT ht0).upd hT ho0, hlt, ?_, ?_, ?_, ?_, rfl, hI0⟩
              · rw [upd_same, List.map_append]
                rfl
              · refine Paired.snoc ((hst1.kt (KT.upd fun xs e => by rw [ht] at e; cases e)).kt (KT.upd fun xs e => by rw [upd_ne not_, ho1] at e; cases e)) ?_
                show (L2.upd _ _ _) t = _
                rw [upd_ne not_.symm, upd_same, em]
                rfl
              · rw [heq, List.append_assoc]
                rfl
              · rw [List.length_append]
                show acc.length + 1 ≤ _
                omega
            refine ⟨.ref o, rfl, .inl ⟨rfl, _, SqL.of ho1⟩, .ref b, rfl, b, _, 1, .str c, rfl, rfl, hbt, atI_nat (j := 1) rfl, _, rfl, _, rfl, _, rfl, _, _, rfl, rfl, _, rfl, ?_⟩
            by_cases hl : F.idxOf c < lw
            · rw [decide_eq_true (show ((F.idxOf c : Nat) : Int) < (lw : Nat) by omega)]
              refine iteT ⟨by show 3 ≤ sizeLine; decide, fun t ht => ?_⟩
              have not_ : o ≠ t := ne_of_none ho1 ht
              refine ⟨o, _, _, rfl, rfl, by rw [upd_ne not_]; exact ho1, room, ?_⟩
              exact fin _ t ht (by rw [decide_eq_true hl]; rfl) _ _ _
            · rw [decide_eq_false (show ¬ ((F.idxOf c : Nat) : Int) < (lw : Nat) by omega)]
              refine iteF ⟨by show 3 ≤ sizeLine; decide, fun t ht => ?_⟩
              have not_ : o ≠ t := ne_of_none ho1 ht
              refine ⟨o, _, _, rfl, rfl, by rw [upd_ne not_]; exact ho1, room, ?_⟩
              exact fin _ t ht (by rw [decide_eq_false hl]; rfl) _ _ _
        · rw [decide_eq_false hin]
          have heq : arrSt F (lo0 (brg F xs)) 1 es = acc ++ (if c ∈ F then _ else arrSt F lo (i + 1 + 1) (es.drop (i + 1))) := heq
          rw [if_neg hin] at heq
          refine iteT ?_
          exact ⟨_, _, _, lI, hI, ts, acc, lo, rfl, kp1, hlt, ho1, hst1, heq, by omega, hlo⟩
    · rintro σ H' ⟨v6, v7, v8, lI, hI, ts, acc, lo, rfl, kp, hie, ho', hst, heq, hac, hlo⟩
      rw [List.length_map, hlen, List.drop_length] at heq
      have heq : arrSt F (lo0 (brg F xs)) 1 es = acc ++ [] := heq
      rw [List.append_nil] at heq
      exact ⟨.ref o, rfl, q H' o ts kp ho0 ho' (by rw [heq]; exact hst)⟩
end
end Ln


set_option Elab.async false
set_option linter.all false
set_option maxRecDepth 100000
set_option maxHeartbeats 4000000
namespace Ln
open PySem PySem.Spec PyProof.Rows L2 GxR
theorem scSwitch : FnScope ["start", "log", "lane", "departed", "extra", "low", "high", "needed", "before", "since", "car", "moment", "side"] ["start", "log", "lane"] (defScope sSwitch) := ⟨rfl, rfl, rfl, by decide +kernel, rfl, by decide +kernel, by decide +kernel⟩
def bV : Option Str → V
  | none => .non
  | some c => .str c
theorem arrSt_mem {F : List Str} : ∀ {es : List Ev} {lo : Option Nat} {k : Nat}, ∀ r ∈ arrSt F lo k es, k ≤ r.2.1 ∧ r.2.1 < k + es.length
  | [], _, _, r, h => by cases h
  | .out :: q, lo, k, r, h => by
    have := arrSt_mem (es := q) (lo := lo) (k := k + 1) r h
    rw [List.length_cons]
    omega
  | .inn c :: q, lo, k, r, h => by
    have ih : ∀ lo', r ∈ arrSt F lo' (k + 1) q → k ≤ r.2.1 ∧ r.2.1 < k + (q.length + 1) := fun lo' h => by
      have := arrSt_mem (es := q) r h
      omega
    rw [List.length_cons]
    by_cases hc : c ∈ F
    · cases lo with
      | none =>
        have h : r ∈ (if c ∈ F then (c, k, none) :: arrSt F (some (F.idxOf c)) (k + 1) q else _) := h
        rw [if_pos hc] at h
        rcases List.mem_cons.mp h with e | h
        · rw [e]
          exact ⟨Nat.le_refl _, by show k < _; omega⟩
        · exact ih _ h
      | some l =>
        have h : r ∈ (if c ∈ F then (c, k, some (decide (F.idxOf c < l))) :: arrSt F (some l) (k + 1) q else _) := h
        rw [if_pos hc] at h
        rcases List.mem_cons.mp h with e | h
        · rw [e]
          exact ⟨Nat.le_refl _, by show k < _; omega⟩
        · exact ih _ h
    · have h : r ∈ (if c ∈ F then _ else arrSt F lo (k + 1) q) := h
      rw [if_neg hc] at h
      exact ih _ h
theorem ne_LR : ¬ ((Sum.inr ("L" : Str) : Key) = Sum.inr ("R" : Str)) := fun z => ne_RL (Sum.inr.inj z).symm
theorem nd_get (x y : V) : valV (mergeK [] [((Sum.inr ("L" : Str) : Key), x), (Sum.inr ("R" : Str), y)]) (Sum.inr "L") = some x ∧ valV (mergeK [] [((Sum.inr ("L" : Str) : Key), x), (Sum.inr ("R" : Str), y)]) (Sum.inr "R") = some y ∧ (mergeK [] [((Sum.inr ("L" : Str) : Key), x), (Sum.inr ("R" : Str), y)]).length ≤ 2 := by
  refine ⟨?_, ?_, (length_mergeK [((Sum.inr ("L" : Str) : Key), x), (Sum.inr ("R" : Str), y)] [] : _ ≤ 0 + 2)⟩
  · show valV (putK (putK ([] : List (Key × V)) (Sum.inr "L") x) (Sum.inr "R") y) _ = _
    rw [valV_put, if_neg ne_LR, valV_put, if_pos rfl]
  · show valV (putK (putK ([] : List (Key × V)) (Sum.inr "L") x) (Sum.inr "R") y) _ = _
    rw [valV_put, if_pos rfl]
theorem at_int {l : List Int} {m : Nat} (h : m < l.length) : atI (l.map V.int) ((m : Nat) : Int) = some (V.int (l.getD m 0)) := by
  refine atI_nat ?_
  rw [List.getElem?_map, List.getElem?_eq_getElem h, List.getD_eq_getElem?_getD, List.getElem?_eq_getElem h]
  rfl
section
variable {P : Program} {w : World} {K : PySem.W.Frag} {mg : Str → Option Value} {base : Heap} {Ps : List Addr}
def spSwitch (K : PySem.W.Frag) (Ps : List Addr) : Sp := fun vs H Q _ => ∃ (a l f : Addr) (xs : List Str) (as : List Addr) (es : List Ev) (F : List Str), vs = [.ref a, .ref l, .ref f] ∧ LaneAt K H a xs ∧ laneB xs = true ∧ LogAt K H l as es ∧ logB xs xs.length es = true ∧ TupD H f (F.map V.str) ∧ F.length ≤ 400 ∧ Tabs Ps H ∧
  (∀ H', Kp Ps H H' → swC xs es F = none → Q .non H') ∧ ∀ H' p b c, Kp Ps H H' → H p = none → swC xs es F = some (b, c) → H' p = some (.tup [.str "switch", bV b, .str c]) → Q (.ref p) H'
theorem ok_switch {f fD fX fB fA fO : Addr} {fd fdD fdX fdB fdA fdO : FuncData} (F : Fun K "switch_conflict" "switch_conflict" sSwitch f fd) (B : Bi mg)
    (GD : FnOk P w K mg base CX0 1 fD fdD ["log"] (spDepC K Ps)) (mgD : mg "departure_counts" = some (.ref fD)) (kD : PySem.W.keepIn K (.ref fD) = true) (bD : Binds K fdD ["log"] [])
    (GX : FnOk P w K mg base CX0 9 fX fdX ["start", "log", "cars"] (spExtras K Ps)) (mgX : mg "extras" = some (.ref fX)) (kX : PySem.W.keepIn K (.ref fX) = true) (bX : Binds K fdX ["start", "log", "cars"] [])
    (GB : FnOk P w K mg base CX0 1 fB fdB ["start", "cars"] (spBlockR K Ps)) (mgB : mg "block_range" = some (.ref fB)) (kB : PySem.W.keepIn K (.ref fB) = true) (bB : Binds K fdB ["start", "cars"] [])
    (GA : FnOk P w K mg base CX0 2 fA fdA ["start", "log", "lane"] (spArrSt K Ps)) (mgA : mg "arriving_stayers" = some (.ref fA)) (kA : PySem.W.keepIn K (.ref fA) = true) (bA : Binds K fdA ["start", "log", "lane"] [])
    (GO : FnOk P w K mg base CX0 1 fO fdO ["side"] spOpp) (mgO : mg "opposite" = some (.ref fO)) (kO : PySem.W.keepIn K (.ref fO) = true) (bO : Binds K fdO ["side"] []) : FnOk P w K mg base CX0 10 f fd ["start", "log", "lane"] (spSwitch K Ps) := by
  refine F.ok scSwitch (fun vs H Q E h => ?_) (fun cdv A outer s H vs Q E hr h => ?_)
  · obtain ⟨a, l, f, xs, as, es, F, rfl, _⟩ := h
    rfl
  · obtain ⟨a, l, f, xs, as, es, F, rfl, hL, hB, hE, hB2, hF, few, hT, qn, qs⟩ := h
    have hu := hu_of hr
    refine ⟨_, pss_cons (ps_set (i := 3) scSwitch.nd rfl (.inl rfl) (pe_call GD (hr.mono (by decide)) (by rfl) mgD kD bD .nil pass0 (pa_cons (pv 1) pa_nil)))
      (pss_cons (ps_set (i := 4) scSwitch.nd rfl (.inl rfl) (pe_call GX hr (by rfl) mgX kX bX .nil pass0 (pa_cons (pv 0) (pa_cons (pv 1) (pa_cons (pv 2) pa_nil)))))
      (pss_cons (ps_asg (pe_call GB (hr.mono (by decide)) (by rfl) mgB kB bB .nil pass0 (pa_cons (pv 0) (pa_cons (pv 2) pa_nil))) (pg_tup (by rfl) (pgs_cons (pg_name (i := 5) scSwitch.nd rfl (.inl rfl)) (pgs_cons (pg_name (i := 6) scSwitch.nd rfl (.inl rfl)) pgs_nil))))
      (pss_cons (ps_set (i := 7) scSwitch.nd rfl (.inl rfl) (pe_disp (pps_cons pe_str (pv 5) (pps_cons pe_str (pe_op op_sub (pe_callB call_len_seq (by rfl) B.len PySem.boot_len (pa_cons (pv 0) pa_nil)) (pv 6)) pps_nil)) (by rfl) (by rfl) (fun z => by cases z) (by decide)))
      (pss_cons (ps_set (i := 8) scSwitch.nd rfl (.inl rfl) pe_non)
      (pss_cons (ps_set (i := 9) scSwitch.nd rfl (.inl rfl) pe_int)
      (pss_cons (ps_for PassesOwn.never rfl (pi_list (pe_call GA (hr.mono (by decide)) (by rfl) mgA kA bA .nil pass0 (pa_cons (pv 0) (pa_cons (pv 1) (pa_cons (pv 2) pa_nil)))))
          (pg_tup rfl (pgs_cons (pg_name (i := 10) scSwitch.nd rfl (.inl rfl)) (pgs_cons (pg_name (i := 11) scSwitch.nd rfl (.inl rfl)) (pgs_cons (pg_name (i := 12) scSwitch.nd rfl (.inl rfl)) pgs_nil))))
        (pss_cons (ps_if (PW.pt (pw_and (pt_cmpR op_notN (pv 12) pe_non (nomark _)) (pw_and1 (pt_cmpR op_lt (pe_op op_sub (pe_ix ix_list (pv 3) (pv 11) (fun _ _ => rfl)) (pe_ix ix_list (pv 3) (pv 9) (fun _ _ => rfl))) (pe_dget hu (pv 7) (pv 12) (fun _ _ => rfl)) (nomark _)))))
            (pss_one (ps_ret (pe_tup (pa_cons pe_str (pa_cons (pv 8) (pa_cons (pv 10) pa_nil)))))) pss_nil)
        (pss_cons (ps_set (i := 7) scSwitch.nd rfl (.inl rfl) (pe_disp (pps_cons pe_str pe_int (pps_cons pe_str pe_int pps_nil)) (by rfl) (by rfl) (fun z => by cases z) (by decide)))
        (pss_cons (ps_if (pt_cmpR op_notN (pv 12) pe_non (nomark _)) (pss_one (ps_dput hu (pv 7) (pe_call GO (hr.mono (by decide)) (by rfl) mgO kO bO .nil pass0 (pa_cons (pv 12) pa_nil)) (pe_ix ix_list (pv 4) (pv 11) (fun _ _ => rfl)) rfl)) pss_nil)
        (pss_cons (ps_set (i := 8) scSwitch.nd rfl (.inl rfl) (pv 10))
        (pss_one (ps_set (i := 9) scSwitch.nd rfl (.inl rfl) (pv 11))))))))
      (pss_one (ps_ret pe_non)))))))), ?_⟩
    have few2 := hE.few
    -- departed, extra
    refine ⟨.ref l, rfl, l, as, es, rfl, hE, hT, fun H1 d k1 hd hd1 => ?_⟩
    refine ⟨.ref a, rfl, .ref l, rfl, .ref f, rfl, a, l, f, xs, as, es, F, rfl, hL.kp k1 hT, hB, hE.kp k1 hT, hB2, (hF.kp k1 hT).sq, k1.tab, fun H2 x k2' hx hx2 => ?_⟩
    have k2 := k1.trans k2'
    have hd2 := k2'.lst k1.tab hd1
    -- low, high
    refine ⟨.ref a, rfl, .ref f, rfl, a, f, xs, F, rfl, (hL.kp k2 hT).at_, (hF.kp k2 hT).sq, hL.few, k2.tab, fun H3 p k3' hp hp3 => ⟨p, _, rfl, SqT.of hp3, rfl, _, _, rfl, _, _, rfl, rfl, ?_⟩⟩
    have k3 := k2.trans k3'
    have hd3 := k3'.lst k2.tab hd2
    have hx3 := k3'.lst k2.tab hx2
    -- needed
    intro n hn
    have hn0 : H n = none := k3.free hT hn
    have k4a : Kp Ps H (L2.upd H3 n (.dK [])) := k3.upd hT hn0
    refine ⟨_, rfl, .ref a, rfl, a, _, rfl, .inr (hL.kp k4a hT).at_, _, rfl, _, _, rfl, rfl, upd_same, [(Sum.inr "L", .int (brg xs F).1), (Sum.inr "R", .int ((xs.length : Int) - (brg xs F).2))], ?_, (by show 2 ≤ 15; decide), ?_⟩
    · rw [List.length_map]
      rfl
    obtain ⟨g1, g2, g3⟩ := nd_get (.int (brg xs F).1) (.int ((xs.length : Int) - (brg xs F).2))
    generalize mergeK [] [((Sum.inr ("L" : Str) : Key), V.int (brg xs F).1), (Sum.inr "R", V.int ((xs.length : Int) - (brg xs F).2))] = kvs0 at g1 g2 g3 ⊢
    have k4 := k4a.upd (o := .dK kvs0) hT hn0
    have ndn : d ≠ n := ne_of_none hd3 hn
    have nxn : x ≠ n := ne_of_none hx3 hn
    have hd4 : (L2.upd (L2.upd H3 n (.dK [])) n (.dK kvs0)) d = some (.lst ((depL 0 es).map V.int)) := by rw [upd_ne ndn, upd_ne ndn]; exact hd3
    have hx4 : (L2.upd (L2.upd H3 n (.dK [])) n (.dK kvs0)) x = some (.lst ((ext0 xs F es).map V.int)) := by rw [upd_ne nxn, upd_ne nxn]; exact hx3
    have hn4 : (L2.upd (L2.upd H3 n (.dK [])) n (.dK kvs0)) n = some (.dK kvs0) := upd_same
    generalize L2.upd (L2.upd H3 n (.dK [])) n (.dK kvs0) = H4 at k4 hd4 hx4 hn4 ⊢
    have ndT : n ∉ Ps := fun z => by
      obtain ⟨ps, e, _⟩ := k4.tab n z
      rw [hn4] at e
      cases e
    -- the stayers that arrive
    refine ⟨.ref a, rfl, .ref l, rfl, .ref f, rfl, a, l, f, xs, as, es, F, rfl, (hL.kp k4 hT).at_, hE.kp k4 hT, hF.kp k4 hT, few, k4.tab, fun H5 u ts k5' hu0 hu5 hst => ?_⟩
    have k5 := k4.trans k5'
    have hd5 := k5'.lst k4.tab hd4
    have hx5 := k5'.lst k4.tab hx4
    have hn5 : H5 n = some (.dK kvs0) := k5'.at_ n _ hn4 ndT
    have hbd : ∀ r ∈ arrSt F (lo0 (brg F xs)) 1 es, r.2.1 ≤ es.length := fun r hr => by
      have := arrSt_mem r hr
      omega
    have hsw : swC xs es F = swF (depL 0 es) (ext0 xs F es) (brg xs F).1 ((xs.length : Int) - (brg xs F).2) none 0 (arrSt F (lo0 (brg F xs)) 1 es) := rfl
    generalize arrSt F (lo0 (brg F xs)) 1 es = rs at hst hbd hsw
    have hld : (depL 0 es).length = es.length + 1 := depL_len 0 es
    have hlx : (ext0 xs F es).length = es.length + 1 := extL_len _ _ es
    generalize depL 0 es = dep at hd5 hsw hld
    generalize ext0 xs F es = ex at hx5 hsw hlx
    have htl := Paired.length hst
    refine ⟨u, rfl, ⟨_, SqL.of hu5⟩, for_list (K := K) (a := u) (xs := ts.map V.ref) (fun i σ H' => ∃ (n : Addr) (kvs : List (Key × V)) (nL nR : Int) (b : Option Str) (sc : Nat) (v10 v11 v12 : Option V) (lI hI : V),
      σ = [some (.ref a), some (.ref l), some (.ref f), some (.ref d), some (.ref x), some lI, some hI, some (.ref n), some (bV b), some (.int (sc : Nat)), v10, v11, v12] ∧ Kp Ps H H' ∧ i ≤ ts.length ∧ H' d = some (.lst (dep.map V.int)) ∧ H' x = some (.lst (ex.map V.int)) ∧ H' u = some (.lst (ts.map V.ref)) ∧ StsT H' ts rs ∧
        H n = none ∧ H' n = some (.dK kvs) ∧ valV kvs (Sum.inr "L") = some (.int nL) ∧ valV kvs (Sum.inr "R") = some (.int nR) ∧ sc ≤ es.length ∧ swC xs es F = swF dep ex nL nR b sc (rs.drop i)) ?_ ?_ ?_ ?_⟩
    · exact ⟨n, kvs0, _, _, none, 0, none, none, none, _, _, rfl, k5, Nat.zero_le _, hd5, hx5, hu5, hst, hn0, hn5, g1, g2, Nat.zero_le _, hsw⟩
    · rintro i σ H' _ ⟨_, _, _, _, _, _, _, _, _, _, _, _, _, _, _, _, h, _⟩
      exact SqL.of h
    · rintro i y σ H' hi ⟨n, kvs, nL, nR, b, sc, v10, v11, v12, lI, hI, rfl, kp, hie, hd', hx', hu', hst', hn0, hn', gL, gR, hsc, hrest⟩
      have hlt : i < ts.length := by
        have h1 := (List.getElem?_eq_some_iff.mp hi).1
        rw [List.length_map] at h1
        omega
      have hlr : i < rs.length := by omega
      obtain ⟨t, htt, hty⟩ := pair_at hst' i _ (List.getElem?_eq_getElem hlr)
      have hy : y = .ref t := by
        rw [List.getElem?_map, htt] at hi
        exact (Option.some.inj hi).symm
      subst hy
      have hm := hbd _ (List.getElem_mem hlr)
      have hdrop : rs.drop i = rs[i] :: rs.drop (i + 1) := List.drop_eq_getElem_cons hlr
      rw [hdrop] at hrest
      generalize hr0 : rs[i] = r at hty hm hrest
      obtain ⟨c, m, sd⟩ := r
      have hm : m ≤ es.length := hm
      have hrest : swC xs es F = (if tooFew nL nR (dep.getD m 0 - dep.getD sc 0) sd = true then some (b, c) else swF dep ex (needL (ex.getD m 0) sd) (needR (ex.getD m 0) sd) (some c) m (rs.drop (i + 1))) := hrest
      have hty : H' t = some (.tup [.str c, .int (m : Nat), sdV sd]) := hty
      refine ⟨t, _, rfl, SqT.of hty, rfl, _, _, rfl, _, _, rfl, _, _, rfl, rfl, ?_⟩
      have hSd : SqL K H' d (dep.map V.int) := SqL.of hd'
      have hSx : SqL K H' x (ex.map V.int) := SqL.of hx'
      have fresh : ∀ (n2 : Addr) (kvs2 kvs3 : List (Key × V)), H' n2 = none → ∀ H2 : Hp, (H2 = L2.upd (L2.upd H' n2 (.dK [])) n2 (.dK kvs2) ∨ H2 = L2.upd (L2.upd (L2.upd H' n2 (.dK [])) n2 (.dK kvs3)) n2 (.dK kvs2)) →
          Kp Ps H H2 ∧ H2 d = some (.lst (dep.map V.int)) ∧ H2 x = some (.lst (ex.map V.int)) ∧ H2 u = some (.lst (ts.map V.ref)) ∧ StsT H2 ts rs ∧ H n2 = none ∧ H2 n2 = some (.dK kvs2) := fun n2 kvs2 kvs3 h2 H2 e2 => by
        have h20 : H n2 = none := kp.free hT h2
        have nd : d ≠ n2 := ne_of_none hd' h2
        have nx : x ≠ n2 := ne_of_none hx' h2
        have nu : u ≠ n2 := ne_of_none hu' h2
        have kt1 : KT H' (L2.upd H' n2 (.dK [])) := KT.upd fun xs e => by rw [h2] at e; cases e
        have kt2 : ∀ kv, KT (L2.upd H' n2 (.dK [])) (L2.upd (L2.upd H' n2 (.dK [])) n2 (.dK kv)) := fun kv => KT.upd fun xs e => by rw [upd_same] at e; cases e
        have kt3 : ∀ kv kv', KT (L2.upd (L2.upd H' n2 (.dK [])) n2 (.dK kv)) (L2.upd (L2.upd (L2.upd H' n2 (.dK [])) n2 (.dK kv)) n2 (.dK kv')) := fun kv kv' => KT.upd fun xs e => by rw [upd_same] at e; cases e
        rcases e2 with rfl | rfl
        · exact ⟨(kp.upd hT h20).upd hT h20, by rw [upd_ne nd, upd_ne nd]; exact hd', by rw [upd_ne nx, upd_ne nx]; exact hx', by rw [upd_ne nu, upd_ne nu]; exact hu', (hst'.kt kt1).kt (kt2 _), h20, upd_same⟩
        · exact ⟨((kp.upd hT h20).upd hT h20).upd hT h20, by rw [upd_ne nd, upd_ne nd, upd_ne nd]; exact hd', by rw [upd_ne nx, upd_ne nx, upd_ne nx]; exact hx', by rw [upd_ne nu, upd_ne nu, upd_ne nu]; exact hu', ((hst'.kt kt1).kt (kt2 _)).kt (kt3 _ _), h20, upd_same⟩
      have conf : tooFew nL nR (dep.getD m 0 - dep.getD sc 0) sd = true → ∀ p, H' p = none → Q (.ref p) (L2.upd H' p (.tup [.str "switch", bV b, .str c])) := fun ht p hp => by
        rw [if_pos ht] at hrest
        have hp0 : H p = none := kp.free hT hp
        exact qs _ p b c (kp.upd hT hp0) hp0 hrest upd_same
      cases sd with
      | none =>
        have hrest : swC xs es F = swF dep ex 0 0 (some c) m (rs.drop (i + 1)) := hrest
        refine ⟨_, rfl, rfl, _, rfl, iteF (iteF ?_)⟩
        intro n2 hn2
        refine ⟨upd_same, [(Sum.inr "L", .int 0), (Sum.inr "R", .int 0)], rfl, (by show 2 ≤ 15; decide), ?_⟩
        obtain ⟨g1, g2, g3⟩ := nd_get (.int 0) (.int 0)
        obtain ⟨f1, f2, f3, f4, f5, f6, f7⟩ := fresh n2 _ [] hn2 _ (.inl rfl)
        refine ⟨_, rfl, rfl, _, rfl, iteF ?_⟩
        refine ⟨_, rfl, _, rfl, ?_⟩
        exact ⟨n2, _, 0, 0, some c, m, _, _, _, _, _, rfl, f1, hlt, f2, f3, f4, f5, f6, f7, g1, g2, hm, hrest⟩
      | some sb =>
        cases sb with
        | true =>
          refine ⟨_, rfl, rfl, _, rfl, ?_⟩
          rw [decide_eq_false (show ¬ (sdV (some true) = V.non) from fun z => by cases z)]
          refine iteT ⟨.ref d, rfl, _, rfl, d, _, _, _, rfl, rfl, hSd, at_int (by omega), .ref d, rfl, _, rfl, d, _, _, _, rfl, rfl, hSd, at_int (by omega), _, _, rfl, rfl, .ref n, rfl, _, rfl, n, _, rfl, (by rw [← gL]; exact DGet.k (k := Sum.inr "L") hn'), _, _, rfl, rfl, _, rfl, ?_⟩
          refine ite2 (fun h => ?_) (fun h => ?_)
          · exact ⟨_, rfl, _, rfl, by show 3 ≤ sizeLine; decide, fun p hp => conf h p hp⟩
          · have ht : tooFew nL nR (dep.getD m 0 - dep.getD sc 0) (some true) = false := Bool.eq_false_iff.mpr h
            rw [ht] at hrest
            have hrest : swC xs es F = swF dep ex 0 (ex.getD m 0) (some c) m (rs.drop (i + 1)) := hrest
            intro n2 hn2
            refine ⟨upd_same, [(Sum.inr "L", .int 0), (Sum.inr "R", .int 0)], rfl, (by show 2 ≤ 15; decide), ?_⟩
            obtain ⟨g1, g2, g3⟩ := nd_get (.int 0) (.int 0)
            obtain ⟨f1, f2, f3, f4, f5, f6, f7⟩ := fresh n2 _ [] hn2 _ (.inl rfl)
            refine ⟨_, rfl, rfl, _, rfl, ?_⟩
            rw [decide_eq_false (show ¬ (sdV (some true) = V.non) from fun z => by cases z)]
            refine iteT ⟨.ref x, rfl, _, rfl, x, _, _, _, rfl, rfl, SqL.of f3, at_int (by omega), .ref n2, rfl, _, rfl, "L", rfl, ?_⟩
            rw [if_pos rfl]
            refine ⟨n2, _, rfl, DPut.k (k := Sum.inr "R") f7 (by exact Nat.lt_of_le_of_lt g3 (by decide)), ?_⟩
            obtain ⟨e1, e2, e3, e4, e5, e6, e7⟩ := fresh n2 (putK _ (Sum.inr "R") (.int (ex.getD m 0))) _ hn2 _ (.inr rfl)
            refine ⟨_, rfl, _, rfl, ?_⟩
            exact ⟨n2, _, 0, _, some c, m, _, _, _, _, _, rfl, e1, hlt, e2, e3, e4, e5, e6, e7, by rw [valV_put, if_neg ne_LR]; exact g1, by rw [valV_put, if_pos rfl], hm, hrest⟩
        | false =>
          refine ⟨_, rfl, rfl, _, rfl, ?_⟩
          rw [decide_eq_false (show ¬ (sdV (some false) = V.non) from fun z => by cases z)]
          refine iteT ⟨.ref d, rfl, _, rfl, d, _, _, _, rfl, rfl, hSd, at_int (by omega), .ref d, rfl, _, rfl, d, _, _, _, rfl, rfl, hSd, at_int (by omega), _, _, rfl, rfl, .ref n, rfl, _, rfl, n, _, rfl, (by rw [← gR]; exact DGet.k (k := Sum.inr "R") hn'), _, _, rfl, rfl, _, rfl, ?_⟩
          refine ite2 (fun h => ?_) (fun h => ?_)
          · exact ⟨_, rfl, _, rfl, by show 3 ≤ sizeLine; decide, fun p hp => conf h p hp⟩
          · have ht : tooFew nL nR (dep.getD m 0 - dep.getD sc 0) (some false) = false := Bool.eq_false_iff.mpr h
            rw [ht] at hrest
            have hrest : swC xs es F = swF dep ex (ex.getD m 0) 0 (some c) m (rs.drop (i + 1)) := hrest
            intro n2 hn2
            refine ⟨upd_same, [(Sum.inr "L", .int 0), (Sum.inr "R", .int 0)], rfl, (by show 2 ≤ 15; decide), ?_⟩
            obtain ⟨g1, g2, g3⟩ := nd_get (.int 0) (.int 0)
            obtain ⟨f1, f2, f3, f4, f5, f6, f7⟩ := fresh n2 _ [] hn2 _ (.inl rfl)
            refine ⟨_, rfl, rfl, _, rfl, ?_⟩
            rw [decide_eq_false (show ¬ (sdV (some false) = V.non) from fun z => by cases z)]
            refine iteT ⟨.ref x, rfl, _, rfl, x, _, _, _, rfl, rfl, SqL.of f3, at_int (by omega), .ref n2, rfl, _, rfl, "R", rfl, ?_⟩
            rw [if_neg ne_RL]
            refine ⟨n2, _, rfl, DPut.k (k := Sum.inr "L") f7 (by exact Nat.lt_of_le_of_lt g3 (by decide)), ?_⟩
            obtain ⟨e1, e2, e3, e4, e5, e6, e7⟩ := fresh n2 (putK _ (Sum.inr "L") (.int (ex.getD m 0))) _ hn2 _ (.inr rfl)
            refine ⟨_, rfl, _, rfl, ?_⟩
            exact ⟨n2, _, _, 0, some c, m, _, _, _, _, _, rfl, e1, hlt, e2, e3, e4, e5, e6, e7, by rw [valV_put, if_pos rfl], by rw [valV_put, if_neg (fun z => ne_LR z.symm)]; exact g2, hm, hrest⟩
    · rintro σ H' ⟨n, kvs, nL, nR, b, sc, v10, v11, v12, lI, hI, rfl, kp, hie, hd', hx', hu', hst', hn0, hn', gL, gR, hsc, hrest⟩
      rw [List.length_map, htl, List.drop_length] at hrest
      exact qn H' kp hrest
end
end Ln


set_option Elab.async false
set_option linter.all false
set_option maxRecDepth 100000
set_option maxHeartbeats 4000000
namespace Ln
open PySem PySem.Spec PyProof.Rows L2 GxR
theorem scWhyNot : FnScope ["start", "log", "lane", "peak", "moment"] ["start", "log", "lane"] (defScope sWhyNot) := ⟨rfl, rfl, rfl, by decide +kernel, rfl, by decide +kernel, by decide +kernel⟩
theorem scIsPoss : FnScope ["start", "log", "lane"] ["start", "log", "lane"] (defScope sIsPoss) := ⟨rfl, rfl, rfl, by decide +kernel, rfl, by decide +kernel, by decide +kernel⟩
/-- the reason as a tuple's items -/
def whyT : Why → Option (List V)
  | .ok => none
  | .cars => some [.str "cars"]
  | .block => some [.str "block"]
  | .order i => some [.str "order", .int (i : Nat)]
  | .moment t => some [.str "moment", .int (t : Nat)]
  | .switch b c => some [.str "switch", bV b, .str c]
def WhyV (H H' : Hp) (v : V) : Option (List V) → Prop
  | none => v = .non
  | some l => ∃ p, v = .ref p ∧ H p = none ∧ H' p = some (.tup l)
section
variable {P : Program} {w : World} {K : PySem.W.Frag} {mg : Str → Option Value} {base : Heap} {Ps : List Addr}
def spWhy (K : PySem.W.Frag) (Ps : List Addr) : Sp := fun vs H Q _ => ∃ (a l f : Addr) (xs : List Str) (as : List Addr) (es : List Ev) (F : List Str), vs = [.ref a, .ref l, .ref f] ∧ LaneAt K H a xs ∧ laneB xs = true ∧ LogAt K H l as es ∧ logB xs xs.length es = true ∧ LaneAt K H f F ∧ laneB F = true ∧ TupD H f (F.map V.str) ∧ Tabs Ps H ∧
  ∀ H' v, Kp Ps H H' → WhyV H H' v (whyT (why xs es F)) → Q v H'
theorem ok_why {f fR fC fB fP fN fM fX fS : Addr} {fd fdR fdC fdB fdP fdN fdM fdX fdS : FuncData} (F : Fun K "why_not" "why_not" sWhyNot f fd)
    (GR : FnOk P w K mg base CX0 8 fR fdR ["start", "log", "lane"] (spReqFin K Ps)) (mgR : mg "require_final_lane" = some (.ref fR)) (kR : PySem.W.keepIn K (.ref fR) = true) (bR : Binds K fdR ["start", "log", "lane"] [])
    (GC : FnOk P w K mg base CX0 9 fC fdC ["start", "log", "lane"] (spHasRC K Ps)) (mgC : mg "has_right_cars" = some (.ref fC)) (kC : PySem.W.keepIn K (.ref fC) = true) (bC : Binds K fdC ["start", "log", "lane"] [])
    (GB : FnOk P w K mg base CX0 2 fB fdB ["start", "lane"] (spHasBlk K Ps)) (mgB : mg "has_block" = some (.ref fB)) (kB : PySem.W.keepIn K (.ref fB) = true) (bB : Binds K fdB ["start", "lane"] [])
    (GP : FnOk P w K mg base CX0 1 fP fdP ["known", "lane"] (spFirstPk K Ps)) (mgP : mg "first_peak" = some (.ref fP)) (kP : PySem.W.keepIn K (.ref fP) = true) (bP : Binds K fdP ["known", "lane"] [])
    (GN : FnOk P w K mg base CX0 8 fN fdN ["start", "log"] (spNumbers K Ps)) (mgN : mg "numbers" = some (.ref fN)) (kN : PySem.W.keepIn K (.ref fN) = true) (bN : Binds K fdN ["start", "log"] [])
    (GM : FnOk P w K mg base CX0 1 fM fdM ["counts"] (spFirstNeg K Ps)) (mgM : mg "first_negative" = some (.ref fM)) (kM : PySem.W.keepIn K (.ref fM) = true) (bM : Binds K fdM ["counts"] [])
    (GX : FnOk P w K mg base CX0 9 fX fdX ["start", "log", "cars"] (spExtras K Ps)) (mgX : mg "extras" = some (.ref fX)) (kX : PySem.W.keepIn K (.ref fX) = true) (bX : Binds K fdX ["start", "log", "cars"] [])
    (GS : FnOk P w K mg base CX0 10 fS fdS ["start", "log", "lane"] (spSwitch K Ps)) (mgS : mg "switch_conflict" = some (.ref fS)) (kS : PySem.W.keepIn K (.ref fS) = true) (bS : Binds K fdS ["start", "log", "lane"] []) :
    FnOk P w K mg base CX0 11 f fd ["start", "log", "lane"] (spWhy K Ps) := by
  refine F.ok scWhyNot (fun vs H Q E h => ?_) (fun cdv A outer s H vs Q E hr h => ?_)
  · obtain ⟨a, l, f, xs, as, es, F, rfl, _⟩ := h
    rfl
  · obtain ⟨a, l, f, xs, as, es, F, rfl, hL, hB, hE, hB2, hF, hFB, hFD, hT, q⟩ := h
    refine ⟨_, pss_cons (ps_expr (pe_call GR (hr.mono (by decide)) (by rfl) mgR kR bR .nil pass0 (pa_cons (pv 0) (pa_cons (pv 1) (pa_cons (pv 2) pa_nil)))))
      (pss_cons (ps_if (pt_not (pt_val (pe_call GC (hr.mono (by decide)) (by rfl) mgC kC bC .nil pass0 (pa_cons (pv 0) (pa_cons (pv 1) (pa_cons (pv 2) pa_nil)))))) (pss_one (ps_ret (pe_tup (pa_cons pe_str pa_nil)))) pss_nil)
      (pss_cons (ps_if (pt_not (pt_val (pe_call GB (hr.mono (by decide)) (by rfl) mgB kB bB .nil pass0 (pa_cons (pv 0) (pa_cons (pv 2) pa_nil))))) (pss_one (ps_ret (pe_tup (pa_cons pe_str pa_nil)))) pss_nil)
      (pss_cons (ps_set (i := 3) scWhyNot.nd rfl (.inl rfl) (pe_call GP (hr.mono (by decide)) (by rfl) mgP kP bP .nil pass0 (pa_cons (pe_call GN (hr.mono (by decide)) (by rfl) mgN kN bN .nil pass0 (pa_cons (pv 0) (pa_cons (pv 1) pa_nil))) (pa_cons (pv 2) pa_nil))))
      (pss_cons (ps_if (pt_cmpR op_notN (pv 3) pe_non (nomark _)) (pss_one (ps_ret (pe_tup (pa_cons pe_str (pa_cons (pv 3) pa_nil))))) pss_nil)
      (pss_cons (ps_set (i := 4) scWhyNot.nd rfl (.inl rfl) (pe_call GM (hr.mono (by decide)) (by rfl) mgM kM bM .nil pass0 (pa_cons (pe_call GX (hr.mono (by decide)) (by rfl) mgX kX bX .nil pass0 (pa_cons (pv 0) (pa_cons (pv 1) (pa_cons (pv 2) pa_nil)))) pa_nil)))
      (pss_cons (ps_if (pt_cmpR op_notN (pv 4) pe_non (nomark _)) (pss_one (ps_ret (pe_tup (pa_cons pe_str (pa_cons (pv 4) pa_nil))))) pss_nil)
      (pss_one (ps_ret (pe_call GS hr (by rfl) mgS kS bS .nil pass0 (pa_cons (pv 0) (pa_cons (pv 1) (pa_cons (pv 2) pa_nil)))))))))))), ?_⟩
    have new : ∀ {H1 : Hp} {p : Addr} {ys : List V}, Kp Ps H H1 → H1 p = none → whyT (why xs es F) = some ys → Q (.ref p) (L2.upd H1 p (.tup ys)) := fun {H1 p ys} k hp e => by
      have hp0 : H p = none := k.free hT hp
      refine q _ _ (k.upd hT hp0) ?_
      rw [e]
      exact ⟨p, rfl, hp0, upd_same⟩
    -- the arguments
    refine ⟨.ref a, rfl, .ref l, rfl, .ref f, rfl, a, l, f, xs, as, es, F, rfl, hL, hB, hE, hB2, hF, hFB, hT, fun H1 k1 => ?_⟩
    -- cars
    refine ⟨.ref a, rfl, .ref l, rfl, .ref f, rfl, a, l, f, xs, as, es, F, rfl, hL.kp k1 hT, hB, hE.kp k1 hT, hB2, (hF.kp k1 hT).at_, k1.tab, fun H2 k2' => ⟨_, rfl, ?_⟩⟩
    have k2 := k1.trans k2'
    cases hc : carsOk xs es F with
    | false =>
      refine iteT ⟨by show 1 ≤ sizeLine; decide, fun p hp => new k2 hp ?_⟩
      unfold why
      rw [if_pos hc]
      rfl
    | true =>
    have w1 : why xs es F = if hasBlk xs F = false then .block else match fpk (F.map fun c => (xs ++ arrs es).idxOf c) with
      | some i => .order i
      | none => match fneg (ext0 xs F es) with
        | some t => .moment t
        | none => match swC xs es F with
          | some (b, c) => .switch b c
          | none => .ok := by
      unfold why
      rw [if_neg (by rw [hc]; decide)]
      try rfl
    refine iteF ?_
    -- block
    refine ⟨.ref a, rfl, .ref f, rfl, a, f, xs, F, rfl, (hL.kp k2 hT).at_, (hF.kp k2 hT).at_, hL.few, hF.few, carsOf hB, carsOf hFB, k2.tab, fun H3 k3' => ⟨_, rfl, ?_⟩⟩
    have k3 := k2.trans k3'
    cases hb : hasBlk xs F with
    | false =>
      refine iteT ⟨by show 1 ≤ sizeLine; decide, fun p hp => new k3 hp ?_⟩
      rw [w1, if_pos hb]
      rfl
    | true =>
    rw [if_neg (by rw [hb]; decide)] at w1
    refine iteF ?_
    -- order
    refine ⟨.ref a, rfl, .ref l, rfl, a, l, xs, as, es, rfl, hL.kp k3 hT, hB, hE.kp k3 hT, hB2, k3.tab, fun H4 kn k4' _ hkn => ?_⟩
    have k4 := k3.trans k4'
    have hall : ∀ c ∈ F, c ∈ xs ++ arrs es := fun c hcF => by
      unfold carsOk at hc
      rw [Bool.and_eq_true] at hc
      exact of_decide_eq_true (List.all_eq_true.mp hc.2 c hcF)
    refine ⟨.ref f, rfl, kn, f, xs ++ arrs es, F, rfl, SqL.of hkn, (hF.kp k4 hT).at_, hF.few, hall, k4.tab, fun H5 k5' => ?_⟩
    have k5 := k4.trans k5'
    cases hp : fpk (F.map fun c => (xs ++ arrs es).idxOf c) with
    | some i =>
      rw [hp] at w1
      refine ⟨_, rfl, rfl, _, rfl, ?_⟩
      rw [decide_eq_false (show ¬ (V.int ((i : Nat) : Int) = V.non) from fun z => by cases z)]
      refine iteT ⟨_, rfl, by show 2 ≤ sizeLine; decide, fun p hp => new k5 hp ?_⟩
      rw [w1]
      rfl
    | none =>
    rw [hp] at w1
    refine ⟨_, rfl, rfl, _, rfl, iteF ?_⟩
    -- moment
    refine ⟨.ref a, rfl, .ref l, rfl, .ref f, rfl, a, l, f, xs, as, es, F, rfl, hL.kp k5 hT, hB, hE.kp k5 hT, hB2, (hF.kp k5 hT).at_, k5.tab, fun H6 x k6' _ hx => ?_⟩
    have k6 := k5.trans k6'
    refine ⟨x, ext0 xs F es, rfl, SqL.of hx, k6.tab, fun H7 k7' => ?_⟩
    have k7 := k6.trans k7'
    cases hm : fneg (ext0 xs F es) with
    | some t =>
      have w1 : why xs es F = .moment t := by rw [w1]; show (match fneg (ext0 xs F es) with | some t => Why.moment t | none => match swC xs es F with | some (b, c) => .switch b c | none => .ok) = _; rw [hm]
      refine ⟨_, rfl, rfl, _, rfl, ?_⟩
      rw [decide_eq_false (show ¬ (V.int ((t : Nat) : Int) = V.non) from fun z => by cases z)]
      refine iteT ⟨_, rfl, by show 2 ≤ sizeLine; decide, fun p hp => new k7 hp ?_⟩
      rw [w1]
      rfl
    | none =>
    have w1 : why xs es F = (match swC xs es F with | some (b, c) => .switch b c | none => .ok) := by rw [w1]; show (match fneg (ext0 xs F es) with | some t => Why.moment t | none => match swC xs es F with | some (b, c) => .switch b c | none => .ok) = _; rw [hm]
    refine ⟨_, rfl, rfl, _, rfl, iteF ?_⟩
    -- switch
    refine ⟨.ref a, rfl, .ref l, rfl, .ref f, rfl, a, l, f, xs, as, es, F, rfl, hL.kp k7 hT, hB, hE.kp k7 hT, hB2, hFD.kp k7 hT, hF.few, k7.tab, fun H8 k8' hs => ?_, fun H8 p b c k8' hp hs hp8 => ?_⟩
    · refine q H8 _ (k7.trans k8') ?_
      rw [w1, hs]
      rfl
    · refine q H8 _ (k7.trans k8') ?_
      rw [w1, hs]
      exact ⟨p, rfl, k7.free hT hp, hp8⟩
def possB : Why → Bool
  | .ok => true
  | _ => false
def spPoss (K : PySem.W.Frag) (Ps : List Addr) : Sp := fun vs H Q _ => ∃ (a l f : Addr) (xs : List Str) (as : List Addr) (es : List Ev) (F : List Str), vs = [.ref a, .ref l, .ref f] ∧ LaneAt K H a xs ∧ laneB xs = true ∧ LogAt K H l as es ∧ logB xs xs.length es = true ∧ LaneAt K H f F ∧ laneB F = true ∧ TupD H f (F.map V.str) ∧ Tabs Ps H ∧
  ∀ H', Kp Ps H H' → Q (.bl (possB (why xs es F))) H'
theorem whyV_non {H H' : Hp} {v : V} {y : Why} (h : WhyV H H' v (whyT y)) : decide (v = .non) = possB y := by
  cases y with
  | ok => exact decide_eq_true h
  | cars => obtain ⟨p, rfl, _⟩ := h; rfl
  | block => obtain ⟨p, rfl, _⟩ := h; rfl
  | order i => obtain ⟨p, rfl, _⟩ := h; rfl
  | moment t => obtain ⟨p, rfl, _⟩ := h; rfl
  | switch b c => obtain ⟨p, rfl, _⟩ := h; rfl
theorem ok_poss {f fY : Addr} {fd fdY : FuncData} (F : Fun K "is_possible" "is_possible" sIsPoss f fd)
    (GY : FnOk P w K mg base CX0 11 fY fdY ["start", "log", "lane"] (spWhy K Ps)) (mgY : mg "why_not" = some (.ref fY)) (kY : PySem.W.keepIn K (.ref fY) = true) (bY : Binds K fdY ["start", "log", "lane"] []) :
    FnOk P w K mg base CX0 12 f fd ["start", "log", "lane"] (spPoss K Ps) := by
  refine F.ok scIsPoss (fun vs H Q E h => ?_) (fun cdv A outer s H vs Q E hr h => ?_)
  · obtain ⟨a, l, f, xs, as, es, F, rfl, _⟩ := h
    rfl
  · obtain ⟨a, l, f, xs, as, es, F, rfl, hL, hB, hE, hB2, hF, hFB, hFD, hT, q⟩ := h
    refine ⟨_, pss_one (ps_ret (pe_cmpR op_isN (pe_call GY hr (by rfl) mgY kY bY .nil pass0 (pa_cons (pv 0) (pa_cons (pv 1) (pa_cons (pv 2) pa_nil)))) pe_non (nomark _))), ?_⟩
    refine ⟨.ref a, rfl, .ref l, rfl, .ref f, rfl, a, l, f, xs, as, es, F, rfl, hL, hB, hE, hB2, hF, hFB, hFD, hT, fun H' v k hv => ⟨rfl, ?_⟩⟩
    rw [whyV_non hv]
    exact q H' k
end
end Ln


set_option Elab.async false
set_option linter.all false
set_option maxRecDepth 100000
set_option maxHeartbeats 2000000
namespace Ln
open PySem
/-! ### the block of a lane, said by its run -/
/-- the cars of the lane that are of the first lane -/
def runF (xs F : List Str) : List Str := F.filter fun c => decide (c ∈ xs)
/-- n of them from the place of c on -/
def from_ (L : List Str) (c : Str) (n : Nat) : List Str := (L.drop (L.idxOf c)).take n
theorem idx_midA {A M C : List Str} {c : Str} (h : c ∉ A) : (A ++ c :: M ++ C).idxOf c = A.length := by
  rw [List.append_assoc, List.idxOf_append, if_neg h, List.cons_append, List.idxOf_cons_self]
  omega
theorem from_mid {A M C : List Str} {c : Str} (h : c ∉ A) : from_ (A ++ c :: M ++ C) c (M.length + 1) = c :: M := by
  unfold from_
  rw [idx_midA h, List.append_assoc, List.drop_left]
  exact List.take_left' rfl
/-- a piece that is found again at its place -/
theorem from_cut {L run : List Str} {c : Str} {n : Nat} (h : from_ L c n = run) : L = L.take (L.idxOf c) ++ run ++ (L.drop (L.idxOf c)).drop n := by
  unfold from_ at h
  rw [List.append_assoc, ← h, List.take_append_drop, List.take_append_drop]
theorem filt_none {A xs : List Str} (h : ∀ x ∈ A, x ∉ xs) : A.filter (fun c => decide (c ∈ xs)) = [] := by
  rw [List.filter_eq_nil_iff]
  exact fun x hx => by simpa using h x hx
theorem filt_all {A xs : List Str} (h : ∀ x ∈ A, x ∈ xs) : A.filter (fun c => decide (c ∈ xs)) = A := by
  rw [List.filter_eq_self]
  exact fun x hx => by simpa using h x hx
theorem run_nil {xs F : List Str} (h : runF xs F = []) : hasBlk xs F = true := by
  have h1 : ∀ x ∈ F, x ∉ xs := fun x hx z => by
    have : x ∈ runF xs F := List.mem_filter.mpr ⟨hx, by simpa using z⟩
    rw [h] at this
    cases this
  have e1 : brg F xs = (0, 0) := by
    unfold brg
    rw [plcs_none h1]
    rfl
  have e2 : brg xs F = (0, 0) := by
    unfold brg
    rw [plcs_none fun x hx z => h1 x z hx]
    rfl
  unfold hasBlk
  rw [e1, e2]
  unfold cutN
  simp
theorem cutN_mid {A M C : List Str} : cutN (A ++ M ++ C) (A.length, A.length + M.length) = M := by
  unfold cutN
  rw [List.append_assoc, show A.length + M.length = A.length + M.length from rfl]
  rw [List.take_append, List.take_of_length_le (by omega), show A.length + M.length - A.length = M.length by omega, List.take_left, List.drop_left]
theorem blk_yes {xs F : List Str} {c : Str} {M : List Str} (hx : xs.Nodup) (hF : F.Nodup) (hr : runF xs F = c :: M) (h1 : from_ xs c (M.length + 1) = c :: M) (h2 : from_ F c (M.length + 1) = c :: M) : hasBlk xs F = true := by
  have both : ∀ x, x ∈ xs → x ∈ F → x ∈ c :: M := fun x h h' => by
    rw [← hr]
    exact List.mem_filter.mpr ⟨h', by simpa using h⟩
  have inx : ∀ x ∈ c :: M, x ∈ xs ∧ x ∈ F := fun x hx' => by
    rw [← hr] at hx'
    have := List.mem_filter.mp hx'
    exact ⟨by simpa using this.2, this.1⟩
  have go : ∀ (L S : List Str), L.Nodup → from_ L c (M.length + 1) = c :: M → (∀ x ∈ c :: M, x ∈ S) → (∀ x ∈ L, x ∈ S → x ∈ c :: M) → cutN L (brg L S) = c :: M := fun L S nd hf hS hb => by
    have e := from_cut hf
    generalize L.take (L.idxOf c) = A at e
    generalize (L.drop (L.idxOf c)).drop (M.length + 1) = C at e
    subst e
    rw [List.nodup_append, List.nodup_append] at nd
    obtain ⟨⟨_, _, d1⟩, _, d2⟩ := nd
    have b := brg_mid (A := A) (B := c :: M) (C := C) (S := S) (fun x hx z => d1 x hx x (hb x (by simp [hx]) z) rfl) hS (fun x hx z => d2 x (List.mem_append_right _ (hb x (by simp [hx]) z)) x hx rfl)
    rw [if_neg (List.cons_ne_nil _ _)] at b
    show cutN _ (brg _ S) = _
    rw [b]
    exact cutN_mid
  unfold hasBlk
  rw [go xs F hx h1 (fun x h => (inx x h).2) (fun x h h' => both x h h'), go F xs hF h2 (fun x h => (inx x h).1) (fun x h h' => both x h' h), decide_eq_true rfl]
theorem blk_no {xs F : List Str} {c : Str} {M : List Str} (hr : runF xs F = c :: M) (h : hasBlk xs F = true) : from_ xs c (M.length + 1) = c :: M ∧ from_ F c (M.length + 1) = c :: M := by
  have h := of_decide_eq_true h
  obtain ⟨A, N, C, e, hA, hC, hcut, _⟩ := brg_cut xs F
  obtain ⟨A', N', C', e', hA', hC', hcut', _⟩ := brg_cut F xs
  have hN : N = N' := by rw [← hcut, ← hcut', h]
  subst hN
  have hNx : ∀ x ∈ N, x ∈ xs := fun x hx => by rw [e]; simp [hx]
  have hrun : runF xs F = N := by
    unfold runF
    conv => lhs; rw [e']
    rw [List.filter_append, List.filter_append, filt_none hA', filt_none hC', filt_all hNx, List.nil_append, List.append_nil]
  rw [hr] at hrun
  subst hrun
  have c1 : c ∈ xs := hNx c List.mem_cons_self
  have c2 : c ∈ F := by rw [e']; simp
  refine ⟨?_, ?_⟩
  · conv => lhs; rw [e]
    exact from_mid fun z => hA c z c2
  · conv => lhs; rw [e']
    exact from_mid fun z => hA' c z c1
end Ln


set_option Elab.async false
set_option linter.all false
set_option maxRecDepth 100000
set_option maxHeartbeats 2000000
namespace Ln
open PySem
/-! ### the switch condition, stayer by stayer -/
/-- the arriving stayers, each with the place of its event -/
def lateF (F : List Str) : Nat → List Ev → List (Str × Nat)
  | _, [] => []
  | m, .out :: r => lateF F (m + 1) r
  | m, .inn c :: r => if c ∈ F then (c, m) :: lateF F (m + 1) r else lateF F (m + 1) r
def sdOf (F : List Str) (l : Nat) (p : Str × Nat) : Str × Nat × Option Bool := (p.1, p.2 + 1, some (decide (F.idxOf p.1 < l)))
theorem arr_some {F : List Str} {l : Nat} : ∀ (r : List Ev) (m : Nat), arrSt F (some l) (m + 1) r = (lateF F m r).map (sdOf F l)
  | [], _ => rfl
  | .out :: r, m => arr_some r (m + 1)
  | .inn c :: r, m => by
    show (if c ∈ F then _ else _) = (if c ∈ F then (c, m) :: lateF F (m + 1) r else lateF F (m + 1) r).map (sdOf F l)
    by_cases h : c ∈ F
    · rw [if_pos h, if_pos h, List.map_cons]
      show (c, m + 1, some (decide (F.idxOf c < l))) :: arrSt F (some l) (m + 1 + 1) r = _
      rw [arr_some r (m + 1)]
      rfl
    · rw [if_neg h, if_neg h]
      exact arr_some r (m + 1)
theorem arr_none {F : List Str} : ∀ (r : List Ev) (m : Nat), arrSt F none (m + 1) r = match lateF F m r with
    | [] => []
    | (c, k) :: t => (c, k + 1, none) :: t.map (sdOf F (F.idxOf c))
  | [], _ => rfl
  | .out :: r, m => arr_none r (m + 1)
  | .inn c :: r, m => by
    show (if c ∈ F then _ else _) = match (if c ∈ F then (c, m) :: lateF F (m + 1) r else lateF F (m + 1) r) with
      | [] => []
      | (c, k) :: t => (c, k + 1, none) :: t.map (sdOf F (F.idxOf c))
    by_cases h : c ∈ F
    · rw [if_pos h, if_pos h]
      show (c, m + 1, none) :: arrSt F (some (F.idxOf c)) (m + 1 + 1) r = _
      rw [arr_some r (m + 1)]
    · rw [if_neg h, if_neg h]
      exact arr_none r (m + 1)
/-- where the arriving stayers are: c arrives at place k -/
theorem late_at {F : List Str} : ∀ (r : List Ev) (m : Nat) (p : Str × Nat), p ∈ lateF F m r → m ≤ p.2 ∧ r[p.2 - m]? = some (.inn p.1) ∧ p.1 ∈ F
  | [], _, p, h => by cases h
  | .out :: r, m, p, h => by
    obtain ⟨h1, h2, h3⟩ := late_at r (m + 1) p h
    refine ⟨by omega, ?_, h3⟩
    rw [show p.2 - m = (p.2 - (m + 1)) + 1 by omega, List.getElem?_cons_succ]
    exact h2
  | .inn c :: r, m, p, h => by
    have h : p ∈ (if c ∈ F then (c, m) :: lateF F (m + 1) r else lateF F (m + 1) r) := h
    have go : p ∈ lateF F (m + 1) r → m ≤ p.2 ∧ (Ev.inn c :: r)[p.2 - m]? = some (.inn p.1) ∧ p.1 ∈ F := fun h => by
      obtain ⟨h1, h2, h3⟩ := late_at r (m + 1) p h
      refine ⟨by omega, ?_, h3⟩
      rw [show p.2 - m = (p.2 - (m + 1)) + 1 by omega, List.getElem?_cons_succ]
      exact h2
    split at h
    · rename_i hc
      rcases List.mem_cons.mp h with rfl | h
      · exact ⟨Nat.le_refl _, by rw [Nat.sub_self]; rfl, hc⟩
      · exact go h
    · exact go h
/-- the places go up -/
theorem late_up {F : List Str} : ∀ (r : List Ev) (m : Nat), (lateF F m r).Pairwise fun p q => p.2 < q.2
  | [], _ => .nil
  | .out :: r, m => late_up r (m + 1)
  | .inn c :: r, m => by
    show List.Pairwise _ (if c ∈ F then (c, m) :: lateF F (m + 1) r else lateF F (m + 1) r)
    split
    · refine .cons (fun q hq => ?_) (late_up r (m + 1))
      have := (late_at r (m + 1) q hq).1
      show m < q.2
      omega
    · exact late_up r (m + 1)
/-- departures between two moments -/
def outsN (es : List Ev) : Nat := (es.filter fun e => match e with | .out => true | _ => false).length
theorem dep_at : ∀ (es : List Ev) (d : Int) (i : Nat), i ≤ es.length → (depL d es).getD i 0 = d + outsN (es.take i)
  | [], d, i, h => by
    obtain rfl : i = 0 := by simpa using h
    show d = d + ((0 : Nat) : Int)
    omega
  | e :: r, d, 0, _ => by
    cases e with
    | inn c => show d = d + ((0 : Nat) : Int); omega
    | out => show d = d + ((0 : Nat) : Int); omega
  | .inn c :: r, d, i + 1, h => by
    show (depL d r).getD i 0 = d + outsN (.inn c :: r.take i)
    rw [dep_at r d i (by simpa using h)]
    rfl
  | .out :: r, d, i + 1, h => by
    show (depL (d + 1) r).getD i 0 = d + outsN (.out :: r.take i)
    rw [dep_at r (d + 1) i (by simpa using h)]
    show d + 1 + (outsN (r.take i) : Int) = d + ((outsN (r.take i) + 1 : Nat) : Int)
    omega
theorem late_len {F : List Str} : ∀ (r : List Ev) (m n : Nat), (lateF F m r).length = (lateF F n r).length
  | [], _, _ => rfl
  | .out :: r, m, n => late_len r (m + 1) (n + 1)
  | .inn c :: r, m, n => by
    show (if c ∈ F then (c, m) :: lateF F (m + 1) r else lateF F (m + 1) r).length = (if c ∈ F then (c, n) :: lateF F (n + 1) r else lateF F (n + 1) r).length
    split
    · rw [List.length_cons, List.length_cons, late_len r (m + 1) (n + 1)]
    · exact late_len r (m + 1) (n + 1)
/-- extra at a moment, by the number present and the stayers so far -/
theorem ext_at {F : List Str} : ∀ (es : List Ev) (n s : Int) (i : Nat), i ≤ es.length → (extL F (n - s) es).getD i 0 = (szs n es).getD i 0 - s - (lateF F 0 (es.take i)).length
  | [], n, s, i, h => by
    obtain rfl : i = 0 := by simpa using h
    show n - s = n - s - ((0 : Nat) : Int)
    omega
  | e :: r, n, s, 0, _ => by
    have e1 : (extL F (n - s) (e :: r)).getD 0 0 = n - s := by cases e <;> rfl
    have e2 : (szs n (e :: r)).getD 0 0 = n := by cases e <;> rfl
    rw [e1, e2]
    show n - s = n - s - ((0 : Nat) : Int)
    omega
  | .inn c :: r, n, s, i + 1, h => by
    have h' : i ≤ r.length := by simpa using h
    show (extL F (if c ∈ F then n - s else n - s + 1) r).getD i 0 = (szs (n + 1) r).getD i 0 - s - ((if c ∈ F then (c, 0) :: lateF F 1 (r.take i) else lateF F 1 (r.take i)).length : Int)
    by_cases hc : c ∈ F
    · rw [if_pos hc, if_pos hc, show n - s = n + 1 - (s + 1) by omega, ext_at r (n + 1) (s + 1) i h', List.length_cons, late_len (r.take i) 1 0]
      omega
    · rw [if_neg hc, if_neg hc, show n - s + 1 = n + 1 - s by omega, ext_at r (n + 1) s i h', late_len (r.take i) 1 0]
  | .out :: r, n, s, i + 1, h => by
    have h' : i ≤ r.length := by simpa using h
    show (extL F (n - s - 1) r).getD i 0 = (szs (n - 1) r).getD i 0 - s - ((lateF F 1 (r.take i)).length : Int)
    rw [show n - s - 1 = n - 1 - s by omega, ext_at r (n - 1) s i h', late_len (r.take i) 1 0]
/-- the j-th arriving stayer is the j-th until its own event -/
theorem late_nth {F : List Str} : ∀ (r : List Ev) (m j : Nat) (p : Str × Nat), (lateF F m r)[j]? = some p → (lateF F 0 (r.take (p.2 + 1 - m))).length = j + 1
  | [], _, j, p, h => by cases h
  | .out :: r, m, j, p, h => by
    have h : (lateF F (m + 1) r)[j]? = some p := h
    have h1 := (late_at r (m + 1) p (List.mem_of_getElem? h)).1
    have ih := late_nth r (m + 1) j p h
    rw [show p.2 + 1 - m = (p.2 + 1 - (m + 1)) + 1 by omega]
    show (lateF F 1 (r.take (p.2 + 1 - (m + 1)))).length = _
    rw [late_len _ 1 0]
    exact ih
  | .inn c :: r, m, j, p, h => by
    have h : (if c ∈ F then (c, m) :: lateF F (m + 1) r else lateF F (m + 1) r)[j]? = some p := h
    by_cases hc : c ∈ F
    · rw [if_pos hc] at h
      cases j with
      | zero =>
        obtain rfl : (c, m) = p := Option.some.inj h
        rw [show (c, m).2 + 1 - m = 1 by show m + 1 - m = 1; omega]
        show (if c ∈ F then (c, 0) :: lateF F 1 (r.take 0) else lateF F 1 (r.take 0)).length = 1
        rw [if_pos hc, List.take_zero]
        rfl
      | succ j =>
        have h : (lateF F (m + 1) r)[j]? = some p := h
        have h1 := (late_at r (m + 1) p (List.mem_of_getElem? h)).1
        have ih := late_nth r (m + 1) j p h
        rw [show p.2 + 1 - m = (p.2 + 1 - (m + 1)) + 1 by omega]
        show (if c ∈ F then (c, 0) :: lateF F 1 (r.take (p.2 + 1 - (m + 1))) else lateF F 1 (r.take (p.2 + 1 - (m + 1)))).length = j + 1 + 1
        rw [if_pos hc, List.length_cons, late_len _ 1 0, ih]
    · rw [if_neg hc] at h
      have h1 := (late_at r (m + 1) p (List.mem_of_getElem? h)).1
      have ih := late_nth r (m + 1) j p h
      rw [show p.2 + 1 - m = (p.2 + 1 - (m + 1)) + 1 by omega]
      show (if c ∈ F then (c, 0) :: lateF F 1 (r.take (p.2 + 1 - (m + 1))) else lateF F 1 (r.take (p.2 + 1 - (m + 1)))).length = j + 1
      rw [if_neg hc, late_len _ 1 0, ih]
end Ln


set_option Elab.async false
set_option linter.all false
set_option maxRecDepth 100000
set_option maxHeartbeats 2000000
namespace Ln
open PySem
/-! ### the moment, one by one; how many stayers the first lane has -/
theorem fneg_none {l : List Int} (h : ∀ j, j < l.length → ¬ l.getD j 0 < 0) : fneg l = none := by
  unfold fneg
  rw [List.findIdx?_eq_none_iff]
  intro x hx
  obtain ⟨i, hi, rfl⟩ := List.mem_iff_getElem.mp hx
  have := h i hi
  rw [List.getD_eq_getElem?_getD, List.getElem?_eq_getElem hi] at this
  simpa using this
theorem fneg_some {l : List Int} {k : Nat} (hk : k < l.length) (h : l.getD k 0 < 0) (hp : ∀ j, j < k → ¬ l.getD j 0 < 0) : fneg l = some k := by
  unfold fneg
  rw [List.findIdx?_eq_some_iff_getElem]
  have e : ∀ j (hj : j < l.length), l.getD j 0 = l[j] := fun j hj => by rw [List.getD_eq_getElem?_getD, List.getElem?_eq_getElem hj]; rfl
  refine ⟨hk, ?_, fun j hj => ?_⟩
  · rw [e k hk] at h
    simpa using h
  · have := hp j hj
    rw [e j (by omega)] at this
    simpa using this
theorem ext_len {F : List Str} : ∀ (es : List Ev) (x : Int), (extL F x es).length = es.length + 1
  | [], _ => rfl
  | .inn c :: r, x => by
    show (extL F _ r).length + 1 = r.length + 1 + 1
    rw [ext_len r]
  | .out :: r, x => by
    show (extL F _ r).length + 1 = r.length + 1 + 1
    rw [ext_len r]
theorem stay_run {xs F : List Str} (hx : xs.Nodup) (hF : F.Nodup) : stayN xs F = (runF xs F).length := by
  unfold stayN runF
  refine List.Perm.length_eq ((List.perm_ext_iff_of_nodup (hx.sublist List.filter_sublist) (hF.sublist List.filter_sublist)).mpr fun c => ?_)
  simp only [List.mem_filter, decide_eq_true_eq]
  exact And.comm
end Ln


set_option Elab.async false
set_option linter.all false
set_option maxRecDepth 100000
set_option maxHeartbeats 2000000
namespace Ln
open PySem
/-! ### the switch, as the law walks over the arriving stayers -/
theorem from_len {L : List Str} {c : Str} {M : List Str} (h : from_ L c (M.length + 1) = c :: M) : c ∈ L := by
  have : c ∈ from_ L c (M.length + 1) := by rw [h]; exact List.mem_cons_self
  unfold from_ at this
  exact List.mem_of_mem_drop (List.mem_of_mem_take this)
/-- where the block lies -/
theorem brg_from {L S : List Str} {c : Str} {M : List Str} (nd : L.Nodup) (hf : from_ L c (M.length + 1) = c :: M) (hS : ∀ x ∈ c :: M, x ∈ S) (hb : ∀ x ∈ L, x ∈ S → x ∈ c :: M) : brg L S = (L.idxOf c, L.idxOf c + (M.length + 1)) := by
  have hm := from_len hf
  have hle : L.idxOf c < L.length := List.idxOf_lt_length_of_mem hm
  have e := from_cut hf
  have hA : (L.take (L.idxOf c)).length = L.idxOf c := by rw [List.length_take]; omega
  generalize hAA : L.take (L.idxOf c) = A at e hA
  generalize (L.drop (L.idxOf c)).drop (M.length + 1) = C at e
  generalize L.idxOf c = i at hA hle ⊢
  subst e
  rw [List.nodup_append, List.nodup_append] at nd
  obtain ⟨⟨_, _, d1⟩, _, d2⟩ := nd
  have b := brg_mid (A := A) (B := c :: M) (C := C) (S := S) (fun x hx z => d1 x hx x (hb x (by simp [hx]) z) rfl) hS (fun x hx z => d2 x (List.mem_append_right _ (hb x (by simp [hx]) z)) x hx rfl)
  rw [if_neg (List.cons_ne_nil _ _), hA] at b
  exact b
theorem outs_len (es : List Ev) (a b : Nat) (h : a ≤ b) : (outsN (es.take b) : Int) - outsN (es.take a) = outsN ((es.take b).drop a) := by
  have e : es.take b = es.take a ++ (es.take b).drop a := by
    have := (List.take_append_drop a (es.take b)).symm
    rw [List.take_take, Nat.min_eq_left h] at this
    exact this
  have : outsN (es.take b) = outsN (es.take a) + outsN ((es.take b).drop a) := by
    conv => lhs; rw [e]
    unfold outsN
    rw [List.filter_append, List.length_append]
  omega
theorem outs_in {es : List Ev} {k : Nat} {c : Str} (h : es[k]? = some (.inn c)) : outsN (es.take (k + 1)) = outsN (es.take k) := by
  rw [List.take_add_one, h]
  unfold outsN
  rw [List.filter_append, List.length_append]
  rfl
theorem arr_at : ∀ {es : List Ev} {i : Nat} {c : Str}, es[i]? = some (.inn c) → c ∈ arrs es
  | [], i, c, h => by cases h
  | .inn d :: r, 0, c, h => by cases h; exact List.mem_cons_self
  | .out :: r, 0, c, h => by cases h
  | .inn d :: r, i + 1, c, h => List.mem_cons_of_mem _ (arr_at (es := r) (i := i) h)
  | .out :: r, i + 1, c, h => arr_at (es := r) (i := i) h
theorem arr_one : ∀ {es : List Ev} {i j : Nat} {c : Str}, (arrs es).Nodup → es[i]? = some (.inn c) → es[j]? = some (.inn c) → i = j
  | [], i, j, c, _, h, _ => by cases h
  | .out :: r, 0, _, c, _, h, _ => by cases h
  | .out :: r, _, 0, c, _, _, h => by cases h
  | .out :: r, i + 1, j + 1, c, n, h, h' => congrArg Nat.succ (arr_one (es := r) n h h')
  | .inn d :: r, 0, 0, c, _, _, _ => rfl
  | .inn d :: r, 0, j + 1, c, n, h, h' => by
    cases h
    exact absurd (arr_at (es := r) (i := j) h') (List.nodup_cons.mp n).1
  | .inn d :: r, i + 1, 0, c, n, h, h' => by
    cases h'
    exact absurd (arr_at (es := r) (i := i) h) (List.nodup_cons.mp n).1
  | .inn d :: r, i + 1, j + 1, c, n, h, h' => congrArg Nat.succ (arr_one (es := r) (List.nodup_cons.mp n).2 h h')
/-- what is needed before the j-th one: on the left, on the right, who was before, since when -/
def swSt (xs : List Str) (es : List Ev) (F : List Str) : Nat → Int × Int × Option Str × Nat
  | 0 => ((brg xs F).1, (xs.length : Int) - (brg xs F).2, none, 0)
  | j + 1 => match (arrSt F (lo0 (brg F xs)) 1 es)[j]? with
    | some (c, m, sd) => (needL ((ext0 xs F es).getD m 0) sd, needR ((ext0 xs F es).getD m 0) sd, some c, m)
    | none => (0, 0, none, 0)
def swR (xs : List Str) (es : List Ev) (F : List Str) (j : Nat) : Option (Option Str × Str) :=
  swF (depL 0 es) (ext0 xs F es) (swSt xs es F j).1 (swSt xs es F j).2.1 (swSt xs es F j).2.2.1 (swSt xs es F j).2.2.2 ((arrSt F (lo0 (brg F xs)) 1 es).drop j)
theorem sw_0 (xs : List Str) (es : List Ev) (F : List Str) : swC xs es F = swR xs es F 0 := rfl
theorem sw_end {xs : List Str} {es : List Ev} {F : List Str} {j : Nat} (h : (arrSt F (lo0 (brg F xs)) 1 es).length ≤ j) : swR xs es F j = none := by
  unfold swR
  rw [List.drop_eq_nil_of_le h]
  rfl
theorem sw_next {xs : List Str} {es : List Ev} {F : List Str} {j m : Nat} {c : Str} {sd : Option Bool} (h : (arrSt F (lo0 (brg F xs)) 1 es)[j]? = some (c, m, sd)) :
    swR xs es F j = if tooFew (swSt xs es F j).1 (swSt xs es F j).2.1 ((depL 0 es).getD m 0 - (depL 0 es).getD (swSt xs es F j).2.2.2 0) sd = true then some ((swSt xs es F j).2.2.1, c) else swR xs es F (j + 1) := by
  obtain ⟨hl, he⟩ := List.getElem?_eq_some_iff.mp h
  have e1 : swSt xs es F (j + 1) = (needL ((ext0 xs F es).getD m 0) sd, needR ((ext0 xs F es).getD m 0) sd, some c, m) := by
    show (match (arrSt F (lo0 (brg F xs)) 1 es)[j]? with | some (c, m, sd) => _ | none => _) = _
    rw [h]
  have e2 : swR xs es F (j + 1) = swF (depL 0 es) (ext0 xs F es) (needL ((ext0 xs F es).getD m 0) sd) (needR ((ext0 xs F es).getD m 0) sd) (some c) m ((arrSt F (lo0 (brg F xs)) 1 es).drop (j + 1)) := by
    unfold swR
    rw [e1]
  rw [e2]
  conv => lhs; unfold swR
  rw [List.drop_eq_getElem_cons hl, he]
  rfl
theorem tooF {α : Type} (nL nR g : Int) (b : Bool) (x y : α) : (if tooFew nL nR g (some b) = true then x else y) = if g < (if b = true then nL else nR) then x else y := by
  cases b with
  | true => unfold tooFew; simp only [decide_eq_true_eq, if_true]
  | false => unfold tooFew; simp only [decide_eq_true_eq, Bool.false_eq_true, if_false]
section
variable {xs F : List Str} {es : List Ev} {c0 : Str} {M : List Str}
theorem run_both (hr : runF xs F = c0 :: M) : (∀ x, x ∈ xs → x ∈ F → x ∈ c0 :: M) ∧ ∀ x ∈ c0 :: M, x ∈ xs ∧ x ∈ F :=
  ⟨fun x h h' => by rw [← hr]; exact List.mem_filter.mpr ⟨h', by simpa using h⟩, fun x hx' => by
    rw [← hr] at hx'
    have := List.mem_filter.mp hx'
    exact ⟨by simpa using this.2, this.1⟩⟩
theorem brg_runX (hx : xs.Nodup) (hr : runF xs F = c0 :: M) (hb : hasBlk xs F = true) : brg xs F = (xs.idxOf c0, xs.idxOf c0 + (M.length + 1)) :=
  brg_from hx (blk_no hr hb).1 (fun x h => ((run_both hr).2 x h).2) (fun x h h' => (run_both hr).1 x h h')
theorem brg_runF (hF : F.Nodup) (hr : runF xs F = c0 :: M) (hb : hasBlk xs F = true) : brg F xs = (F.idxOf c0, F.idxOf c0 + (M.length + 1)) :=
  brg_from hF (blk_no hr hb).2 (fun x h => ((run_both hr).2 x h).1) (fun x h h' => (run_both hr).1 x h' h)
theorem arr_run (hF : F.Nodup) (hr : runF xs F = c0 :: M) (hb : hasBlk xs F = true) : arrSt F (lo0 (brg F xs)) 1 es = (lateF F 0 es).map (sdOf F (F.idxOf c0)) := by
  rw [brg_runF hF hr hb]
  unfold lo0
  rw [if_neg (by show ¬ F.idxOf c0 + (M.length + 1) = 0; omega)]
  exact arr_some es 0
theorem run_brg0 (hr : runF xs F = []) : brg F xs = (0, 0) ∧ brg xs F = (0, 0) := by
  have h1 : ∀ x ∈ F, x ∉ xs := fun x hx z => by
    have : x ∈ runF xs F := List.mem_filter.mpr ⟨hx, by simpa using z⟩
    rw [hr] at this
    cases this
  refine ⟨?_, ?_⟩
  · unfold brg
    rw [plcs_none h1]
    rfl
  · unfold brg
    rw [plcs_none fun x hx z => h1 x z hx]
    rfl
theorem arr_nil (hr : runF xs F = []) : arrSt F (lo0 (brg F xs)) 1 es = match lateF F 0 es with
    | [] => []
    | (c, k) :: t => (c, k + 1, none) :: t.map (sdOf F (F.idxOf c)) := by
  rw [(run_brg0 hr).1]
  exact arr_none es 0
/-- the first stayers' place -/
def MidAt (xs : List Str) (es : List Ev) (F : List Str) (mid : Str) : Prop := (∃ M, runF xs F = mid :: M ∧ hasBlk xs F = true) ∨ (runF xs F = [] ∧ ∃ k, (lateF F 0 es)[0]? = some (mid, k))
theorem arr_length (hF : F.Nodup) (hb : hasBlk xs F = true) : (arrSt F (lo0 (brg F xs)) 1 es).length = (lateF F 0 es).length := by
  cases hr : runF xs F with
  | nil =>
    rw [arr_nil hr]
    cases lateF F 0 es with
    | nil => rfl
    | cons p t => obtain ⟨c, k⟩ := p; show (t.map _).length + 1 = t.length + 1; rw [List.length_map]
  | cons c M => rw [arr_run hF hr hb, List.length_map]
theorem arr_get {mid : Str} (hF : F.Nodup) (hm : MidAt xs es F mid) {j : Nat} {p : Str × Nat} (hp : (lateF F 0 es)[j]? = some p) : (arrSt F (lo0 (brg F xs)) 1 es)[j]? = some (if j = 0 ∧ runF xs F = [] then (p.1, p.2 + 1, none) else sdOf F (F.idxOf mid) p) := by
  rcases hm with ⟨M, hr, hb⟩ | ⟨hr, k, hk⟩
  · rw [arr_run hF hr hb, List.getElem?_map, hp, if_neg (fun z => by rw [hr] at z; cases z.2)]
    rfl
  · rw [arr_nil hr]
    cases hl : lateF F 0 es with
    | nil => rw [hl] at hp; cases hp
    | cons q t =>
      obtain ⟨c, m⟩ := q
      rw [hl] at hp hk
      cases hk
      cases j with
      | zero =>
        cases hp
        rw [if_pos ⟨rfl, hr⟩]
        rfl
      | succ j =>
        have hp : t[j]? = some p := hp
        show (t.map _)[j]? = _
        rw [List.getElem?_map, hp, if_neg (fun z => by cases z.1)]
        rfl
theorem dep_g {a b : Nat} (ha : a ≤ b) (hb : b ≤ es.length) : (depL 0 es).getD b 0 - (depL 0 es).getD a 0 = outsN ((es.take b).drop a) := by
  rw [dep_at es 0 b hb, dep_at es 0 a (by omega), ← outs_len es a b ha]
  omega
theorem late_ev {j : Nat} {p : Str × Nat} (hp : (lateF F 0 es)[j]? = some p) : es[p.2]? = some (.inn p.1) ∧ p.1 ∈ F ∧ p.2 < es.length := by
  obtain ⟨_, h2, h3⟩ := late_at es 0 p (List.mem_of_getElem? hp)
  rw [Nat.sub_zero] at h2
  exact ⟨h2, h3, (List.getElem?_eq_some_iff.mp h2).1⟩
theorem late_lt {i j : Nat} {p q : Str × Nat} (hp : (lateF F 0 es)[i]? = some p) (hq : (lateF F 0 es)[j]? = some q) (h : i < j) : p.2 < q.2 := by
  obtain ⟨hi, ei⟩ := List.getElem?_eq_some_iff.mp hp
  obtain ⟨hj, ej⟩ := List.getElem?_eq_some_iff.mp hq
  have := List.pairwise_iff_getElem.mp (late_up (F := F) es 0) i j hi hj h
  rw [ei, ej] at this
  exact this
theorem drop_in {k s : Nat} {c : Str} (h : es[k]? = some (.inn c)) (hs : s ≤ k) : outsN ((es.take (k + 1)).drop s) = outsN ((es.take k).drop s) := by
  have h1 := outs_len es s (k + 1) (by omega)
  have h2 := outs_len es s k hs
  rw [outs_in h] at h1
  omega
/-- the first one, beside a block -/
theorem sw_run0 {y : Str} {ky : Nat} (hx : xs.Nodup) (hF : F.Nodup) (hr : runF xs F = c0 :: M) (hb : hasBlk xs F = true) (h : (lateF F 0 es)[0]? = some (y, ky)) :
    swR xs es F 0 = if (outsN ((es.take ky).drop 0) : Int) < (if F.idxOf y < F.idxOf c0 then (xs.idxOf c0 : Int) else (xs.length : Int) - xs.idxOf c0 - (M.length + 1 : Nat)) then some (none, y) else swR xs es F 1 := by
  have ha := arr_get hF (.inl ⟨M, hr, hb⟩) h
  rw [if_neg (fun z => by rw [hr] at z; cases z.2)] at ha
  rw [sw_next ha]
  obtain ⟨h2, _, hlt⟩ := late_ev h
  have e : swSt xs es F 0 = ((xs.idxOf c0 : Int), (xs.length : Int) - (xs.idxOf c0 + (M.length + 1) : Nat), none, 0) := by
    show (((brg xs F).1 : Int), (xs.length : Int) - (brg xs F).2, (none : Option Str), 0) = _
    rw [brg_runX hx hr hb]
  rw [e]
  show (if tooFew (xs.idxOf c0 : Int) ((xs.length : Int) - (xs.idxOf c0 + (M.length + 1) : Nat)) ((depL 0 es).getD (ky + 1) 0 - (depL 0 es).getD 0 0) (some (decide (F.idxOf y < F.idxOf c0))) = true then some (none, y) else swR xs es F 1) = _
  rw [dep_g (Nat.zero_le _) (show ky + 1 ≤ es.length from hlt), drop_in h2 (Nat.zero_le _)]
  have e2 : (xs.length : Int) - (xs.idxOf c0 + (M.length + 1) : Nat) = (xs.length : Int) - xs.idxOf c0 - (M.length + 1 : Nat) := by omega
  rw [e2]
  rw [tooF]
  simp only [decide_eq_true_eq]
theorem sw_nil0 {y : Str} {ky : Nat} (hF : F.Nodup) (hr : runF xs F = []) (h : (lateF F 0 es)[0]? = some (y, ky)) : swR xs es F 0 = swR xs es F 1 := by
  have ha := arr_get hF (.inr ⟨hr, ky, h⟩) h
  rw [if_pos ⟨rfl, hr⟩] at ha
  rw [sw_next ha]
  rfl
/-- every later one -/
theorem sw_succ {mid x y : Str} {j kx ky : Nat} (hx : xs.Nodup) (hF : F.Nodup) (hn : (xs ++ arrs es).Nodup) (hm : MidAt xs es F mid) (h1 : (lateF F 0 es)[j]? = some (x, kx)) (h2 : (lateF F 0 es)[j + 1]? = some (y, ky)) :
    swR xs es F (j + 1) = if (outsN ((es.take ky).drop (kx + 1)) : Int) < (if x = mid ∨ decide (F.idxOf x < F.idxOf mid) = decide (F.idxOf y < F.idxOf mid) then 0 else (szs xs.length es).getD (kx + 1) 0 - (runF xs F).length - (j + 1 : Nat)) then some (some x, y) else swR xs es F (j + 2) := by
  have ha := arr_get hF hm h2
  rw [if_neg (fun z => by cases z.1)] at ha
  have hb := arr_get hF hm h1
  rw [sw_next ha]
  obtain ⟨e2, y2, l2⟩ := late_ev h2
  obtain ⟨e1, y1, l1⟩ := late_ev h1
  have l2 : ky < es.length := l2
  have l1 : kx < es.length := l1
  have lt : kx < ky := late_lt h1 h2 (Nat.lt_succ_self j)
  have ext : (ext0 xs F es).getD (kx + 1) 0 = (szs xs.length es).getD (kx + 1) 0 - (runF xs F).length - (j + 1 : Nat) := by
    rw [ext_at es (xs.length) (stayN xs F) (kx + 1) (by omega), stay_run hx hF]
    have := late_nth es 0 j (x, kx) h1
    rw [Nat.sub_zero] at this
    rw [this]
  -- who was before
  have est : ∀ sd, (arrSt F (lo0 (brg F xs)) 1 es)[j]? = some (x, kx + 1, sd) → swSt xs es F (j + 1) = (needL ((ext0 xs F es).getD (kx + 1) 0) sd, needR ((ext0 xs F es).getD (kx + 1) 0) sd, some x, kx + 1) := fun sd h => by
    show (match (arrSt F (lo0 (brg F xs)) 1 es)[j]? with | some (c, m, sd) => _ | none => _) = _
    rw [h]
  have eg : (depL 0 es).getD (ky + 1) 0 - (depL 0 es).getD (kx + 1) 0 = outsN ((es.take ky).drop (kx + 1)) := by
    rw [dep_g (by omega) (show ky + 1 ≤ es.length from l2), drop_in e2 (by omega)]
  by_cases q : j = 0 ∧ runF xs F = []
  · rw [if_pos q] at hb
    rw [est none hb]
    have hmx : x = mid := by
      rcases hm with ⟨M, hr, _⟩ | ⟨_, k, hk⟩
      · rw [hr] at q
        cases q.2
      · rw [q.1] at h1
        rw [h1] at hk
        cases hk
        rfl
    rw [if_pos (Or.inl hmx)]
    show (if tooFew 0 0 ((depL 0 es).getD (ky + 1) 0 - (depL 0 es).getD (kx + 1) 0) (some (decide (F.idxOf y < F.idxOf mid))) = true then some (some x, y) else swR xs es F (j + 2)) = _
    rw [eg, tooF, ite_self]
  · rw [if_neg q] at hb
    rw [est _ hb]
    have hmx : x ≠ mid := fun z => by
      subst z
      rcases hm with ⟨M, hr, _⟩ | ⟨hr, k, hk⟩
      · have h3 := ((run_both hr).2 x List.mem_cons_self).1
        exact (List.nodup_append.mp hn).2.2 x h3 x (arr_at e1) rfl
      · have e0 := (late_ev hk).1
        have : k = kx := arr_one (List.nodup_append.mp hn).2.1 e0 e1
        have h0 : j ≠ 0 := fun z => q ⟨z, hr⟩
        have := late_lt hk h1 (by omega)
        have : k < kx := this
        omega
    show (if tooFew (needL ((ext0 xs F es).getD (kx + 1) 0) (some (decide (F.idxOf x < F.idxOf mid)))) (needR ((ext0 xs F es).getD (kx + 1) 0) (some (decide (F.idxOf x < F.idxOf mid)))) ((depL 0 es).getD (ky + 1) 0 - (depL 0 es).getD (kx + 1) 0) (some (decide (F.idxOf y < F.idxOf mid))) = true then some (some x, y) else swR xs es F (j + 2)) = _
    rw [eg, ext]
    generalize (szs xs.length es).getD (kx + 1) 0 - (runF xs F).length - (j + 1 : Nat) = e
    rw [tooF]
    by_cases a : F.idxOf x < F.idxOf mid <;> by_cases b : F.idxOf y < F.idxOf mid <;> simp only [a, b, hmx, needL, needR, decide_true, decide_false, Bool.false_eq_true, Bool.true_eq_false, or_self, or_true, or_false, if_true, if_false]
end
end Ln


set_option Elab.async false
set_option linter.all false
set_option maxRecDepth 100000
set_option maxHeartbeats 8000000
namespace Ln
open PySem PySem.Spec PyProof.Rows L2 GxR
theorem scBuilt : FnScope ["bag", "widest", "most", "names", "size", "initial", "fresh", "lean", "entries", "k", "way", "departs"] ["bag", "widest", "most"] (defScope sBuilt) := ⟨rfl, rfl, rfl, by decide +kernel, rfl, by decide +kernel, by decide +kernel⟩
/-- never more than c cars -/
def Capd (c n : Nat) (es : List Ev) : Prop := ∀ j k, cnt n (es.take j) = some k → k ≤ c
theorem capd_snoc {c n : Nat} {es : List Ev} {e : Ev} (h : Capd c n es) (h2 : ∀ k, cnt n (es ++ [e]) = some k → k ≤ c) : Capd c n (es ++ [e]) := fun j k hk => by
  by_cases hj : j ≤ es.length
  · rw [List.take_append_of_le_length hj] at hk
    exact h j k hk
  · rw [List.take_of_length_le (by rw [List.length_append, List.length_singleton]; omega)] at hk
    exact h2 k hk
/-- what _law_built gives: the lane xs at t, the log es at o -/
structure Bt (H H' : Hp) (s t o : Addr) (xs : List Str) (as : List Addr) (es : List Ev) (widest most n m : Nat) (l' : List V) : Prop where
  ch : Ch s H H'
  t0 : H t = none
  o0 : H o = none
  t1 : TupD H' t (xs.map V.str)
  o1 : H' o = some (.lst (as.map V.ref))
  ev : EvT H' as es
  fr : ∀ a ∈ as, H a = none
  few1 : xs.length ≤ widest
  few2 : es.length ≤ most
  nd : (xs ++ arrs es).Nodup
  cars : ∀ x ∈ xs ++ arrs es, carB x = true
  ct : cnt xs.length es = some m
  cap : Capd (max 40 widest) xs.length es
  src : SrcV (n + (widest + 2 * most + 3)) l'
  s1 : H' s = some (.lst l')
  pool : ∀ x ∈ xs ++ arrs es, x ∈ poolL
def BtInv (H : Hp) (ob : Obj) (s0 nm t fr o : Addr) (n n0 widest most : Nat) (xs zs : List Str) (ln : Int) (c i : Nat) (σ : L2.St) (H' : Hp) : Prop := ∃ (l' : List V) (as : List Addr) (es : List Ev) (k m : Nat) (v9 v10 v11 : Option V),
  σ = [some (.ref s0), some (.int (widest : Nat)), some (.int (most : Nat)), some (.ref nm), some (.int (m : Nat)), some (.ref t), some (.ref fr), some (.int ln), some (.ref o), v9, v10, v11] ∧ Ch s0 H H' ∧ i ≤ c ∧ H' s0 = some (.lst l') ∧ SrcV (n + i) l' ∧ H' t = some (.frz ob (.tup (xs.map V.str))) ∧ H' fr = some (.lst ((zs.drop k).map V.str)) ∧
  H' o = some (.lst (as.map V.ref)) ∧ EvT H' as es ∧ (∀ a ∈ as, H a = none) ∧ es.length ≤ i ∧ k ≤ i ∧ arrs es = zs.take k ∧ cnt n0 es = some m ∧ Capd (max 40 widest) n0 es
theorem ix4 (b0 b1 b2 b3 : Bool) {r : Int} (h0 : 0 ≤ r) (h4 : r < 4) : ∃ b : Bool, atI [V.bl b0, .bl b1, .bl b2, .bl b3] r = some (.bl b) := by
  have : r = 0 ∨ r = 1 ∨ r = 2 ∨ r = 3 := by omega
  rcases this with rfl | rfl | rfl | rfl
  · exact ⟨b0, atI_nat (j := 0) rfl⟩
  · exact ⟨b1, atI_nat (j := 1) rfl⟩
  · exact ⟨b2, atI_nat (j := 2) rfl⟩
  · exact ⟨b3, atI_nat (j := 3) rfl⟩
theorem cut_pre {xs : List V} {c : Nat} : cutV xs none (some (c : Int)) = xs.take c := by
  unfold cutV
  rw [HT.sIx_none, List.drop_zero, Nat.sub_zero, show HT.sIx xs.length xs.length (some (c : Int)) = min c xs.length from HT.sIx_nat _ _ c]
  by_cases h : c ≤ xs.length
  · rw [Nat.min_eq_left h]
  · rw [Nat.min_eq_right (by omega), List.take_of_length_le (Nat.le_refl _), List.take_of_length_le (by omega)]
section
variable {P : Program} {w : World} {K : PySem.W.Frag} {mg : Str → Option Value} {base : Heap} {Ps : List Addr}
def spBuilt : Sp := fun vs H Q _ => ∃ (s : Addr) (l : List V) (n widest most : Nat), vs = [.ref s, .int (widest : Nat), .int (most : Nat)] ∧ H s = some (.lst l) ∧ SrcV n l ∧ n + 1000 ≤ 1000000 ∧ widest + most ≤ 190 ∧
  ∀ (H' : Hp) (p t o : Addr) (xs : List Str) (as : List Addr) (es : List Ev) (m : Nat) (l' : List V), Bt H H' s t o xs as es widest most n m l' → H p = none → H' p = some (.tup [.ref t, .ref o]) → Q (.ref p) H'
theorem ok_built {f fT fN : Addr} {fd fdT fdN : FuncData} (F : Fun K "_law_built" "_law_built" sBuilt f fd) (B : Bi mg) (B2 : Bl mg)
    (GT : FnOk P w K mg base CX0 1 fT fdT ["bag", "limit"] spTake) (mgT : mg "_law_take" = some (.ref fT)) (kT : PySem.W.keepIn K (.ref fT) = true) (bT : Binds K fdT ["bag", "limit"] [])
    (GN : FnOk P w K mg base CX0 2 fN fdN ["bag", "many"] spNames) (mgN : mg "_law_names" = some (.ref fN)) (kN : PySem.W.keepIn K (.ref fN) = true) (bN : Binds K fdN ["bag", "many"] []) : FnOk P w K mg base CX0 3 f fd ["bag", "widest", "most"] spBuilt := by
  refine F.ok scBuilt (fun vs H Q E h => ?_) (fun cdv A outer s H vs Q E hr h => ?_)
  · obtain ⟨s0, l, n, widest, most, rfl, _⟩ := h
    rfl
  · obtain ⟨s0, l, n, widest, most, rfl, hs, hl, hn, hwm, q⟩ := h
    have hr1 := hr.mono (show 1 ≤ 2 by decide)
    refine ⟨_, pss_cons (ps_set (i := 3) scBuilt.nd rfl (.inl rfl) (pe_call GN hr (by rfl) mgN kN bN .nil pass0 (pa_cons (pv 0) (pa_cons (pe_op op_add (pv 1) (pv 2)) pa_nil))))
      (pss_cons (ps_set (i := 4) scBuilt.nd rfl (.inl rfl) (pe_call GT hr1 (by rfl) mgT kT bT .nil pass0 (pa_cons (pv 0) (pa_cons (pe_op op_add (pv 1) pe_int) pa_nil))))
      (pss_cons (ps_par (i := 5) (j := 6) (by rfl) scBuilt.nd rfl rfl (by decide) rfl rfl (pa_cons (pe_callTy call_tuple_ofD (by rfl) B.tup (by decide +kernel) (pa_cons (pe_slice sl_list (pv 3) po_none (po_some (pv 4))) pa_nil)) (pa_cons (pe_slice sl_list (pv 3) (po_some (pv 4)) po_none) pa_nil)) (by rfl))
      (pss_cons (ps_set (i := 7) scBuilt.nd rfl (.inl rfl) (pe_call GT hr1 (by rfl) mgT kT bT .nil pass0 (pa_cons (pv 0) (pa_cons pe_int pa_nil))))
      (pss_cons (ps_set (i := 8) scBuilt.nd rfl (.inl rfl) (pe_lst pa_nil))
      (pss_cons (ps_for PassesOwn.never rfl (pi_range1 (by rfl) B2.rng (pa_cons (pe_call GT hr1 (by rfl) mgT kT bT .nil pass0 (pa_cons (pv 0) (pa_cons (pe_op op_add (pv 2) pe_int) pa_nil))) pa_nil)) (pg_name (i := 9) scBuilt.nd rfl (.inl rfl))
        (pss_cons (ps_set (i := 10) scBuilt.nd rfl (.inl rfl) (pe_call GT hr1 (by rfl) mgT kT bT .nil pass0 (pa_cons (pv 0) (pa_cons pe_int pa_nil))))
        (pss_cons (ps_set (i := 11) scBuilt.nd rfl (.inl rfl) (pe_ix ix_list (pe_lst (pa_cons (pe_cmpR op_lt (pv 10) pe_int (nomark _)) (pa_cons (pe_cmpR op_lt (pv 10) pe_int (nomark _)) (pa_cons (pe_cmpR op_eq (pe_op op_mod (pe_op op_fdiv (pv 9) pe_int) pe_int) pe_int (nomark _)) (pa_cons (pe_cmpR op_lt (pv 10) pe_int (nomark _)) pa_nil))))) (pv 7) (fun _ _ => rfl)))
        (pss_one (ps_if (PW.pt (pw_and (pt_cmpR op_gt (pv 4) pe_int (nomark _)) (pw_and1 (PW.pt (pw_or (pt_val (pv 11)) (pw_or1 (pt_cmpR op_gt (pv 4) pe_int (nomark _))))))))
          (pss_cons (ps_expr (pe_bm PySem.F.plainAttrs_list PySem.F.slot_list_append PySem.F.type_list_append mt_append (pv 8) (pa_cons (pe_tup (pa_cons pe_str pa_nil)) pa_nil)))
            (pss_one (ps_set (i := 4) scBuilt.nd rfl (.inl rfl) (pe_op op_sub (pv 4) pe_int))))
          (pss_cons (ps_expr (pe_bm PySem.F.plainAttrs_list PySem.F.slot_list_append PySem.F.type_list_append mt_append (pv 8) (pa_cons (pe_tup (pa_cons pe_str (pa_cons (pe_bm PySem.F.plainAttrs_list PySem.F.slot_list_pop PySem.F.type_list_pop mt_popAt (pv 6) (pa_cons pe_int pa_nil)) pa_nil))) pa_nil)))
            (pss_one (ps_set (i := 4) scBuilt.nd rfl (.inl rfl) (pe_op op_add (pv 4) pe_int)))))))))
      (pss_one (ps_ret (pe_tup (pa_cons (pv 5) (pa_cons (pv 8) pa_nil)))))))))), ?_⟩
    -- the names
    refine ⟨.ref s0, rfl, _, rfl, _, rfl, _, _, rfl, rfl, s0, l, n, widest + most, ?_, hs, hl, by omega, by omega, fun H1 nm ys l1 ch1 nm0 hyl hynd hyc hl1 hs1 hnm => ?_⟩
    · show _ = [V.ref s0, V.int ((widest + most : Nat) : Int)]
      rw [Int.natCast_add]
      rfl
    have nms : nm ≠ s0 := (ne_of_none hs nm0).symm
    -- how many stand
    refine ⟨.ref s0, rfl, _, rfl, _, _, rfl, rfl, s0, l1, n + (widest + most), _, rfl, hs1, hl1, by omega, by omega, by omega, fun l2 r2 hl2 h20 h2m => ?_⟩
    obtain ⟨size, rfl⟩ : ∃ size : Nat, r2 = (size : Int) := ⟨r2.toNat, by omega⟩
    have ch2 : Ch s0 H (upd H1 s0 (.lst l2)) := ch1.trans Ch.src
    have hs2 : (upd H1 s0 (.lst l2)) s0 = some (.lst l2) := upd_same
    have hnm2 : (upd H1 s0 (.lst l2)) nm = some (.lst (ys.map V.str)) := by rw [upd_ne nms]; exact hnm
    generalize upd H1 s0 (.lst l2) = H2 at ch2 hs2 hnm2 ⊢
    refine ⟨.ref nm, rfl, _, rfl, _, rfl, nm, _, rfl, .inl (.inl hnm2), fun a ha => ?_⟩
    rw [cut_pre, ← List.map_take]
    have ha0 : H a = none := ch2.free hs ⟨_, hs2⟩ ha
    have ch3 := ch2.new (o := .lst ((ys.take size).map V.str)) ha0
    have hs3 : (upd H2 a (.lst ((ys.take size).map V.str))) s0 = some (.lst l2) := by rw [upd_ne (ne_of_none hs2 ha)]; exact hs2
    have hnm3 : (upd H2 a (.lst ((ys.take size).map V.str))) nm = some (.lst (ys.map V.str)) := by rw [upd_ne (ne_of_none hnm2 ha)]; exact hnm2
    have e3 : (upd H2 a (.lst ((ys.take size).map V.str))) a = some (.lst ((ys.take size).map V.str)) := upd_same
    generalize upd H2 a (.lst ((ys.take size).map V.str)) = H3 at ch3 hs3 hnm3 e3 ⊢
    refine ⟨a, _, rfl, .inl (.inl e3), fun t ob hob ht => ?_⟩
    have ht0 : H t = none := ch3.free hs ⟨_, hs3⟩ ht
    have ch4 := ch3.new (o := .frz ob (.tup ((ys.take size).map V.str))) ht0
    have hs4 : (upd H3 t (.frz ob (.tup ((ys.take size).map V.str)))) s0 = some (.lst l2) := by rw [upd_ne (ne_of_none hs3 ht)]; exact hs3
    have hnm4 : (upd H3 t (.frz ob (.tup ((ys.take size).map V.str)))) nm = some (.lst (ys.map V.str)) := by rw [upd_ne (ne_of_none hnm3 ht)]; exact hnm3
    have t4 : (upd H3 t (.frz ob (.tup ((ys.take size).map V.str)))) t = some (.frz ob (.tup ((ys.take size).map V.str))) := upd_same
    show tCons (tSl (rSlL K) (tVar 3) (tPart (tVar 4)) tNoPart) tNil _ (upd H3 t (.frz ob (.tup ((ys.take size).map V.str)))) _
    generalize upd H3 t (.frz ob (.tup ((ys.take size).map V.str))) = H4 at ch4 hs4 hnm4 t4 ⊢
    refine ⟨.ref nm, rfl, _, rfl, _, rfl, nm, _, rfl, .inl (.inl hnm4), fun fr hfr => ?_⟩
    have hdrop : cutV (ys.map V.str) (some ((size : Nat) : Int)) none = (ys.drop size).map V.str := by
      unfold cutV
      rw [show HT.sIx (ys.map V.str).length 0 (some ((size : Nat) : Int)) = min size (ys.map V.str).length from HT.sIx_nat _ 0 size, HT.sIx_none, List.length_map, show min size ys.length = size by omega, ← List.map_drop]
      exact List.take_of_length_le (by rw [List.length_map, List.length_drop]; exact Nat.le_refl _)
    rw [hdrop]
    have hfr0 : H fr = none := ch4.free hs ⟨_, hs4⟩ hfr
    have ch5 := ch4.new (o := .lst ((ys.drop size).map V.str)) hfr0
    have hs5 : (upd H4 fr (.lst ((ys.drop size).map V.str))) s0 = some (.lst l2) := by rw [upd_ne (ne_of_none hs4 hfr)]; exact hs4
    have t5 : (upd H4 fr (.lst ((ys.drop size).map V.str))) t = some (.frz ob (.tup ((ys.take size).map V.str))) := by rw [upd_ne (ne_of_none t4 hfr)]; exact t4
    have f5 : (upd H4 fr (.lst ((ys.drop size).map V.str))) fr = some (.lst ((ys.drop size).map V.str)) := upd_same
    have frs : fr ≠ s0 := (ne_of_none hs4 hfr).symm
    have frt : fr ≠ t := (ne_of_none t4 hfr).symm
    generalize upd H4 fr (.lst ((ys.drop size).map V.str)) = H5 at ch5 hs5 t5 f5 ⊢
    refine ⟨_, _, rfl, ?_⟩
    have ts0 : t ≠ s0 := fun z => by
      rw [z, hs5] at t5
      cases t5
    -- lean
    refine ⟨.ref s0, rfl, s0, l2, n + (widest + most) + 1, 4, rfl, hs5, hl2, by omega, by decide, by decide, fun l3 r3 hl3 h30 h3m => ?_⟩
    have ch6 : Ch s0 H (upd H5 s0 (.lst l3)) := ch5.trans Ch.src
    have hs6 : (upd H5 s0 (.lst l3)) s0 = some (.lst l3) := upd_same
    have t6 : (upd H5 s0 (.lst l3)) t = some (.frz ob (.tup ((ys.take size).map V.str))) := by rw [upd_ne ts0]; exact t5
    have f6 : (upd H5 s0 (.lst l3)) fr = some (.lst ((ys.drop size).map V.str)) := by rw [upd_ne frs]; exact f5
    generalize upd H5 s0 (.lst l3) = H6 at ch6 hs6 t6 f6 ⊢
    refine ⟨Nat.zero_le _, fun o ho => ?_⟩
    have ho0 : H o = none := ch6.free hs ⟨_, hs6⟩ ho
    have ch7 := ch6.new (o := .lst []) ho0
    have hs7 : (upd H6 o (.lst [])) s0 = some (.lst l3) := by rw [upd_ne (ne_of_none hs6 ho)]; exact hs6
    have t7 : (upd H6 o (.lst [])) t = some (.frz ob (.tup ((ys.take size).map V.str))) := by rw [upd_ne (ne_of_none t6 ho)]; exact t6
    have f7 : (upd H6 o (.lst [])) fr = some (.lst ((ys.drop size).map V.str)) := by rw [upd_ne (ne_of_none f6 ho)]; exact f6
    have o7 : (upd H6 o (.lst [])) o = some (.lst []) := upd_same
    have ons : o ≠ s0 := (ne_of_none hs6 ho).symm
    have onf : o ≠ fr := (ne_of_none f6 ho).symm
    have ont : o ≠ t := (ne_of_none t6 ho).symm
    generalize upd H6 o (.lst []) = H7 at ch7 hs7 t7 f7 o7 ⊢
    refine ⟨.ref s0, rfl, _, rfl, _, _, rfl, rfl, s0, l3, n + (widest + most) + 1 + 1, _, rfl, hs7, hl3, by omega, by omega, by omega, fun l4 r4 hl4 h40 h4m => ?_⟩
    refine ⟨r4, rfl, by omega, by omega, ?_⟩
    have hsz : (ys.take size).length = size := by
      rw [List.length_take]
      omega
    have hdl : (ys.drop size).length = widest + most - size := by rw [List.length_drop, hyl]
    refine for_range (lo := 0) (n := r4.toNat) (BtInv H ob s0 nm t fr o (n + (widest + most) + 3) size widest most (ys.take size) (ys.drop size) r3 r4.toNat) ?_ ?_ ?_
    · refine ⟨l4, [], [], 0, size, none, none, none, rfl, ch7.trans Ch.src, Nat.zero_le _, upd_same, hl4, by rw [upd_ne ts0]; exact t7, by rw [upd_ne frs]; exact f7, by rw [upd_ne ons]; exact o7, .nil, fun a ha => (by cases ha), Nat.le_refl _, Nat.le_refl _, rfl, rfl, fun j k hk => ?_⟩
      rw [List.take_nil] at hk
      obtain rfl := Option.some.inj hk
      omega
    · rintro i σ H' hi ⟨l', as, es, k, m, v9, v10, v11, rfl, ch, _, hs', hl', ht', hf', ho', hev, hfrA, hel, hki, har, hct, hcap⟩
      have hi' : i < r4.toNat := hi
      have hr4 : r4.toNat ≤ most := by omega
      -- way
      refine ⟨.ref s0, rfl, s0, l', n + (widest + most) + 3 + i, 4, rfl, hs', hl', by omega, by decide, by decide, fun l5 way hl5 _ _ => ?_⟩
      have hs1 : (upd H' s0 (.lst l5)) s0 = some (.lst l5) := upd_same
      have t1 : (upd H' s0 (.lst l5)) t = some (.frz ob (.tup ((ys.take size).map V.str))) := by rw [upd_ne ts0]; exact ht'
      have f1 : (upd H' s0 (.lst l5)) fr = some (.lst (((ys.drop size).drop k).map V.str)) := by rw [upd_ne frs]; exact hf'
      have o1 : (upd H' s0 (.lst l5)) o = some (.lst (as.map V.ref)) := by rw [upd_ne ons]; exact ho'
      have ev1 : EvT (upd H' s0 (.lst l5)) as es := hev.kt (KT.upd fun xs e => by rw [hs'] at e; cases e)
      have c1 : Ch s0 H (upd H' s0 (.lst l5)) := ch.trans Ch.src
      generalize upd H' s0 (.lst l5) = Ha at hs1 t1 f1 o1 ev1 c1 ⊢
      -- departs
      refine ⟨_, rfl, _, _, rfl, rfl, _, rfl, _, _, rfl, rfl, _, rfl, _, _, rfl, rfl, ⟨by decide, by decide⟩, _, _, rfl, rfl, (by show (0 : Int) < 2; decide), rfl, _, rfl, _, _, rfl, rfl, by show 4 ≤ sizeLine; decide, fun e4 he4 => ?_⟩
      have he40 : H e4 = none := c1.free hs ⟨_, hs1⟩ he4
      refine ⟨_, rfl, ?_⟩
      obtain ⟨b, hb⟩ := ix4 (decide (way < 1)) (decide (way < 3)) (decide (V.int ((0 + (i : Int)) / 4 % 2) = V.int 1)) (decide (way < 2)) h30 h3m
      refine ⟨e4, _, r3, .bl b, rfl, rfl, .inl (.inl upd_same), hb, ?_⟩
      have n4o : o ≠ e4 := ne_of_none o1 he4
      have n4f : fr ≠ e4 := ne_of_none f1 he4
      have n4s : s0 ≠ e4 := ne_of_none hs1 he4
      have n4t : t ≠ e4 := ne_of_none t1 he4
      have hs2' : (upd Ha e4 (.lst [V.bl (decide (way < 1)), .bl (decide (way < 3)), .bl (decide (V.int ((0 + (i : Int)) / 4 % 2) = V.int 1)), .bl (decide (way < 2))])) s0 = some (.lst l5) := by rw [upd_ne n4s]; exact hs1
      have t2 : (upd Ha e4 (.lst [V.bl (decide (way < 1)), .bl (decide (way < 3)), .bl (decide (V.int ((0 + (i : Int)) / 4 % 2) = V.int 1)), .bl (decide (way < 2))])) t = some (.frz ob (.tup ((ys.take size).map V.str))) := by rw [upd_ne n4t]; exact t1
      have f2 : (upd Ha e4 (.lst [V.bl (decide (way < 1)), .bl (decide (way < 3)), .bl (decide (V.int ((0 + (i : Int)) / 4 % 2) = V.int 1)), .bl (decide (way < 2))])) fr = some (.lst (((ys.drop size).drop k).map V.str)) := by rw [upd_ne n4f]; exact f1
      have o2 : (upd Ha e4 (.lst [V.bl (decide (way < 1)), .bl (decide (way < 3)), .bl (decide (V.int ((0 + (i : Int)) / 4 % 2) = V.int 1)), .bl (decide (way < 2))])) o = some (.lst (as.map V.ref)) := by rw [upd_ne n4o]; exact o1
      have ev2 : EvT (upd Ha e4 (.lst [V.bl (decide (way < 1)), .bl (decide (way < 3)), .bl (decide (V.int ((0 + (i : Int)) / 4 % 2) = V.int 1)), .bl (decide (way < 2))])) as es := ev1.kt (KT.upd fun xs e' => by rw [he4] at e'; cases e')
      have c2 := c1.new (o := .lst [V.bl (decide (way < 1)), .bl (decide (way < 3)), .bl (decide (V.int ((0 + (i : Int)) / 4 % 2) = V.int 1)), .bl (decide (way < 2))]) he40
      generalize upd Ha e4 (.lst [V.bl (decide (way < 1)), .bl (decide (way < 3)), .bl (decide (V.int ((0 + (i : Int)) / 4 % 2) = V.int 1)), .bl (decide (way < 2))]) = Hb at hs2' t2 f2 o2 ev2 c2 ⊢
      have lenA : (as.map V.ref).length < sizeLine := by
        rw [List.length_map, Paired.length hev]
        exact small1000 (by omega)
      have hk : k < (ys.drop size).length := by omega
      have hmc : m ≤ max 40 widest := hcap es.length m (by rw [List.take_length]; exact hct)
      obtain ⟨c, rest, hcr⟩ : ∃ c rest, (ys.drop size).drop k = c :: rest := ⟨_, _, List.drop_eq_getElem_cons hk⟩
      have hkc : (ys.drop size)[k]? = some c := by
        have : ((ys.drop size).drop k)[0]? = some c := by rw [hcr]; rfl
        rw [List.getElem?_drop] at this
        exact this
      have hrest : rest = (ys.drop size).drop (k + 1) := by
        have : ((ys.drop size).drop k).drop 1 = rest := by rw [hcr]; rfl
        rw [List.drop_drop] at this
        exact this.symm
      rw [hcr] at f2
      have dep : 0 < m → ∀ D : Ends, (∀ σ H', BtInv H ob s0 nm t fr o (n + (widest + most) + 3) size widest most (ys.take size) (ys.drop size) r3 r4.toNat (i + 1) σ H' → D.nx σ H') →
          (tSeq (tDrop (tBM K "list" rAppend (tVar 8) (tCons (tTup (tCons (tC (.str "out")) tNil)) tNil))) (tAsg (tOp (rI0 fun i j => .int (i - j)) (tVar 4) (tC (.int 1))) (gName 4)))
            D [some (.ref s0), some (.int (widest : Nat)), some (.int (most : Nat)), some (.ref nm), some (.int (m : Nat)), some (.ref t), some (.ref fr), some (.int r3), some (.ref o), some (.int (0 + (i : Int))), some (.int way), some (.bl b)] Hb := by
        intro hm D hD
        refine ⟨.ref o, rfl, .inl ⟨rfl, _, .inl (.inl o2)⟩, by show 1 ≤ sizeLine; decide, fun e he => ?_⟩
        have heo : o ≠ e := ne_of_none o2 he
        have hef : fr ≠ e := ne_of_none f2 he
        have hes : s0 ≠ e := ne_of_none hs2' he
        have het : t ≠ e := ne_of_none t2 he
        have he0 : H e = none := c2.free hs ⟨_, hs2'⟩ he
        refine ⟨o, _, _, rfl, rfl, by rw [upd_ne heo]; exact o2, lenA, ?_⟩
        refine ⟨_, rfl, _, _, rfl, rfl, hD _ _ ⟨l5, as ++ [e], es ++ [.out], k, m - 1, some (.int (0 + (i : Int))), some (.int way), some (.bl b), ?_, (c2.new he0).new ho0, hi, ?_, ?_, ?_, ?_, ?_, ?_, ?_, ?_, by omega, ?_, ?_, ?_⟩⟩
        · show [some (V.ref s0), some (V.int (widest : Nat)), some (V.int (most : Nat)), some (V.ref nm), some (V.int (((m : Nat) : Int) - 1)), some (V.ref t), some (V.ref fr), some (V.int r3), some (V.ref o), some (V.int (0 + (i : Int))), some (V.int way), some (V.bl b)] = _
          rw [show ((m : Nat) : Int) - 1 = ((m - 1 : Nat) : Int) by omega]
        · rw [upd_ne ons.symm, upd_ne hes]
          exact hs2'
        · rw [show n + (widest + most) + 3 + (i + 1) = n + (widest + most) + 3 + i + 1 by omega]
          exact hl5
        · rw [upd_ne ont.symm, upd_ne het]
          exact t2
        · rw [upd_ne onf.symm, upd_ne hef, hcr]
          exact f2
        · rw [upd_same, List.map_append]
          rfl
        · refine Paired.snoc ?_ ?_
          · exact (ev2.kt (KT.upd fun xs e' => by rw [he] at e'; cases e')).kt (KT.upd fun xs e' => by rw [upd_ne heo, o2] at e'; cases e')
          · show (upd _ _ _) e = _
            rw [upd_ne heo.symm, upd_same]
            rfl
        · intro b hb
          rcases List.mem_append.mp hb with hb | hb
          · exact hfrA b hb
          · rw [List.mem_singleton.mp hb]
            exact he0
        · rw [List.length_append]
          show es.length + 1 ≤ _
          omega
        · rw [arrs_app, har]
          show (ys.drop size).take k ++ [] = _
          rw [List.append_nil]
        · rw [cnt_snoc _ _ _ _ hct]
          show (if 0 < m then some (m - 1) else none) = _
          rw [if_pos hm]
        · refine capd_snoc hcap fun k hk => ?_
          rw [cnt_snoc _ _ _ _ hct] at hk
          have hk : (if 0 < m then some (m - 1) else none) = some k := hk
          rw [if_pos hm] at hk
          obtain rfl := Option.some.inj hk
          omega
      have arr : m < 40 → ∀ D : Ends, (∀ σ H', BtInv H ob s0 nm t fr o (n + (widest + most) + 3) size widest most (ys.take size) (ys.drop size) r3 r4.toNat (i + 1) σ H' → D.nx σ H') →
          (tSeq (tDrop (tBM K "list" rAppend (tVar 8) (tCons (tTup (tCons (tC (.str "in")) (tCons (tBM K "list" rPopAt (tVar 6) (tCons (tC (.int 0)) tNil)) tNil))) tNil))) (tAsg (tOp (rI0 fun i j => .int (i + j)) (tVar 4) (tC (.int 1))) (gName 4)))
            D [some (.ref s0), some (.int (widest : Nat)), some (.int (most : Nat)), some (.ref nm), some (.int (m : Nat)), some (.ref t), some (.ref fr), some (.int r3), some (.ref o), some (.int (0 + (i : Int))), some (.int way), some (.bl b)] Hb := by
        intro hm40 D hD
        refine ⟨.ref o, rfl, .inl ⟨rfl, _, .inl (.inl o2)⟩, .ref fr, rfl, .inl ⟨rfl, _, .inl (.inl f2)⟩, fr, _, 0, 0, V.str c, rfl, rfl, f2, by decide, by decide, ?_, rfl, by show 2 ≤ sizeLine; decide, fun e he => ?_⟩
        · exact (ixN_seq (i := 0) (j := 0) (by unfold ixN; rw [if_pos (by decide), if_pos (by rw [List.length_map, List.length_cons]; omega)]; rfl)).1
        have hef : e ≠ fr := fun z => by
          rw [z, upd_same] at he
          cases he
        rw [upd_ne hef] at he
        have heo : o ≠ e := ne_of_none o2 he
        have hes : s0 ≠ e := ne_of_none hs2' he
        have het : t ≠ e := ne_of_none t2 he
        have he0 : H e = none := c2.free hs ⟨_, hs2'⟩ he
        refine ⟨o, _, _, rfl, rfl, by rw [upd_ne heo, upd_ne onf]; exact o2, lenA, ?_⟩
        refine ⟨_, rfl, _, _, rfl, rfl, hD _ _ ⟨l5, as ++ [e], es ++ [.inn c], k + 1, m + 1, some (.int (0 + (i : Int))), some (.int way), some (.bl b), rfl, ((c2.new hfr0).new he0).new ho0, hi, ?_, ?_, ?_, ?_, ?_, ?_, ?_, ?_, by omega, ?_, ?_, ?_⟩⟩
        · rw [upd_ne ons.symm, upd_ne hes, upd_ne frs.symm]
          exact hs2'
        · rw [show n + (widest + most) + 3 + (i + 1) = n + (widest + most) + 3 + i + 1 by omega]
          exact hl5
        · rw [upd_ne ont.symm, upd_ne het, upd_ne frt.symm]
          exact t2
        · rw [upd_ne onf.symm, upd_ne hef.symm, upd_same, ← hrest]
          rfl
        · rw [upd_same, List.map_append]
          rfl
        · refine Paired.snoc ?_ ?_
          · exact ((ev2.kt (KT.upd fun xs e' => by rw [f2] at e'; cases e')).kt (KT.upd fun xs e' => by rw [upd_ne hef, he] at e'; cases e')).kt (KT.upd fun xs e' => by rw [upd_ne heo, upd_ne onf, o2] at e'; cases e')
          · show (upd _ _ _) e = _
            rw [upd_ne heo.symm, upd_same]
            rfl
        · intro b hb
          rcases List.mem_append.mp hb with hb | hb
          · exact hfrA b hb
          · rw [List.mem_singleton.mp hb]
            exact he0
        · rw [List.length_append]
          show es.length + 1 ≤ _
          omega
        · rw [arrs_app, har, List.take_add_one, hkc]
          rfl
        · rw [cnt_snoc _ _ _ _ hct]
          rfl
        · refine capd_snoc hcap fun k hk => ?_
          rw [cnt_snoc _ _ _ _ hct] at hk
          obtain rfl := Option.some.inj hk
          omega
      refine ⟨_, rfl, _, _, rfl, rfl, _, rfl, ite2 (fun h0 => ?_) (fun h0 => ?_)⟩
      · have h0 : (0 : Int) < (m : Nat) := of_decide_eq_true h0
        refine ⟨_, rfl, b, rfl, ?_⟩
        cases b with
        | true => exact iteT (iteT (dep (by omega) _ fun σ H' h => h))
        | false =>
          refine iteF ⟨_, rfl, _, _, rfl, rfl, _, rfl, ite2 (fun h39 => ?_) (fun h39 => ?_)⟩
          · exact dep (by omega) _ fun σ H' h => h
          · have h39 : ¬ (39 : Int) < (m : Nat) := fun z => h39 (decide_eq_true z)
            exact arr (by omega) _ fun σ H' h => h
      · have h0 : ¬ (0 : Int) < (m : Nat) := fun z => h0 (decide_eq_true z)
        exact iteF (arr (by omega) _ fun σ H' h => h)
    · rintro σ H' ⟨l', as, es, k, m, v9, v10, v11, rfl, ch, _, hs', hl', ht', hf', ho', hev, hfrA, hel, hki, har, hct, hcap⟩
      refine ⟨.ref t, rfl, .ref o, rfl, by show 2 ≤ sizeLine; decide, fun p hp => ?_⟩
      have hp0 : H p = none := ch.free hs ⟨_, hs'⟩ hp
      have npt : t ≠ p := ne_of_none ht' hp
      have npo : o ≠ p := ne_of_none ho' hp
      have nps : s0 ≠ p := ne_of_none hs' hp
      have hsub : ∀ x ∈ ys.take size ++ arrs es, x ∈ ys := fun x hx => by
        rcases List.mem_append.mp hx with e | e
        · exact List.mem_of_mem_take e
        · rw [har] at e
          exact List.mem_of_mem_drop (List.mem_of_mem_take e)
      refine q _ p t o (ys.take size) as es m l' ⟨ch.new hp0, ht0, ho0, ⟨ob, hob, by rw [upd_ne npt]; exact ht'⟩, by rw [upd_ne npo]; exact ho', hev.kt (KT.upd fun xs e => by rw [hp] at e; cases e), hfrA, by omega, by omega, ?_, fun x hx => pool_cars x (hyc x (hsub x hx)), by rw [hsz]; exact hct, by rw [hsz]; exact hcap, hl'.mono (by omega), by rw [upd_ne nps]; exact hs', fun x hx => hyc x (hsub x hx)⟩ hp0 upd_same
      rw [har]
      have : ((ys.take size) ++ (ys.drop size).take k).Sublist ys := by
        have h1 : ((ys.take size) ++ (ys.drop size).take k).Sublist (ys.take size ++ ys.drop size) := (List.Sublist.refl _).append (List.take_sublist _ _)
        rw [List.take_append_drop] at h1
        exact h1
      exact hynd.sublist this
end
end Ln

set_option Elab.async false
set_option linter.all false
set_option maxRecDepth 100000
set_option maxHeartbeats 4000000
namespace Ln
open PySem PySem.Spec PyProof.Rows L2
/-! ### set(xs), xs a list of whole numbers: a set that can be sorted -/
def UpI (w : World) (h : Heap) (a : Addr) (ns : List Int) (i : Nat) : Prop := ∃ m, SetR w h a (fun k => decide (k ∈ ns.take i)) m ∧ m ≤ i
theorem upI_step {w : World} {h' : Heap} {a : Addr} {ns : List Int} {i m : Nat} {k : Int} (hk : ns[i]? = some k) (hm : m ≤ i)
    (hs : SetR w h' a (fun j => decide (j ∈ ns.take i) || decide (j = k)) (if decide (k ∈ ns.take i) = true then m else m + 1)) : UpI w h' a ns (i + 1) := by
  refine ⟨_, hs.congr fun j => ?_, ?_⟩
  · rw [List.take_add_one, hk]
    show decide (j ∈ ns.take i ++ [k]) = _
    by_cases h1 : j ∈ ns.take i <;> by_cases h2 : j = k <;> simp [h1, h2]
  · split <;> omega
section
variable {P : Program} {w : World} {A : Around} {R : Result → Shared → Prop} {it : Addr} {fp wr : List Addr} {G : Array GenState → Array GenState → Prop} {n : Nat} {Pv : Nat → Value → Prop} {St : Nat → Shared → Prop}
theorem loop_ints (W : WalksS P w A.in1 it fp wr G n Pv St) (S : Addr) (hSf : S ∉ fp) (ns : List Int) (hval : ∀ (i : Nat) (v : Value), Pv i v → ∃ (k : Int) (tk : Tok), ns[i]? = some k ∧ v = .int k tk) (hb : n + 1 < scanBound) :
    ∀ (d i : Nat) (s : Shared), n - i = d → i ≤ n → St i s → UpI w s.heap S ns i →
      (∀ s', Moved (S :: wr) G s s' → UpI w s'.heap S ns n → R (.ok (.ret .none)) s') →
      codeAny (model P w) A (.builtin "set.update.loop" ⟨[.ref S, .ref it], []⟩) R s := by
  have nwr : S ∉ wr := fun z => hSf (W.sub _ z)
  have more : ∀ b ∈ wr, b ∈ S :: wr := fun b z => List.mem_cons_of_mem S z
  intro d
  induction d with
  | zero =>
    intro i s hd hi st ⟨m, hS, hm⟩ hR
    obtain rfl : i = n := by omega
    refine codeAny_builtin PyProof.Rows.F.entry_set_update_loop ?_
    rw [Around.under_plainId (PyProof.Rows.F.plain_set_update_loop) _]
    show wpAny (model P w) A.in1 (pyNext (.ref it) >>= _) _ _ s
    refine wpAny_bind (W.done s _ _ st fun s1 hmv => ?_)
    exact wpAny_pure (hR s1 (hmv.mono more) ⟨m, hS.at fun o e => hmv.heap S o nwr e, hm⟩)
  | succ d ih =>
    intro i s hd hi st ⟨m, hS, hm⟩ hR
    have hlt : i < n := by omega
    refine codeAny_builtin PyProof.Rows.F.entry_set_update_loop ?_
    rw [Around.under_plainId (PyProof.Rows.F.plain_set_update_loop) _]
    show wpAny (model P w) A.in1 (pyNext (.ref it) >>= _) _ _ s
    refine wpAny_bind (W.item i s _ _ hlt st fun v s1 hv st1 hmv => ?_)
    obtain ⟨k, tk, hk, rfl⟩ := hval i v hv
    have hS1 := hS.at fun o e => hmv.heap S o nwr e
    show wpAny (model P w) A.in1 (holding [.int k tk] (setAdd S (.int k tk)) >>= _) _ _ s1
    refine wpAny_bind (wpAny_holding ?_)
    unfold setAdd
    refine wpAny_holding (wpAny_bind ((intKind P w).pyHash (intKind_is P w k tk) ?_))
    refine setR_add_hashed (s := { s1 with toks := s1.toks + 1 }) hS1 (by omega) fun h2 sb hS2 => ?_
    refine wpAny_pure ⟨plainId_quiet (PyProof.Rows.F.plain_set_update_loop) _, ih (i + 1) _ (by omega) hlt (W.frame _ s1 _ _ st1 (Nat.le_succ _) fun b hbf o e => ?_) (upI_step hk hm hS2) fun s3 hm3 hS3 => ?_⟩
    · exact (sb.2 b fun z => hSf (z ▸ hbf)).trans e
    · refine hR s3 (Moved.trans W.gtrans ((hmv.mono more).then_heap (Nat.le_succ _) fun b o hbw e => ?_) hm3) hS3
      exact (sb.2 b fun z => hbw (by rw [z]; exact List.mem_cons_self)).trans e
end
abbrev sObjL (w : World) : Obj := { cls := .type "set", dict := none, data := .set #[] 0 (.fresh 0 0 (!w.params.followText "set-order")) }
section
variable {P : Program} {w : World} {A : Around} {E : Value → Shared → Prop} {s : Shared}
theorem call_set_ints {l : Addr} {items : Array Value} {ns : List Int} {Q : Value → Shared → Prop}
    (hh : A.handled = none) (hl : s.heap.IsList l items) (hi : ∀ (i : Nat) (v : Value), items[i]? = some v → ∃ (k : Int) (tk : Tok), ns[i]? = some k ∧ v = .int k tk) (hb : items.size + 1 < scanBound)
    (h : ∀ (h' : Heap) (tk : Nat), UpI w h' s.heap.objs.size ns items.size → (∀ b o, b < s.heap.objs.size → s.heap.get? b = some o → h'.get? b = some o) → Q (.ref s.heap.objs.size) { s with heap := h', toks := tk }) :
    wpAny (model P w) A (call (.type "set") [.ref l]) Q E s := by
  obtain ⟨mro1, mro2, hmro⟩ := PySem.F.called_set.mro
  have made := PySem.F.called_set.made
  have subs := PySem.F.called_set.sub
  refine wpAny_call (codeAny_of_tree ?_)
  show wpAny (model P w) _ (callAny (.type "set") _) _ _ _
  refine wpAny_pure ⟨Code.quiet_builtin _ (by decide +kernel), codeAny_builtin (PySem.F.entry_type_call) ?_⟩
  rw [Around.under_plain (weight_type_call_type "set" [Value.ref l] []) rfl]
  have notT := PySem.F.called_set.notType
  have canC := PySem.F.called_set.canCreate
  have chk := PySem.F.typeCall_set_1 (Value.ref l)
  repeat (any_goals (first | assumption | wp_step))
  refine codeAny_mono (code_set_led1 (.ref l) (E := E) (Q₁ := fun ob s1 => ob = .ref s.heap.objs.size ∧ s1 = { s with heap := s.heap.push (sObjL w) }) ⟨rfl, rfl⟩) fun r s1 hr => ?_
  match r, hr with
  | .error e, hr => exact hr
  | .ok .next, hr => exact hr.elim
  | .ok .brk, hr => exact hr.elim
  | .ok .cont, hr => exact hr.elim
  | .ok (.ret ob), hr =>
    obtain ⟨rfl, rfl⟩ := hr
    have hS : (s.heap.push (sObjL w)).get? s.heap.objs.size = some (sObjL w) := Heap.get?_push_size _ rfl
    have tyS : Shared.TypeIs { s with heap := s.heap.push (sObjL w) } (.ref s.heap.objs.size) "set" := ⟨_, hS, rfl⟩
    have lkI := PySem.F.called_set.init.lookup
    have bdI := PySem.F.called_set.init.bind (.ref s.heap.objs.size)
    repeat (any_goals (first | assumption | wp_step))
    refine codeAny_mono (codeAny_call_builtin (R := wants (fun r s2 => r = .none ∧ ∃ h' tk, s2 = { s with heap := h', toks := tk } ∧ UpI w h' s.heap.objs.size ns items.size ∧ (∀ b o, b < s.heap.objs.size → s.heap.get? b = some o → h'.get? b = some o)) E)
      (PySem.F.called_set.init.plain) (PySem.F.entry_set_init) (check_set_init_1 tyS ?_)) fun r2 s2 hr2 => ?_
    · obtain ⟨ob, hob, hcl, nl, hdl⟩ := hl
      obtain ⟨oc, od, oda, osl⟩ := ob
      simp only at hcl hdl
      subst hcl
      subst hdl
      have hob1 : (s.heap.push (sObjL w)).get? l = some { cls := .type "list", dict := od, data := .seq items nl, slots := osl } := Heap.get?_push_of_some _ hob
      have n1 := PySem.F.sub_list_set
      have n2 := PySem.F.sub_list_frozenset
      have n3 : (Value.type "list" == Value.type "dict") = false := by decide
      have tup1 : (s.heap.push (sObjL w)).IsList l items := ⟨_, hob1, rfl, nl, rfl⟩
      unfold Builtin.«set.__init__» noKeywords Builtin.Frozenset.updateFrom
      generalize hPI : pyIter = PI
      wp_walk
      subst hPI
      refine wpAny_pyIter_list tup1 (wpAny_bind (wpAny_runValue ?_))
      have lS : l < s.heap.objs.size := Heap.lt_size hob
      have hne : l ≠ (s.heap.push (sObjL w)).objs.size := by
        rw [Heap.size_push]
        exact Nat.ne_of_lt (Nat.lt_succ_of_lt lS)
      have nS : s.heap.objs.size ∉ [(s.heap.push (sObjL w)).objs.size, l] := by
        rw [Heap.size_push]
        intro z
        rcases List.mem_cons.mp z with z | z
        · exact absurd z (Nat.ne_of_lt (Nat.lt_succ_self _))
        · exact absurd (List.mem_singleton.mp z) (Nat.ne_of_gt lS)
      refine loop_ints ((Walks.list (show A.in1.in1.in1.handled = none by simp [hh]) _ l hne items).toS) s.heap.objs.size nS ns hi hb (items.size - 0) 0 _ (by omega) (Nat.zero_le _) ⟨⟨_, Heap.get?_push_size _ rfl, rfl, rfl⟩, tup1.push _⟩ ?hS0 ?hR
      case hS0 =>
        refine ⟨0, ?_, Nat.le_refl _⟩
        have e0 := (setR_fresh (h := s.heap) w).at (h' := (s.heap.push (sObjL w)).push { cls := .type "list_iterator", data := .fields #[.ref l, .int 0 0] }) fun o e => Heap.get?_push_of_some _ e
        exact e0.congr fun k => by simp
      case hR =>
        intro s3 hmv hS3
        obtain ⟨h3, g3, d3, t3, o3⟩ := s3
        have eg : g3 = s.gens := hmv.gens
        have ed : d3 = s.drawn := hmv.drawn
        have eo : o3 = s.os := hmv.os
        subst eg ed eo
        show wpAny (model P w) _ _ _ _ _
        refine wpAny_pure ?_
        show wpAny (model P w) _ (ret Value.none) _ _ _
        refine wpAny_pure ⟨rfl, h3, t3, rfl, hS3, fun b o hb2 e => ?_⟩
        refine hmv.heap b o (fun z => ?_) (Heap.get?_push_of_some _ (Heap.get?_push_of_some _ e))
        rcases List.mem_cons.mp z with z | z
        · exact Nat.ne_of_lt hb2 z
        · have z := List.mem_singleton.mp z
          rw [Heap.size_push] at z
          exact Nat.ne_of_lt (Nat.lt_succ_of_lt hb2) z
    · match r2, hr2 with
      | .error e, hr2 => exact hr2
      | .ok .next, hr2 => exact hr2.elim
      | .ok .brk, hr2 => exact hr2.elim
      | .ok .cont, hr2 => exact hr2.elim
      | .ok (.ret r), hr2 =>
        obtain ⟨rfl, h3, t3, rfl, hS3, hk3⟩ := hr2
        repeat (any_goals (first | assumption | wp_step))
        exact h _ _ hS3 hk3
end
/-- .. and sorted(set(xs)) -/
def rSetI (K : PySem.W.Frag) (w : World) : List V → Hp → VK → Prop := fun xs H Q => ∃ (l : Addr) (ns : List Int), xs = [V.ref l] ∧ SqL K H l (ns.map V.int) ∧ ns.length ≤ 1000 ∧
  ∀ (a : Addr) (L : List Int), H a = none → L.Nodup → (∀ k, k ∈ L ↔ k ∈ ns) → Q (.ref a) (upd H a (SetO w a (fun k => decide (k ∈ ns)) L.length))
section
variable {X : Cx}
theorem cr_setI (hc : X.calm = true) : CallR X (.type "set") (rSetI X.K X.w) := by
  intro pins s σ H xs us Q I r h
  obtain ⟨l, ns, rfl, hl, few, q⟩ := h
  rw [Vals.ref1 r]
  obtain ⟨its, rv, pl, hz⟩ := I.list hl
  have hn : H s.heap.objs.size = none := I.hok.fresh (Nat.le_refl _)
  have hsz : its.toArray.size = ns.length := by rw [List.size_toArray, ← rv.length, List.length_map]
  refine call_set_ints (P := X.prog) (w := X.w) (ns := ns) (I.ok.hd hc) pl.isList (fun i v hv => ?_) (by rw [hsz]; unfold scanBound; omega) fun h' tk R k => ?_
  · have hv : its[i]? = some v := by simpa using hv
    have hlt := (List.getElem?_eq_some_iff.mp hv).1
    have hlt2 : i < ns.length := by rw [← hsz]; simpa using hlt
    obtain ⟨u, hu, ru⟩ := rv.get (i := i) (x := .int ns[i]) (by rw [List.getElem?_map, List.getElem?_eq_getElem hlt2]; rfl)
    rw [hv] at hu
    cases hu
    obtain ⟨tk, rfl⟩ := ru
    exact ⟨ns[i], tk, List.getElem?_eq_getElem hlt2, rfl⟩
  · obtain ⟨m, R, _⟩ := R
    rw [hsz, List.take_length] at R
    obtain ⟨o, es, ep, t, r1, r2, r3, r4, nd, r6, r7, r8, hm, r10⟩ := R
    have R : SetR X.w h' s.heap.objs.size (fun k => decide (k ∈ ns)) (es.toList.map keyOf).length := by
      rw [List.length_map, Array.length_toList, hm]
      exact ⟨o, es, ep, t, r1, r2, r3, r4, nd, r6, r7, r8, hm, r10⟩
    exact ⟨.ref s.heap.objs.size, _, I.laid (t' := tk) (fun b o e => k b o (Heap.lt_size e) e) (Nat.le_refl _) (setO_new R), rfl, q _ _ hn nd fun k => by rw [← r6 k, decide_eq_true_iff]⟩
end
end Ln


set_option Elab.async false
set_option linter.all false
set_option maxRecDepth 100000
set_option maxHeartbeats 4000000
namespace Ln
open PySem
/-! ### lanes by the possible numbers of leavers on the left, event by event -/
/-- the numbers behind an event, before a row without stayers is made whole -/
def dpP (F : List Str) (P : Int → Prop) (run : List Str) (total : Int) : Ev → Int → Prop
  | .out, k => (P k ∧ k ≤ total - 1) ∨ (P (k + 1) ∧ k + 1 > 0)
  | .inn c, k => if c ∈ F then
      (if run = [] then k = 0 ∨ k = total else if F.idxOf c < F.idxOf (run.headD c) then P k ∧ k = 0 else P k ∧ k = total)
    else P k ∨ P (k - 1)
def dpRun (F run : List Str) : Ev → List Str
  | .out => run
  | .inn c => if c ∈ F then (if run = [] ∨ F.idxOf c < F.idxOf (run.headD c) then c :: run else run ++ [c]) else run
def dpT (F : List Str) (total : Int) : Ev → Int
  | .out => total - 1
  | .inn c => if c ∈ F then total else total + 1
def dpN (F : List Str) (P : Int → Prop) (run : List Str) (total : Int) (e : Ev) (k : Int) : Prop :=
  if dpRun F run e = [] then 0 ≤ k ∧ k ≤ dpT F total e else dpP F P run total e k
def dpR (F : List Str) : (Int → Prop) → List Str → Int → List Ev → Prop
  | _, run, total, [] => run = F ∧ total = 0
  | P, run, total, e :: r => (∃ k, dpP F P run total e k) ∧ 0 ≤ dpT F total e ∧ dpR F (dpN F P run total e) (dpRun F run e) (dpT F total e) r
theorem dpN_ne {F : List Str} {P : Int → Prop} {run : List Str} {total : Int} {e : Ev} (h : dpRun F run e ≠ []) : dpN F P run total e = dpP F P run total e := by
  funext k
  unfold dpN
  rw [if_neg h]
theorem dpN_nil {F : List Str} {P : Int → Prop} {run : List Str} {total : Int} {e : Ev} (h : dpRun F run e = []) : dpN F P run total e = fun k => 0 ≤ k ∧ k ≤ dpT F total e := by
  funext k
  unfold dpN
  rw [if_pos h]
/-- each number is that of some history -/
theorem dp_sound {F xs : List Str} : ∀ (r : List Ev) (pre : List Ev) (P : Int → Prop) (run : List Str) (total : Int),
    (∀ k, P k → ∃ A C : List Str, (A.length : Int) = k ∧ ((A.length + C.length : Nat) : Int) = total ∧ Run xs pre (A ++ run ++ C)) → (∃ k, P k) → dpR F P run total r → Run xs (pre ++ r) F
  | [], pre, P, run, total, hP, ⟨k, hk⟩, h => by
    obtain ⟨h1, h2⟩ : run = F ∧ total = 0 := h
    obtain ⟨A, C, e1, e2, hr⟩ := hP k hk
    have hA : A = [] := List.eq_nil_of_length_eq_zero (by omega)
    have hC : C = [] := List.eq_nil_of_length_eq_zero (by omega)
    rw [hA, hC, h1] at hr
    simpa using hr
  | e :: r, pre, P, run, total, hP, hne, h => by
    obtain ⟨⟨k1, hk1⟩, ht, hd⟩ := h
    have wit : ∀ k, dpP F P run total e k → ∃ A C : List Str, (A.length : Int) = k ∧ ((A.length + C.length : Nat) : Int) = dpT F total e ∧ Run xs (pre ++ [e]) (A ++ dpRun F run e ++ C) := fun k hk => by
      cases e with
      | out =>
        rcases (show (P k ∧ k ≤ total - 1) ∨ (P (k + 1) ∧ k + 1 > 0) from hk) with ⟨h1, h2⟩ | ⟨h1, h2⟩
        · obtain ⟨A, C, e1, e2, hr⟩ := hP k h1
          obtain ⟨C', x, rfl⟩ : ∃ C' x, C = C' ++ [x] := by
            rcases List.eq_nil_or_concat C with rfl | ⟨C', x, rfl⟩
            · simp at e2
              omega
            · exact ⟨C', x, by simp⟩
          refine ⟨A, C', e1, ?_, hr.snoc ?_⟩
          · show _ = total - 1
            rw [List.length_append, List.length_singleton] at e2
            omega
          · show Mv _ .out (A ++ run ++ C')
            rw [← List.append_assoc]
            exact .outR x _
        · obtain ⟨A, C, e1, e2, hr⟩ := hP (k + 1) h1
          cases A with
          | nil => simp at e1; omega
          | cons x A =>
            rw [List.length_cons] at e1 e2
            refine ⟨A, C, by omega, ?_, hr.snoc (.outL x _)⟩
            show _ = total - 1
            omega
      | inn c =>
        by_cases hc : c ∈ F
        · have hT : dpT F total (.inn c) = total := by
            show (if c ∈ F then total else _) = _
            rw [if_pos hc]
          rw [hT]
          have hR : dpRun F run (.inn c) = if run = [] ∨ F.idxOf c < F.idxOf (run.headD c) then c :: run else run ++ [c] := by
            show (if c ∈ F then _ else _) = _
            rw [if_pos hc]
          have hkk : (if run = [] then k = 0 ∨ k = total else if F.idxOf c < F.idxOf (run.headD c) then P k ∧ k = 0 else P k ∧ k = total) := by
            have h2 : (if c ∈ F then (if run = [] then k = 0 ∨ k = total else if F.idxOf c < F.idxOf (run.headD c) then P k ∧ k = 0 else P k ∧ k = total) else P k ∨ P (k - 1)) := hk
            rw [if_pos hc] at h2
            exact h2
          rw [hR]
          by_cases hn : run = []
          · rw [if_pos hn] at hkk
            rw [if_pos (.inl hn)]
            subst hn
            obtain ⟨k0, hk0⟩ := hne
            obtain ⟨A, C, e1, e2, hr⟩ := hP k0 hk0
            have e3 : (((A ++ C).length : Nat) : Int) = total := by rw [List.length_append]; exact e2
            rw [List.append_nil] at hr
            rcases hkk with rfl | rfl
            · refine ⟨[], A ++ C, rfl, by rw [List.length_nil, Nat.zero_add]; exact e3, hr.snoc ?_⟩
              show Mv _ _ (c :: (A ++ C))
              exact .inL c _
            · refine ⟨A ++ C, [], e3, by rw [List.length_nil, Nat.add_zero]; exact e3, hr.snoc ?_⟩
              show Mv _ _ (A ++ C ++ [c] ++ [])
              rw [List.append_nil]
              exact .inR c _
          · rw [if_neg hn] at hkk
            by_cases hl : F.idxOf c < F.idxOf (run.headD c)
            · rw [if_pos hl] at hkk
              rw [if_pos (.inr hl)]
              obtain ⟨hq, rfl⟩ := hkk
              obtain ⟨A, C, e1, e2, hr⟩ := hP 0 hq
              have hA : A = [] := List.eq_nil_of_length_eq_zero (by omega)
              subst hA
              exact ⟨[], C, rfl, e2, hr.snoc (.inL c _)⟩
            · rw [if_neg hl] at hkk
              rw [if_neg (fun z => z.elim hn hl)]
              obtain ⟨hq, hkt⟩ := hkk
              obtain ⟨A, C, e1, e2, hr⟩ := hP _ hq
              have hC : C = [] := List.eq_nil_of_length_eq_zero (by omega)
              subst hC
              refine ⟨A, [], e1, e2, hr.snoc ?_⟩
              have : A ++ (run ++ [c]) ++ [] = A ++ run ++ [] ++ [c] := by simp
              rw [this]
              exact .inR c _
        · have hT : dpT F total (.inn c) = total + 1 := by
            show (if c ∈ F then total else _) = _
            rw [if_neg hc]
          have hR : dpRun F run (.inn c) = run := by
            show (if c ∈ F then _ else run) = _
            rw [if_neg hc]
          rw [hT, hR]
          have hk : P k ∨ P (k - 1) := by
            have h2 : (if c ∈ F then (if run = [] then k = 0 ∨ k = total else if F.idxOf c < F.idxOf (run.headD c) then P k ∧ k = 0 else P k ∧ k = total) else P k ∨ P (k - 1)) := hk
            rw [if_neg hc] at h2
            exact h2
          rcases hk with h1 | h1
          · obtain ⟨A, C, e1, e2, hr⟩ := hP k h1
            refine ⟨A, C ++ [c], e1, by rw [List.length_append, List.length_singleton]; omega, hr.snoc ?_⟩
            rw [← List.append_assoc]
            exact .inR c _
          · obtain ⟨A, C, e1, e2, hr⟩ := hP (k - 1) h1
            exact ⟨c :: A, C, by rw [List.length_cons]; omega, by rw [List.length_cons]; omega, hr.snoc (.inL c _)⟩
    have e1 : pre ++ e :: r = (pre ++ [e]) ++ r := by simp
    rw [e1]
    refine dp_sound r (pre ++ [e]) _ _ _ (fun k hk => ?_) ?_ hd
    · by_cases hn : dpRun F run e = []
      · rw [dpN_nil hn] at hk
        obtain ⟨A, C, _, e2, hr⟩ := wit k1 hk1
        rw [hn, List.append_nil] at hr
        have hl : (((A ++ C).length : Nat) : Int) = dpT F total e := by rw [List.length_append]; exact e2
        refine ⟨(A ++ C).take k.toNat, (A ++ C).drop k.toNat, ?_, ?_, ?_⟩
        · rw [List.length_take]
          omega
        · rw [List.length_take, List.length_drop]
          omega
        · rw [hn, List.append_nil, List.take_append_drop]
          exact hr
      · rw [dpN_ne hn] at hk
        exact wit k hk
    · by_cases hn : dpRun F run e = []
      · exact ⟨0, by rw [dpN_nil hn]; exact ⟨Int.le_refl _, ht⟩⟩
      · exact ⟨k1, by rw [dpN_ne hn]; exact hk1⟩
/-- .. and that of each history is there -/
theorem dp_full {F A B C D E : List Str} {r : List Ev} (h : Spl F A B C D E r) (hF : F.Nodup) : ∀ P : Int → Prop, (B ≠ [] → P A.length) → (B = [] → P 0) → dpR F P B ((A.length + C.length : Nat) : Int) r := by
  induction h with
  | nil => exact fun _ _ _ => ⟨rfl, rfl⟩
  | @mid A C A' C' D E r e _ ih =>
    intro P _ h0
    have : A'.length + C'.length = A.length + C.length := by rw [← List.length_append, e, List.length_append]
    rw [this]
    exact ih P (fun z => absurd rfl z) h0
  | @stL B C D E r c hS ih =>
    intro P h1 h0
    have e : F = D ++ c :: (B ++ E) := by rw [hS.eqF]; simp
    have hc : c ∈ F := by rw [e]; simp
    have hi : F.idxOf c = D.length := by
      have hn := hF
      rw [e] at hn ⊢
      exact idx_mid hn
    have hT : dpT F ((([] : List Str).length + C.length : Nat) : Int) (.inn c) = ((([] : List Str).length + C.length : Nat) : Int) := by
      show (if c ∈ F then _ else _) = _
      rw [if_pos hc]
    have hlt : B = [] ∨ F.idxOf c < F.idxOf (B.headD c) := by
      cases B with
      | nil => exact .inl rfl
      | cons b B =>
        refine .inr ?_
        have e2 : F = (D ++ [c]) ++ b :: (B ++ E) := by rw [hS.eqF]; simp
        have hb : F.idxOf b = (D ++ [c]).length := by
          have hn := hF
          rw [e2] at hn ⊢
          exact idx_mid hn
        show F.idxOf c < F.idxOf b
        rw [hi, hb, List.length_append, List.length_singleton]
        omega
    have hR : dpRun F B (.inn c) = c :: B := by
      show (if c ∈ F then _ else _) = _
      rw [if_pos hc, if_pos hlt]
    have h00 : dpP F P B ((([] : List Str).length + C.length : Nat) : Int) (.inn c) 0 := by
      show (if c ∈ F then _ else _)
      rw [if_pos hc]
      by_cases hB : B = []
      · rw [if_pos hB]
        exact .inl rfl
      · rw [if_neg hB, if_pos (hlt.resolve_left hB)]
        exact ⟨h1 hB, rfl⟩
    refine ⟨⟨0, h00⟩, by rw [hT]; omega, ?_⟩
    rw [hT, dpN_ne (by rw [hR]; exact List.cons_ne_nil _ _), hR]
    exact ih _ (fun _ => h00) (fun z => absurd z (List.cons_ne_nil _ _))
  | @stR A B D E r c hS ih =>
    intro P h1 h0
    have e : F = (D ++ B) ++ c :: E := by rw [hS.eqF]; simp
    have hc : c ∈ F := by rw [e]; simp
    have hi : F.idxOf c = D.length + B.length := by
      have hn := hF
      rw [e] at hn ⊢
      rw [idx_mid hn, List.length_append]
    have hT : dpT F ((A.length + ([] : List Str).length : Nat) : Int) (.inn c) = ((A.length + ([] : List Str).length : Nat) : Int) := by
      show (if c ∈ F then _ else _) = _
      rw [if_pos hc]
    have hge : B ≠ [] → ¬ F.idxOf c < F.idxOf (B.headD c) := fun hB => by
      obtain ⟨b, B', rfl⟩ := List.exists_cons_of_ne_nil hB
      have e2 : F = D ++ b :: (B' ++ [c] ++ E) := by rw [hS.eqF]; simp
      have hb : F.idxOf b = D.length := by
        have hn := hF
        rw [e2] at hn ⊢
        exact idx_mid hn
      show ¬ F.idxOf c < F.idxOf b
      rw [hi, hb]
      omega
    have hR : dpRun F B (.inn c) = B ++ [c] := by
      show (if c ∈ F then _ else _) = _
      rw [if_pos hc]
      by_cases hB : B = []
      · rw [if_pos (.inl hB), hB]
        rfl
      · rw [if_neg (fun z => z.elim hB (hge hB))]
    have h00 : dpP F P B ((A.length + ([] : List Str).length : Nat) : Int) (.inn c) A.length := by
      show (if c ∈ F then _ else _)
      rw [if_pos hc]
      by_cases hB : B = []
      · rw [if_pos hB]
        exact .inr (by rw [List.length_nil, Nat.add_zero])
      · rw [if_neg hB, if_neg (hge hB)]
        exact ⟨h1 hB, by rw [List.length_nil, Nat.add_zero]⟩
    refine ⟨⟨_, h00⟩, by rw [hT]; omega, ?_⟩
    rw [hT, dpN_ne (by rw [hR]; simp), hR]
    exact ih _ (fun _ => h00) (fun z => by simp at z)
  | @lvL A B C D E r c hc _ ih =>
    intro P h1 h0
    have hT : dpT F ((A.length + C.length : Nat) : Int) (.inn c) = (((c :: A).length + C.length : Nat) : Int) := by
      show (if c ∈ F then _ else _) = _
      rw [if_neg hc, List.length_cons]
      omega
    have hR : dpRun F B (.inn c) = B := by
      show (if c ∈ F then _ else B) = _
      rw [if_neg hc]
    have hp : ∀ k, P k → dpP F P B ((A.length + C.length : Nat) : Int) (.inn c) (k + 1) := fun k hk => by
      show (if c ∈ F then _ else _)
      rw [if_neg hc]
      exact .inr (by rw [show k + 1 - 1 = k by omega]; exact hk)
    have hex : ∃ k, dpP F P B ((A.length + C.length : Nat) : Int) (.inn c) k := by
      by_cases hB : B = []
      · exact ⟨_, hp 0 (h0 hB)⟩
      · exact ⟨_, hp _ (h1 hB)⟩
    refine ⟨hex, by rw [hT]; omega, ?_⟩
    rw [hR, hT]
    refine ih _ (fun hB => ?_) (fun hB => ?_)
    · rw [dpN_ne (by rw [hR]; exact hB)]
      have := hp _ (h1 hB)
      rw [List.length_cons]
      exact this
    · rw [dpN_nil (by rw [hR]; exact hB), hT]
      exact ⟨Int.le_refl _, by omega⟩
  | @lvR A B C D E r c hc _ ih =>
    intro P h1 h0
    have hT : dpT F ((A.length + C.length : Nat) : Int) (.inn c) = ((A.length + (C ++ [c]).length : Nat) : Int) := by
      show (if c ∈ F then _ else _) = _
      rw [if_neg hc, List.length_append, List.length_singleton]
      omega
    have hR : dpRun F B (.inn c) = B := by
      show (if c ∈ F then _ else B) = _
      rw [if_neg hc]
    have hp : ∀ k, P k → dpP F P B ((A.length + C.length : Nat) : Int) (.inn c) k := fun k hk => by
      show (if c ∈ F then _ else _)
      rw [if_neg hc]
      exact .inl hk
    have hex : ∃ k, dpP F P B ((A.length + C.length : Nat) : Int) (.inn c) k := by
      by_cases hB : B = []
      · exact ⟨_, hp 0 (h0 hB)⟩
      · exact ⟨_, hp _ (h1 hB)⟩
    refine ⟨hex, by rw [hT]; omega, ?_⟩
    rw [hR, hT]
    refine ih _ (fun hB => ?_) (fun hB => ?_)
    · rw [dpN_ne (by rw [hR]; exact hB)]
      exact hp _ (h1 hB)
    · rw [dpN_nil (by rw [hR]; exact hB), hT]
      exact ⟨Int.le_refl _, by omega⟩
  | @outL A B C D E r x _ ih =>
    intro P h1 h0
    have hT : dpT F (((x :: A).length + C.length : Nat) : Int) .out = ((A.length + C.length : Nat) : Int) := by
      show (((x :: A).length + C.length : Nat) : Int) - 1 = _
      rw [List.length_cons]
      omega
    have hp : B ≠ [] → dpP F P B (((x :: A).length + C.length : Nat) : Int) .out A.length := fun hB => .inr ⟨by have := h1 hB; rw [List.length_cons] at this; exact this, by omega⟩
    have h00 : B = [] → dpP F P B (((x :: A).length + C.length : Nat) : Int) .out 0 := fun hB => .inl ⟨h0 hB, by rw [List.length_cons]; omega⟩
    have hex : ∃ k, dpP F P B (((x :: A).length + C.length : Nat) : Int) .out k := by
      by_cases hB : B = []
      · exact ⟨_, h00 hB⟩
      · exact ⟨_, hp hB⟩
    refine ⟨hex, by rw [hT]; omega, ?_⟩
    rw [hT]
    refine ih _ (fun hB => ?_) (fun hB => ?_)
    · rw [dpN_ne (show dpRun F B .out ≠ [] from hB)]
      exact hp hB
    · rw [dpN_nil (show dpRun F B .out = [] from hB), hT]
      exact ⟨Int.le_refl _, by omega⟩
  | @outR A B C D E r x _ ih =>
    intro P h1 h0
    have hT : dpT F ((A.length + (C ++ [x]).length : Nat) : Int) .out = ((A.length + C.length : Nat) : Int) := by
      show ((A.length + (C ++ [x]).length : Nat) : Int) - 1 = _
      rw [List.length_append, List.length_singleton]
      omega
    have hp : B ≠ [] → dpP F P B ((A.length + (C ++ [x]).length : Nat) : Int) .out A.length := fun hB => .inl ⟨h1 hB, by rw [List.length_append, List.length_singleton]; omega⟩
    have h00 : B = [] → dpP F P B ((A.length + (C ++ [x]).length : Nat) : Int) .out 0 := fun hB => .inl ⟨h0 hB, by rw [List.length_append, List.length_singleton]; omega⟩
    have hex : ∃ k, dpP F P B ((A.length + (C ++ [x]).length : Nat) : Int) .out k := by
      by_cases hB : B = []
      · exact ⟨_, h00 hB⟩
      · exact ⟨_, hp hB⟩
    refine ⟨hex, by rw [hT]; omega, ?_⟩
    rw [hT]
    refine ih _ (fun hB => ?_) (fun hB => ?_)
    · rw [dpN_ne (show dpRun F B .out ≠ [] from hB)]
      exact hp hB
    · rw [dpN_nil (show dpRun F B .out = [] from hB), hT]
      exact ⟨Int.le_refl _, by omega⟩
/-- what the law decides -/
def canAr (xs : List Str) (es : List Ev) (F : List Str) : Prop :=
  (∀ c ∈ F, c ∈ xs ++ arrs es) ∧ cutN xs (brg xs F) = F.filter (fun c => decide (c ∈ xs)) ∧
    dpR F (fun k => k = (brg xs F).1) (F.filter fun c => decide (c ∈ xs)) ((xs.length : Int) - ((F.filter fun c => decide (c ∈ xs)).length : Nat)) es
theorem canAr_iff {xs F : List Str} {es : List Ev} (hn : (xs ++ arrs es).Nodup) : canAr xs es F ↔ Run xs es F := by
  constructor
  · rintro ⟨_, h2, h3⟩
    obtain ⟨A, M, C, e, hA, hC, hb1, hb2⟩ := brg_cut xs F
    rw [hb1] at h2
    rw [← h2] at h3
    have := dp_sound (xs := xs) es [] (fun k => k = ((brg xs F).1 : Int)) _ _ (fun k hk => ?_) ⟨_, rfl⟩ h3
    · exact this
    · by_cases hM : M = []
      · have hk : k = ((brg xs F).1 : Int) := hk
        rw [hb2, if_pos hM] at hk
        refine ⟨[], xs, by rw [hk]; rfl, ?_, ?_⟩
        · rw [hM]
          show ((0 + xs.length : Nat) : Int) = (xs.length : Int) - ((0 : Nat) : Int)
          omega
        · rw [hM]
          exact .nil _
      · have hk : k = ((brg xs F).1 : Int) := hk
        rw [hb2, if_neg hM] at hk
        refine ⟨A, C, hk.symm, ?_, ?_⟩
        · rw [e, List.length_append, List.length_append]
          omega
        · rw [← e]
          exact .nil _
  · intro h
    have hF := h.nodup hn
    refine ⟨h.mem, ?_⟩
    obtain ⟨A, B, C, D, E, rfl, hS, hA⟩ := split h hn
    obtain ⟨b1, b2⟩ := hS.blk hn hA
    have hl : ∀ x ∈ D ++ E, x ∉ A ++ B ++ C := fun x hx z => (List.nodup_append.mp hn).2.2 x z x (hS.late x hx) rfl
    have hfil : F.filter (fun c => decide (c ∈ A ++ B ++ C)) = B := by
      have e1 : D.filter (fun c => decide (c ∈ A ++ B ++ C)) = [] := List.filter_eq_nil_iff.mpr fun x hx => by simpa using hl x (List.mem_append_left _ hx)
      have e2 : E.filter (fun c => decide (c ∈ A ++ B ++ C)) = [] := List.filter_eq_nil_iff.mpr fun x hx => by simpa using hl x (List.mem_append_right _ hx)
      have e3 : B.filter (fun c => decide (c ∈ A ++ B ++ C)) = B := List.filter_eq_self.mpr fun x hx => decide_eq_true (by simp [hx])
      have : (D ++ B ++ E).filter (fun c => decide (c ∈ A ++ B ++ C)) = B := by rw [List.filter_append, List.filter_append, e1, e2, e3]; simp
      rw [← hS.eqF] at this
      exact this
    rw [hfil]
    have ht : (((A ++ B ++ C).length : Nat) : Int) - (B.length : Nat) = ((A.length + C.length : Nat) : Int) := by
      rw [List.length_append, List.length_append]
      omega
    rw [ht]
    refine ⟨?_, dp_full hS hF _ (fun hB => ?_) (fun hB => ?_)⟩
    · rw [b1]
      by_cases q : B = []
      · rw [if_pos q, q]
        rfl
      · rw [if_neg q, cut_mid]
    · show ((A.length : Nat) : Int) = ((brg (A ++ B ++ C) F).1 : Int)
      rw [b1, if_neg hB]
    · show (0 : Int) = ((brg (A ++ B ++ C) F).1 : Int)
      rw [b1, if_pos hB]
      rfl
end Ln


set_option Elab.async false
set_option linter.all false
set_option maxRecDepth 100000
set_option maxHeartbeats 4000000
namespace Ln
open PySem PySem.Spec PyProof.Rows L2 GxR
structure Bs (mg : Str → Option Value) : Prop where
  srt : mg "sorted" = none
theorem filt_takeI (xs : List Int) (p : Int → Bool) (i : Nat) (c : Int) (h : xs[i]? = some c) : (xs.take (i + 1)).filter p = (xs.take i).filter p ++ if p c = true then [c] else [] := by
  rw [List.take_add_one, h, List.filter_append]
  congr 1
  show List.filter p [c] = _
  by_cases q : p c = true
  · rw [if_pos q, List.filter_cons_of_pos q]
    rfl
  · rw [if_neg q, List.filter_cons_of_neg q]
    rfl
theorem nd_len : ∀ {L M : List Int}, L.Nodup → (∀ x ∈ L, x ∈ M) → L.length ≤ M.length
  | [], M, _, _ => Nat.zero_le _
  | x :: r, M, h, hs => by
    obtain ⟨h1, h2⟩ := List.nodup_cons.mp h
    have hx := hs x List.mem_cons_self
    have ih := nd_len (L := r) (M := M.erase x) h2 fun y hy => (List.mem_erase_of_ne fun e => h1 (by rw [← e]; exact hy)).mpr (hs y (List.mem_cons_of_mem _ hy))
    rw [List.length_erase_of_mem hx] at ih
    have : 0 < M.length := List.length_pos_of_mem hx
    rw [List.length_cons]
    omega
theorem sm_refl {H : Hp} : L2.Same H H := fun _ _ e => e
theorem sm_trans {H H1 H2 : Hp} (a : L2.Same H H1) (b : L2.Same H1 H2) : L2.Same H H2 := fun c u e => b c u (a c u e)
theorem sm_none {H H1 : Hp} {a : Addr} (k : L2.Same H H1) (h : H1 a = none) : H a = none := by
  cases e : H a with
  | none => rfl
  | some u =>
    rw [k _ _ e] at h
    cases h
/-- a list that is new: writing to it leaves the old as it is -/
theorem sm_upd {H H1 : Hp} {a : Addr} {o : HO} (k : L2.Same H H1) (h : H a = none) : L2.Same H (L2.upd H1 a o) := fun b u e => by
  rw [upd_ne (fun z => by rw [z, h] at e; cases e)]
  exact k b u e
theorem sm_new {H H1 : Hp} {p : Addr} {o : HO} (k : L2.Same H H1) (hp : H1 p = none) : L2.Same H (L2.upd H1 p o) := sm_upd k (sm_none k hp)
theorem sq_sm {K : PySem.W.Frag} {H H1 : Hp} {a : Addr} {xs : List V} (h : SqL K H a xs) (k : L2.Same H H1) : SqL K H1 a xs := by
  rcases h with (e | ⟨ob, e⟩) | e
  · exact .inl (.inl (k _ _ e))
  · exact .inl (.inr ⟨ob, k _ _ e⟩)
  · exact .inr e
theorem shaped_ints' (ns : List Int) : SeqAt.shaped (.list (ns.map PyData.int)) = true := by
  have lay : ∀ ns : List Int, PyData.canLayAll0 (ns.map PyData.int) = true := fun ns => by
    induction ns with
    | nil => rfl
    | cons n r ih =>
      rw [List.map_cons, PyData.canLayAll0, ih]
      rfl
  have dep : ∀ ns : List Int, PyData.depthAll (ns.map PyData.int) ≤ 1 := fun ns => by
    induction ns with
    | nil => rw [List.map_nil, PyData.depthAll]; omega
    | cons n r ih =>
      rw [List.map_cons, PyData.depthAll, PyData.depth]
      omega
  unfold SeqAt.shaped
  rw [Bool.and_eq_true]
  refine ⟨by rw [PyData.canLay0]; exact lay ns, decide_eq_true ?_⟩
  have := dep ns
  rw [PyData.depth]
  omega
theorem eqv_nilT (xs : List Str) : PyData.eqv (.tuple (xs.map PyData.str)) (.tuple []) = decide (xs = []) := by
  have := eqv_strs xs []
  exact this
theorem sortset {K : PySem.W.Frag} {w : World} {H : Hp} {D : Addr} {ns : List Int} {Q : VK} (hD : SqL K H D (ns.map V.int)) (few : ns.length < 64)
    (h : ∀ (H' : Hp) (p : Addr) (ms : List Int), L2.Same H H' → H' p = some (.lst (ms.map V.int)) → ms.Nodup → (∀ k, k ∈ ms ↔ k ∈ ns) → Q (.ref p) H') : rSetI K w [.ref D] H fun x H1 => rSortedSet w [x] H1 Q :=
  ⟨D, ns, rfl, hD, by omega, fun a L ha nd hm => ⟨a, _, _, rfl, upd_same, Nat.lt_of_le_of_lt (nd_len nd fun k hk => (hm k).mp hk) few, fun ms p pw hm2 _ hp =>
    h _ p ms (sm_new (sm_new sm_refl ha) hp) upd_same (pw.imp fun {a b} q e => by omega) fun k => (hm2 k).trans decide_eq_true_iff⟩⟩
theorem cat_l {K : PySem.W.Frag} {H : Hp} {p r : Addr} {c : Str} {run : List Str} {Q : VK} (hp : TupD H p [.str c]) (hR : TupD H r (run.map V.str)) (few : run.length ≤ 300)
    (h : ∀ (H' : Hp) (b : Addr), L2.Same H H' → TupD H' b ((c :: run).map V.str) → Q (.ref b) H') : rCatD K (.ref p) (.ref r) H Q := by
  refine ⟨p, r, _, _, rfl, rfl, hp.sq, hR.sq, ?_, (fun z => absurd z (List.cons_ne_nil _ _)), fun _ h0 => ?_, fun _ h0 p2 ob2 hob2 hp2 => ?_⟩
  · rw [List.length_map]
    have : 1 + run.length < sizeLine := small1000 (by omega)
    exact Nat.le_of_lt this
  · have : run = [] := List.map_eq_nil_iff.mp h0
    subst this
    exact h _ p sm_refl hp
  · exact h _ p2 (sm_new sm_refl hp2) (TupD.of hob2)
theorem cat_r {K : PySem.W.Frag} {H : Hp} {p r : Addr} {c : Str} {run : List Str} {Q : VK} (hp : TupD H p [.str c]) (hR : TupD H r (run.map V.str)) (few : run.length ≤ 300)
    (h : ∀ (H' : Hp) (b : Addr), L2.Same H H' → TupD H' b ((run ++ [c]).map V.str) → Q (.ref b) H') : rCatD K (.ref r) (.ref p) H Q := by
  refine ⟨r, p, _, _, rfl, rfl, hR.sq, hp.sq, ?_, fun h0 => ?_, (fun _ z => absurd z (List.cons_ne_nil _ _)), fun h0 _ p2 ob2 hob2 hp2 => ?_⟩
  · rw [List.length_map]
    have : run.length + 1 < sizeLine := small1000 (by omega)
    exact Nat.le_of_lt this
  · have : run = [] := List.map_eq_nil_iff.mp h0
    subst this
    exact h _ p sm_refl hp
  · refine h _ p2 (sm_new sm_refl hp2) ?_
    rw [List.map_append]
    exact TupD.of hob2
section
variable {P : Program} {w : World} {K : PySem.W.Frag} {mg : Str → Option Value} {base : Heap} {Ps : List Addr}
def spJoined (K : PySem.W.Frag) : Sp := fun vs H Q _ => ∃ (l r f : Addr) (c : Str) (total : Int) (ns : List Int) (run F : List Str), vs = [.ref l, .ref r, .str c, .ref f, .int total] ∧ SqL K H l (ns.map V.int) ∧ ns.length < 64 ∧ TupD H r (run.map V.str) ∧ run.length ≤ 300 ∧ (∀ x ∈ run, carB x = true) ∧ (∀ x ∈ run, x ∈ F) ∧ TupD H f (F.map V.str) ∧ c ∈ F ∧
  ∀ (H' : Hp) (p a b : Addr) (ms : List Int), L2.Same H H' → H' p = some (.tup [.ref a, .ref b]) → H' a = some (.lst (ms.map V.int)) → TupD H' b ((dpRun F run (.inn c)).map V.str) → ms.Nodup → (∀ k, k ∈ ms ↔ dpP F (fun k => k ∈ ns) run total (.inn c) k) → Q (.ref p) H'
end
end Ln


set_option Elab.async false
set_option linter.all false
set_option maxRecDepth 100000
set_option maxHeartbeats 4000000
namespace Ln
open PySem PySem.Spec PyProof.Rows L2 GxR
/-- the cars of a lane that stand in another -/
def keepL (F xs : List Str) : List Str := F.filter fun c => decide (c ∈ xs)
/-- how many cars of the initial lane leave on the left and on the right -/
def lfV (H : Hp) (v : V) (xs F : List Str) : Prop :=
  if plcs F 0 xs = [] then v = .non else ∃ p, v = .ref p ∧ H p = some (.tup (if cutN xs (brg xs F) = keepL F xs then [.int (brg xs F).1, .int ((xs.length : Int) - (brg xs F).2)] else [.int (-1), .int (-1)]))
theorem eqv_nilI (ns : List Int) : PyData.eqv (.list (ns.map PyData.int)) (.list []) = decide (ns = []) := by
  cases ns with
  | nil => rfl
  | cons n r => rfl
theorem dp_ints' {K : PySem.W.Frag} {H : Hp} : ∀ ns : List Int, DpAll K H (ns.map V.int) (ns.map PyData.int)
  | [] => .nil
  | n :: r => .cons (.int n) (dp_ints' r)
theorem cut_sl {K : PySem.W.Frag} {H : Hp} {a : Addr} {xs : List Str} {p : Nat × Nat} {Q : VK} (hA : SqT K H a (xs.map V.str)) (h1 : p.1 ≤ xs.length) (h2 : p.2 ≤ xs.length)
    (q : ∀ H' z, L2.Same H H' → SqT K H' z ((cutN xs p).map V.str) → Q (.ref z) H') : rSlA K (.ref a) (some ((p.1 : Nat) : Int)) (some ((p.2 : Nat) : Int)) H Q := by
  have hcut : cutV (xs.map V.str) (some ((p.1 : Nat) : Int)) (some ((p.2 : Nat) : Int)) = (cutN xs p).map V.str := by
    rw [cutV_nat (by rw [List.length_map]; exact h1) (by rw [List.length_map]; exact h2)]
    unfold cutN
    rw [← List.map_take, ← List.map_drop]
  refine ⟨a, _, rfl, hA, fun hw => ?_, fun _ z hz => ?_⟩
  · refine q H a sm_refl ?_
    rw [HT.sIx_nat, HT.sIx_nat, List.length_map, Nat.min_eq_left h1, Nat.min_eq_left h2] at hw
    have e : cutN xs p = xs := by
      unfold cutN
      rw [hw.1, hw.2, List.take_length]
      rfl
    rw [e]
    exact hA
  · rw [hcut]
    exact q _ z (sm_new sm_refl hz) (SqT.of upd_same)
section
variable {P : Program} {w : World} {K : PySem.W.Frag} {mg : Str → Option Value} {base : Heap} {Ps : List Addr}
def spLeftF (K : PySem.W.Frag) : Sp := fun vs H Q _ => ∃ (a f : Addr) (xs F : List Str), vs = [.ref a, .ref f] ∧ TupD H a (xs.map V.str) ∧ TupD H f (F.map V.str) ∧ xs.length ≤ 300 ∧ F.length ≤ 300 ∧ (∀ x ∈ xs, carB x = true) ∧ (∀ x ∈ F, carB x = true) ∧
  ∀ (H' : Hp) (v : V), L2.Same H H' → lfV H' v xs F → Q v H'
end
end Ln


set_option Elab.async false
set_option linter.all false
set_option maxRecDepth 100000
set_option maxHeartbeats 8000000
namespace Ln
open PySem PySem.Spec PyProof.Rows L2 GxR
theorem sortsetB {K : PySem.W.Frag} {w : World} {H : Hp} {D : Addr} {ns : List Int} {Q : VK} (hD : SqL K H D (ns.map V.int)) (few : ns.length ≤ 1000) (rg : ∀ k ∈ ns, 0 ≤ k ∧ k < 60)
    (h : ∀ (H' : Hp) (p : Addr) (ms : List Int), L2.Same H H' → H' p = some (.lst (ms.map V.int)) → ms.Nodup → (∀ k, k ∈ ms ↔ k ∈ ns) → Q (.ref p) H') : rSetI K w [.ref D] H fun x H1 => rSortedSet w [x] H1 Q :=
  ⟨D, ns, rfl, hD, few, fun a L ha nd hm => ⟨a, _, _, rfl, upd_same, Nat.lt_of_le_of_lt (nd_len (M := (List.range 60).map fun n : Nat => (n : Int)) nd fun k hk => by
      obtain ⟨h1, h2⟩ := rg k ((hm k).mp hk)
      exact List.mem_map.mpr ⟨k.toNat, List.mem_range.mpr (by omega), by omega⟩) (by rw [List.length_map, List.length_range]; decide), fun ms p pw hm2 _ hp =>
    h _ p ms (sm_new (sm_new sm_refl ha) hp) upd_same (pw.imp fun {a b} q e => by omega) fun k => (hm2 k).trans decide_eq_true_iff⟩⟩
theorem cnt_take' : ∀ (es : List Ev) (n m j : Nat), cnt n es = some m → j ≤ es.length → ∃ k, cnt n (es.take j) = some k ∧ (k : Int) = endI n (es.take j)
  | [], n, m, j, _, hj => by
    have : j = 0 := by simpa using hj
    subst this
    exact ⟨n, rfl, rfl⟩
  | .inn c :: r, n, m, 0, _, _ => ⟨n, rfl, rfl⟩
  | .out :: r, n, m, 0, h, _ => ⟨n, rfl, rfl⟩
  | .inn c :: r, n, m, j + 1, h, hj => by
    obtain ⟨k, h1, h2⟩ := cnt_take' r (n + 1) m j h (by simpa using hj)
    exact ⟨k, h1, by rw [h2]; rfl⟩
  | .out :: r, n, m, j + 1, h, hj => by
    have h : (if 0 < n then cnt (n - 1) r else none) = some m := h
    by_cases q : 0 < n
    · rw [if_pos q] at h
      obtain ⟨k, h1, h2⟩ := cnt_take' r (n - 1) m j h (by simpa using hj)
      refine ⟨k, ?_, ?_⟩
      · show (if 0 < n then cnt (n - 1) (r.take j) else none) = some k
        rw [if_pos q, h1]
      · rw [h2]
        show endI ((n - 1 : Nat) : Int) (r.take j) = endI ((n : Int) - 1) (r.take j)
        rw [show ((n - 1 : Nat) : Int) = (n : Int) - 1 by omega]
    · rw [if_neg q] at h
      cases h
/-- the state behind i events -/
structure DS (xs F : List Str) (es : List Ev) (i : Nat) (ns : List Int) (run : List Str) (total : Int) (G : Prop) : Prop where
  eq : G ↔ dpR F (fun k => k ∈ ns) run total (es.drop i)
  nd : ns.Nodup
  rg : ∀ k ∈ ns, 0 ≤ k ∧ k ≤ total
  sz : (run.length : Int) + total = endI xs.length (es.take i)
  sub : ∀ x ∈ run, x ∈ F
  t0 : 0 ≤ total
theorem dpP_rg {F run : List Str} {ns : List Int} {total : Int} {e : Ev} (h : ∀ k ∈ ns, 0 ≤ k ∧ k ≤ total) (t0 : 0 ≤ total) {k : Int} (hk : dpP F (fun k => k ∈ ns) run total e k) : 0 ≤ k ∧ k ≤ dpT F total e := by
  cases e with
  | out =>
    have hk : (k ∈ ns ∧ k ≤ total - 1) ∨ (k + 1 ∈ ns ∧ k + 1 > 0) := hk
    show 0 ≤ k ∧ k ≤ total - 1
    rcases hk with ⟨h1, h2⟩ | ⟨h1, h2⟩
    · exact ⟨(h k h1).1, h2⟩
    · have := (h _ h1).2
      omega
  | inn c =>
    have hk : (if c ∈ F then (if run = [] then k = 0 ∨ k = total else if F.idxOf c < F.idxOf (run.headD c) then k ∈ ns ∧ k = 0 else k ∈ ns ∧ k = total) else k ∈ ns ∨ k - 1 ∈ ns) := hk
    show 0 ≤ k ∧ k ≤ (if c ∈ F then total else total + 1)
    by_cases hc : c ∈ F
    · rw [if_pos hc] at hk ⊢
      split at hk
      · rcases hk with z | z <;> omega
      · split at hk <;> exact h k hk.1
    · rw [if_neg hc] at hk ⊢
      rcases hk with z | z
      · have := h _ z
        omega
      · have := h _ z
        omega
theorem dpRun_sz {F run : List Str} {e : Ev} {total : Int} : ((dpRun F run e).length : Int) + dpT F total e = endI ((run.length : Int) + total) [e] := by
  cases e with
  | out =>
    show (run.length : Int) + (total - 1) = (run.length : Int) + total - 1
    omega
  | inn c =>
    show (((if c ∈ F then (if run = [] ∨ F.idxOf c < F.idxOf (run.headD c) then c :: run else run ++ [c]) else run) : List Str).length : Int) + (if c ∈ F then total else total + 1) = (run.length : Int) + total + 1
    by_cases hc : c ∈ F
    · rw [if_pos hc, if_pos hc]
      split
      · rw [List.length_cons]; omega
      · rw [List.length_append, List.length_singleton]; omega
    · rw [if_neg hc, if_neg hc]
      omega
theorem dpRun_sub {F run : List Str} {e : Ev} (h : ∀ x ∈ run, x ∈ F) : ∀ x ∈ dpRun F run e, x ∈ F := by
  cases e with
  | out => exact h
  | inn c =>
    intro x hx
    have hx : x ∈ (if c ∈ F then (if run = [] ∨ F.idxOf c < F.idxOf (run.headD c) then c :: run else run ++ [c]) else run) := hx
    by_cases hc : c ∈ F
    · rw [if_pos hc] at hx
      split at hx
      · rcases List.mem_cons.mp hx with z | z
        · rw [z]; exact hc
        · exact h x z
      · rcases List.mem_append.mp hx with z | z
        · exact h x z
        · rw [List.mem_singleton.mp z]; exact hc
    · rw [if_neg hc] at hx
      exact h x hx
section
variable {xs F run : List Str} {es : List Ev} {i : Nat} {ns ms : List Int} {total : Int} {G : Prop} {e : Ev}
theorem DS.no (S : DS xs F es i ns run total G) (he : es[i]? = some e) (hm : ∀ k, k ∈ ms ↔ dpP F (fun k => k ∈ ns) run total e k) (h : ms = [] ∨ dpT F total e < 0) : ¬ G := fun g => by
  have h2 := S.eq.mp g
  have hd : es.drop i = e :: es.drop (i + 1) := by
    obtain ⟨hi, h3⟩ := List.getElem?_eq_some_iff.mp he
    rw [List.drop_eq_getElem_cons hi, h3]
  rw [hd] at h2
  obtain ⟨⟨k, hk⟩, ht, _⟩ := h2
  rcases h with z | z
  · have := (hm k).mpr hk
    rw [z] at this
    cases this
  · omega
theorem DS.step {ns' : List Int} (S : DS xs F es i ns run total G) (he : es[i]? = some e) (hm : ∀ k, k ∈ ms ↔ dpP F (fun k => k ∈ ns) run total e k) (h1 : ms ≠ []) (h2 : 0 ≤ dpT F total e) (nd : ns'.Nodup)
    (hn : ∀ k, k ∈ ns' ↔ if dpRun F run e = [] then 0 ≤ k ∧ k ≤ dpT F total e else k ∈ ms) : DS xs F es (i + 1) ns' (dpRun F run e) (dpT F total e) G := by
  have hd : es.drop i = e :: es.drop (i + 1) := by
    obtain ⟨hi, h3⟩ := List.getElem?_eq_some_iff.mp he
    rw [List.drop_eq_getElem_cons hi, h3]
  have hP : (fun k => k ∈ ns') = dpN F (fun k => k ∈ ns) run total e := by
    funext k
    unfold dpN
    rw [propext (hn k)]
    by_cases q : dpRun F run e = []
    · rw [if_pos q, if_pos q]
    · rw [if_neg q, if_neg q, propext (hm k)]
  refine ⟨?_, nd, fun k hk => ?_, ?_, dpRun_sub S.sub, h2⟩
  · rw [S.eq, hd, hP]
    obtain ⟨k, hk⟩ := List.exists_mem_of_ne_nil _ h1
    exact ⟨fun ⟨_, _, z⟩ => z, fun z => ⟨⟨k, (hm k).mp hk⟩, h2, z⟩⟩
  · have := (hn k).mp hk
    split at this
    · exact this
    · exact dpP_rg S.rg S.t0 ((hm k).mp this)
  · rw [dpRun_sz, S.sz]
    have : es.take (i + 1) = es.take i ++ [e] := by rw [List.take_add_one, he]; rfl
    rw [this, endI_app]
theorem DS.cap {m : Nat} (S : DS xs F es i ns run total G) (ct : cnt xs.length es = some m) (cap : Capd 40 xs.length es) (hi : i ≤ es.length) : (run.length : Int) + total ≤ 40 := by
  obtain ⟨k, h1, h2⟩ := cnt_take' es xs.length m i ct hi
  have := cap i k h1
  rw [S.sz, ← h2]
  omega
theorem ds_start (hF : cutN xs (brg xs F) = keepL F xs) : DS xs F es 0 [((brg xs F).1 : Int)] (keepL F xs) ((xs.length : Int) - ((keepL F xs).length : Nat)) (dpR F (fun k => k = (brg xs F).1) (keepL F xs) ((xs.length : Int) - ((keepL F xs).length : Nat)) es) := by
  obtain ⟨A, M, C, e, hA, hC, hb1, hb2⟩ := brg_cut xs F
  rw [hb1] at hF
  have hl : xs.length = A.length + M.length + C.length := by rw [e, List.length_append, List.length_append]
  refine ⟨?_, by simp, fun k hk => ?_, ?_, fun x hx => (List.mem_filter.mp hx).1, ?_⟩
  · have : (fun k => k = ((brg xs F).1 : Int)) = fun k => k ∈ [((brg xs F).1 : Int)] := by
      funext k
      simp
    rw [this]
    rfl
  · rw [List.mem_singleton.mp hk, ← hF, hl, hb2]
    by_cases q : M = []
    · rw [if_pos q]
      show (0 : Int) ≤ ((0 : Nat) : Int) ∧ ((0 : Nat) : Int) ≤ _
      omega
    · rw [if_neg q]
      show (0 : Int) ≤ (A.length : Nat) ∧ ((A.length : Nat) : Int) ≤ _
      omega
  · show _ = (xs.length : Int)
    omega
  · rw [← hF, hl]
    omega
end
end Ln


set_option Elab.async false
set_option linter.all false
set_option maxRecDepth 100000
set_option maxHeartbeats 8000000
namespace Ln
open PySem PySem.Spec PyProof.Rows L2 GxR
theorem filt_takeG {α : Type} (xs : List α) (p : α → Bool) (i : Nat) (c : α) (h : xs[i]? = some c) : (xs.take (i + 1)).filter p = (xs.take i).filter p ++ if p c = true then [c] else [] := by
  rw [List.take_add_one, h, List.filter_append]
  congr 1
  show List.filter p [c] = _
  by_cases q : p c = true
  · rw [if_pos q, List.filter_cons_of_pos q]
    rfl
  · rw [if_neg q, List.filter_cons_of_neg q]
    rfl
theorem eqv_nilS (xs : List Str) : PyData.eqv (.list (xs.map PyData.str)) (.list []) = decide (xs = []) := by
  cases xs with
  | nil => rfl
  | cons n r => rfl
def dropL (F kn : List Str) : List Str := F.filter fun c => !decide (c ∈ kn)
theorem dropL_nil {F kn : List Str} : dropL F kn = [] ↔ ∀ c ∈ F, c ∈ kn := by
  unfold dropL
  rw [List.filter_eq_nil_iff]
  exact ⟨fun h c hc => by simpa using h c hc, fun h c hc => by simpa using h c hc⟩
theorem shaped_m11 (a b : Int) : SeqAt.shaped (.tuple [.int a, .int b]) = true := by
  unfold SeqAt.shaped
  rw [Bool.and_eq_true]
  exact ⟨rfl, rfl⟩
theorem nd_range (n : Nat) : ((List.range n).map fun i => (0 : Int) + ((i : Nat) : Int)).Nodup := List.pairwise_map.mpr (List.nodup_range.imp fun {a b} h z => h (by omega))
theorem mem_range0 {n : Nat} {k : Int} : k ∈ ((List.range n).map fun i => (0 : Int) + ((i : Nat) : Int)) ↔ 0 ≤ k ∧ k < n := by
  rw [List.mem_map]
  constructor
  · rintro ⟨i, hi, rfl⟩
    have := List.mem_range.mp hi
    omega
  · intro h
    exact ⟨k.toNat, List.mem_range.mpr (by omega), by omega⟩
section
variable {P : Program} {w : World} {K : PySem.W.Frag} {mg : Str → Option Value} {base : Heap} {Ps : List Addr}
def spCanAr (K : PySem.W.Frag) : Sp := fun vs H Q _ => ∃ (a l f : Addr) (xs : List Str) (as : List Addr) (es : List Ev) (F : List Str) (m : Nat), vs = [.ref a, .ref l, .ref f] ∧ TupD H a (xs.map V.str) ∧ H l = some (.lst (as.map V.ref)) ∧ EvT H as es ∧ TupD H f (F.map V.str) ∧ xs.length ≤ 100 ∧ es.length ≤ 200 ∧ F.length ≤ 300 ∧
  (∀ x ∈ xs, carB x = true) ∧ (∀ x ∈ F, carB x = true) ∧ cnt xs.length es = some m ∧ Capd 40 xs.length es ∧
  ∀ (H' : Hp) (b : Bool), L2.Same H H' → (b = true ↔ canAr xs es F) → Q (.bl b) H'
end
end Ln


set_option Elab.async false
set_option linter.all false
set_option maxRecDepth 100000
set_option maxHeartbeats 8000000
namespace Ln
open PySem PySem.Spec PyProof.Rows L2 GxR
theorem scSwC : FnScope ["initial", "entries", "line", "counts_here", "run", "late", "number", "y", "middle", "left", "low", "needed", "since", "x", "name", "k", "entry"] ["initial", "entries", "line", "counts_here"] (defScope sSwC) := ⟨rfl, rfl, rfl, by decide +kernel, rfl, by decide +kernel, by decide +kernel⟩
theorem lateAt {F : List Str} {es : List Ev} {j : Nat} {c : Str} {k : Nat} (h : (lateF F 0 es)[j]? = some (c, k)) : atI ((lateF F 0 es).map fun p => V.int ((p.2 : Nat) : Int)) ((j : Nat) : Int) = some (.int ((k : Nat) : Int)) := atI_nat (by rw [List.getElem?_map, h]; rfl)
theorem lateAt00 {F : List Str} {es : List Ev} {j : Nat} {c : Str} {k : Nat} (h : (lateF F 0 es)[j]? = some (c, k)) : atI ((lateF F 0 es).map fun p => V.int ((p.2 : Nat) : Int)) (0 + ((j : Nat) : Int)) = some (.int ((k : Nat) : Int)) := by
  rw [Int.zero_add]
  exact lateAt h
theorem dec_lt (a b : Nat) : decide (((a : Nat) : Int) < ((b : Nat) : Int)) = decide (a < b) := decide_eq_decide.mpr (by omega)
theorem outs_le : ∀ es : List Ev, outsN es ≤ es.length := fun es => List.length_filter_le _ _
theorem outs_inn {es : List Ev} {i : Nat} {c : Str} (h : es[i]? = some (.inn c)) : outsN (es.take (i + 1)) = outsN (es.take i) := by
  rw [List.take_add_one, h]
  unfold outsN
  rw [List.filter_append, List.length_append]
  rfl
theorem outs_out {es : List Ev} {i : Nat} (h : es[i]? = some .out) : outsN (es.take (i + 1)) = outsN (es.take i) + 1 := by
  rw [List.take_add_one, h]
  unfold outsN
  rw [List.filter_append, List.length_append]
  rfl
theorem ev_cut {H : Hp} {as : List Addr} {es : List Ev} (h : EvT H as es) {k s i : Nat} {z : V} (hz : (((as.take k).drop s).map V.ref)[i]? = some z) : ∃ b ev, z = .ref b ∧ ((es.take k).drop s)[i]? = some ev ∧ H b = some (.tup ev.vals) := by
  have hl := Paired.length h
  rw [List.getElem?_map, List.getElem?_drop, List.getElem?_take] at hz
  split at hz
  · rename_i lt
    cases hb : as[s + i]? with
    | none => rw [hb] at hz; cases hz
    | some b =>
      rw [hb] at hz
      have hi := (List.getElem?_eq_some_iff.mp hb).1
      obtain ⟨b', h1, h2⟩ := pair_at h (s + i) _ (List.getElem?_eq_getElem (by omega))
      rw [hb] at h1
      cases h1
      refine ⟨b, es[s + i]'(by omega), (Option.some.inj hz).symm, ?_, h2⟩
      rw [List.getElem?_drop, List.getElem?_take, if_pos lt, List.getElem?_eq_getElem (by omega)]
  · cases hz
theorem ev_all {as : List Addr} {es : List Ev} (h : as.length = es.length) {k s : Nat} : ((es.take k).drop s).take ((as.take k).drop s).length = (es.take k).drop s := by
  apply List.take_of_length_le
  rw [List.length_drop, List.length_drop, List.length_take, List.length_take, h]
  exact Nat.le_refl _
theorem late_app {F : List Str} : ∀ (r q : List Ev) (m : Nat), lateF F m (r ++ q) = lateF F m r ++ lateF F (m + r.length) q
  | [], q, m => rfl
  | .out :: r, q, m => by
    show lateF F (m + 1) (r ++ q) = lateF F (m + 1) r ++ lateF F (m + (r.length + 1)) q
    rw [late_app r q (m + 1), Nat.add_assoc, Nat.add_comm 1]
  | .inn c :: r, q, m => by
    show (if c ∈ F then (c, m) :: lateF F (m + 1) (r ++ q) else lateF F (m + 1) (r ++ q)) = (if c ∈ F then (c, m) :: lateF F (m + 1) r else lateF F (m + 1) r) ++ lateF F (m + (r.length + 1)) q
    rw [late_app r q (m + 1), Nat.add_assoc, Nat.add_comm 1]
    split <;> rfl
theorem late_in {F : List Str} {es : List Ev} {i : Nat} {c : Str} (h : es[i]? = some (.inn c)) : lateF F 0 (es.take (i + 1)) = lateF F 0 (es.take i) ++ if c ∈ F then [(c, i)] else [] := by
  have hi := (List.getElem?_eq_some_iff.mp h).1
  rw [List.take_add_one, h, late_app, List.length_take, Nat.min_eq_left (by omega), Nat.zero_add]
  rfl
theorem late_out {F : List Str} {es : List Ev} {i : Nat} (h : es[i]? = some .out) : lateF F 0 (es.take (i + 1)) = lateF F 0 (es.take i) := by
  rw [List.take_add_one, h, late_app]
  show _ ++ ([] : List (Str × Nat)) = _
  rw [List.append_nil]
theorem late_le {F : List Str} : ∀ (r : List Ev) (m : Nat), (lateF F m r).length ≤ r.length
  | [], _ => Nat.le_refl _
  | .out :: r, m => Nat.le_succ_of_le (late_le r (m + 1))
  | .inn c :: r, m => by
    show (if c ∈ F then (c, m) :: lateF F (m + 1) r else lateF F (m + 1) r).length ≤ r.length + 1
    have := late_le (F := F) r (m + 1)
    split
    · rw [List.length_cons]; omega
    · omega
section
variable {P : Program} {w : World} {K : PySem.W.Frag} {mg : Str → Option Value} {base : Heap} {Ps : List Addr}
def swWhy (xs : List Str) (es : List Ev) (F : List Str) : Why := match swC xs es F with
  | some (b, c) => .switch b c
  | none => .ok
def spSwC (K : PySem.W.Frag) : Sp := fun vs H Q _ => ∃ (a l f p : Addr) (xs : List Str) (as : List Addr) (es : List Ev) (F : List Str), vs = [.ref a, .ref l, .ref f, .ref p] ∧ TupD H a (xs.map V.str) ∧ H l = some (.lst (as.map V.ref)) ∧ EvT H as es ∧ es.length ≤ 400 ∧ TupD H f (F.map V.str) ∧ H p = some (.lst ((szs xs.length es).map V.int)) ∧ xs.length ≤ 400 ∧ F.length ≤ 400 ∧ F.Nodup ∧ (xs ++ arrs es).Nodup ∧ hasBlk xs F = true ∧ (∀ x ∈ F, carB x = true) ∧
  ∀ H' v, L2.Same H H' → WhyV H H' v (whyT (swWhy xs es F)) → Q v H'
theorem ok_swC {f0 : Addr} {fd : FuncData} (F0 : Fun K "_law_switch" "_law_switch" sSwC f0 fd) (B : Bi mg) (B2 : Bl mg) : FnOk P w K mg base CX0 1 f0 fd ["initial", "entries", "line", "counts_here"] (spSwC K) := by
  refine F0.ok scSwC (fun vs H Q E h => ?_) (fun cdv A outer s H vs Q E hr h => ?_)
  · obtain ⟨a, l, f, p, xs, as, es, F, rfl, _⟩ := h
    rfl
  · obtain ⟨a, l, f, p, xs, as, es, F, rfl, hA, hL, hE, few, hF, hP, fewx, fewF, hFn, hn, hB, hcar, q⟩ := h
    have hu : A.units + 3 + 64 < cLine := hr.units
    have hlen := Paired.length hE
    have hxn := (List.nodup_append.mp hn).1
    have few3 := late_le (F := F) es 0
    refine ⟨_, (pss_cons (ps_setLc (i := 4) (own := [("name", 14)]) (g := gName 14) (tt := (tTest (tOp (rIn K false) (tVar 14) (tVar 0)))) (te := (tVar 14)) (by rfl) scSwC.nd rfl rfl (sw_true rfl rfl rfl (by decide +kernel)) (pi_tup (pv 2)) (blkOk_by (own := [("name", 14)]) (N := ["initial", "entries", "line", "counts_here", "run", "late", "number", "y", "middle", "left", "low", "needed", "since", "x", "name", "k", "entry"]) (sc := defScope sSwC) (by decide +kernel)) (fun _ _ _ _ _ => (pg_name (i := 14) scSwC.nd rfl (Or.inl rfl))) (fun _ _ _ _ _ => pts_one (pt_cmpR op_in_seq (pv 14) (pv 0) (by rfl))) (fun _ _ _ _ _ => (pv 14)))
      (pss_cons (ps_setLc (i := 5) (own := [("k", 15)]) (g := gName 15) (tt := (tAnd (tTest (tOp rEq (tOp (rIxT K) (tOp (rIxL K) (tVar 1) (tVar 15)) (tC (.int 0))) (tC (.str "in")))) (tTest (tOp (rIn K false) (tOp (rIxT K) (tOp (rIxL K) (tVar 1) (tVar 15)) (tC (.int 1))) (tVar 2))))) (te := (tVar 15)) (by rfl) scSwC.nd rfl rfl (sw_true rfl rfl rfl (by decide +kernel)) (pi_range1 (by rfl) B2.rng (pa_cons (pe_callB call_len_seq (by rfl) B.len PySem.boot_len (pa_cons (pv 1) pa_nil)) pa_nil)) (blkOk_by (own := [("k", 15)]) (N := ["initial", "entries", "line", "counts_here", "run", "late", "number", "y", "middle", "left", "low", "needed", "since", "x", "name", "k", "entry"]) (sc := defScope sSwC) (by decide +kernel)) (fun _ _ _ _ _ => (pg_name (i := 15) scSwC.nd rfl (Or.inl rfl))) (fun _ _ _ _ _ => pts_one (PW.pt (pw_and (pt_cmpR op_eq (pe_ix ix_tup (pe_ix ix_list (pv 1) (pv 15) (fun _ _ => rfl)) pe_int (fun _ _ => rfl)) pe_str (nomark _)) (pw_and1 (pt_cmpR op_in_seq (pe_ix ix_tup (pe_ix ix_list (pv 1) (pv 15) (fun _ _ => rfl)) pe_int (fun _ _ => rfl)) (pv 2) (by rfl)))))) (fun _ _ _ _ _ => (pv 15)))
      (pss_cons (ps_for PassesOwn.never rfl (pi_range1 (by rfl) B2.rng (pa_cons (pe_callB call_len_seq (by rfl) B.len PySem.boot_len (pa_cons (pv 5) pa_nil)) pa_nil)) (pg_name (i := 6) scSwC.nd rfl (.inl rfl))
        (pss_cons (ps_set (i := 7) scSwC.nd rfl (.inl rfl) (pe_ix ix_tup (pe_ix ix_list (pv 1) (pe_ix ix_list (pv 5) (pv 6) (fun _ _ => rfl)) (fun _ _ => rfl)) pe_int (fun _ _ => rfl)))
        (pss_cons (ps_set (i := 8) scSwC.nd rfl (.inl rfl) (pe_ifExp (pt_cmpR (op_neD hu) (pv 4) (pe_lst pa_nil) (nomark _)) (pe_ix ix_list (pv 4) pe_int (fun _ _ => rfl)) (pe_ix ix_tup (pe_ix ix_list (pv 1) (pe_ix ix_list (pv 5) pe_int (fun _ _ => rfl)) (fun _ _ => rfl)) pe_int (fun _ _ => rfl))))
        (pss_cons (ps_set (i := 9) scSwC.nd rfl (.inl rfl) (pe_cmpR op_lt (pe_bmT PySem.F.plainAttrs_tuple PySem.F.slot_tuple_index PySem.F.type_tuple_index mt_tup_index (pv 2) (pa_cons (pv 7) pa_nil)) (pe_bmT PySem.F.plainAttrs_tuple PySem.F.slot_tuple_index PySem.F.type_tuple_index mt_tup_index (pv 2) (pa_cons (pv 8) pa_nil)) (nomark _)))
        (pss_cons (ps_if (PW.pt (pw_and (pt_cmpR op_eq (pv 6) pe_int (nomark _)) (pw_and1 (pt_cmpR (op_eqD hu) (pv 4) (pe_lst pa_nil) (nomark _)))))
          (pss_one ps_continue)
          pss_nil)
        (pss_cons (ps_if (pt_cmpR op_eq (pv 6) pe_int (nomark _))
          (pss_cons (ps_set (i := 10) scSwC.nd rfl (.inl rfl) (pe_bmT PySem.F.plainAttrs_tuple PySem.F.slot_tuple_index PySem.F.type_tuple_index mt_tup_index (pv 0) (pa_cons (pe_ix ix_list (pv 4) pe_int (fun _ _ => rfl)) pa_nil)))
          (pss_cons (ps_par3 (i := 11) (j := 12) (l := 13) (by rfl) scSwC.nd rfl rfl rfl (by decide) (by decide) (by decide) rfl rfl rfl (pa_cons (pv 10) (pa_cons pe_int (pa_cons pe_non pa_nil))) (by rfl))
          (pss_one (ps_if (pt_not (pt_val (pv 9)))
            (pss_one (ps_set (i := 11) scSwC.nd rfl (.inl rfl) (pe_op op_sub (pe_op op_sub (pe_callB call_len_seq (by rfl) B.len PySem.boot_len (pa_cons (pv 0) pa_nil)) (pv 10)) (pe_callB call_len_seq (by rfl) B.len PySem.boot_len (pa_cons (pv 4) pa_nil)))))
            pss_nil))))
          (pss_cons (ps_par (i := 13) (j := 12) (by rfl) scSwC.nd rfl rfl (by decide) rfl rfl (pa_cons (pe_ix ix_tup (pe_ix ix_list (pv 1) (pe_ix ix_list (pv 5) (pe_op op_sub (pv 6) pe_int) (fun _ _ => rfl)) (fun _ _ => rfl)) pe_int (fun _ _ => rfl)) (pa_cons (pe_op op_add (pe_ix ix_list (pv 5) (pe_op op_sub (pv 6) pe_int) (fun _ _ => rfl)) pe_int) pa_nil)) (by rfl))
          (pss_cons (ps_set (i := 11) scSwC.nd rfl (.inl rfl) (pe_op op_sub (pe_op op_sub (pe_ix ix_list (pv 3) (pv 12) (fun _ _ => rfl)) (pe_callB call_len_seq (by rfl) B.len PySem.boot_len (pa_cons (pv 4) pa_nil))) (pv 6)))
          (pss_one (ps_if (PW.pt (pw_or (pt_cmpR op_eq (pv 13) (pv 8) (nomark _)) (pw_or1 (pt_cmpR op_eq (pe_cmpR op_lt (pe_bmT PySem.F.plainAttrs_tuple PySem.F.slot_tuple_index PySem.F.type_tuple_index mt_tup_index (pv 2) (pa_cons (pv 13) pa_nil)) (pe_bmT PySem.F.plainAttrs_tuple PySem.F.slot_tuple_index PySem.F.type_tuple_index mt_tup_index (pv 2) (pa_cons (pv 8) pa_nil)) (nomark _)) (pv 9) (nomark _)))))
            (pss_one (ps_set (i := 11) scSwC.nd rfl (.inl rfl) pe_int))
            pss_nil)))))
        (pss_one (ps_if (pt_cmpR op_lt (pe_callB call_len_seq (by rfl) B.len PySem.boot_len (pa_cons (pe_lc (own := [("entry", 16)]) (g := gName 16) (tt := (tTest (tOp rEq (tOp (rIxT K) (tVar 16) (tC (.int 0))) (tC (.str "out"))))) (te := (tC (.int 1))) (by rfl) scSwC.nd (pi_list (pe_slice sl_list (pv 1) (po_some (pv 12)) (po_some (pe_ix ix_list (pv 5) (pv 6) (fun _ _ => rfl))))) (blkOk_by (own := [("entry", 16)]) (N := ["initial", "entries", "line", "counts_here", "run", "late", "number", "y", "middle", "left", "low", "needed", "since", "x", "name", "k", "entry"]) (sc := defScope sSwC) (by decide +kernel)) (fun _ _ _ _ _ => (pg_name (i := 16) scSwC.nd rfl (Or.inl rfl))) (fun _ _ _ _ _ => pts_one (pt_cmpR op_eq (pe_ix ix_tup (pv 16) pe_int (fun _ _ => rfl)) pe_str (nomark _))) (fun _ _ _ _ _ => pe_int)) pa_nil)) (pv 11) (nomark _))
          (pss_one (ps_ret (pe_tup (pa_cons pe_str (pa_cons (pv 13) (pa_cons (pv 7) pa_nil))))))
          pss_nil))))))))
      (pss_one (ps_ret pe_non))))), ?_⟩
    -- the run
    refine ⟨.ref f, rfl, f, rfl, ⟨_, hF.sq⟩, fun D1 hD1n => ?_⟩
    refine lc_tup (K := K) (a := f) (xs := F.map V.str) (fun i H' => L2.Same H H' ∧ H' D1 = some (.lst ((runF xs (F.take i)).map V.str))) ⟨sm_new sm_refl hD1n, upd_same⟩ (fun i H' _ q => (hF.same q.1).sq) ?_ ?_
    · rintro i y H' hi ⟨sm, hD'⟩
      have hlt : i < F.length := by
        have h1 := (List.getElem?_eq_some_iff.mp hi).1
        rw [List.length_map] at h1
        omega
      have hc : F[i]? = some F[i] := List.getElem?_eq_getElem hlt
      rw [List.getElem?_map, hc] at hi
      obtain rfl := Option.some.inj hi
      have hft := filt_take F xs i _ hc
      refine ⟨rfl, _, rfl, .ref a, rfl, a, _, rfl, .inr (hA.same sm).sq, rfl, flat_strs xs, _, rfl, ?_⟩
      show if inV (.str F[i]) (xs.map V.str) = true then _ else _
      rw [inV_strs]
      by_cases hin : F[i] ∈ xs
      · rw [decide_eq_true hin]
        rw [if_pos hin] at hft
        refine iteT ⟨_, rfl, _, hD', ?_, sm_upd sm hD1n, ?_⟩
        · rw [List.length_map]
          have := List.length_filter_le (fun c => decide (c ∈ xs)) (F.take i)
          rw [List.length_take] at this
          show (List.filter _ _).length < _
          exact small1000 (by omega)
        · rw [upd_same]
          show _ = some (HO.lst ((List.filter _ (F.take (i + 1))).map V.str))
          rw [hft, List.map_append]
          rfl
      · rw [decide_eq_false hin]
        rw [if_neg hin, List.append_nil] at hft
        refine iteF ⟨sm, ?_⟩
        show H' D1 = some (HO.lst ((List.filter _ (F.take (i + 1))).map V.str))
        rw [hft]
        exact hD'
    rintro Hr ⟨smr, hD1⟩
    rw [List.length_map, List.take_length] at hD1
    -- the late ones
    refine ⟨.ref l, rfl, l, _, rfl, .inl (SqL.of (smr _ _ hL)), _, rfl, by rw [List.length_map, hlen]; omega, by rw [List.length_map, hlen]; omega, fun D2 hD2n => ?_⟩
    refine lc_range (lo := 0) (n := (((as.map V.ref).length : Nat) : Int).toNat) (fun i H' => L2.Same Hr H' ∧ H' D2 = some (.lst ((lateF F 0 (es.take i)).map fun p => V.int ((p.2 : Nat) : Int)))) ⟨sm_new sm_refl hD2n, upd_same⟩ ?_ ?_
    · rintro i H' hi ⟨sm, hD'⟩
      rw [Int.toNat_natCast, List.length_map, hlen] at hi
      have hev : es[i]? = some es[i] := List.getElem?_eq_getElem hi
      obtain ⟨b, hb, hbt0⟩ := pair_at hE i _ hev
      have sm' := sm_trans smr sm
      have hbt : SqT K H' b (es[i]).vals := SqT.of (sm' _ _ hbt0)
      have hl' := sm' _ _ hL
      have hF' := (hF.same sm').sq (K := K)
      have at0 : atI (as.map V.ref) (0 + (i : Int)) = some (.ref b) := by
        rw [Int.zero_add]
        exact atI_nat (by rw [List.getElem?_map, hb]; rfl)
      have few4 := late_le (F := F) (es.take i) 0
      rw [List.length_take] at few4
      refine ⟨rfl, ?_⟩
      generalize hev2 : es[i] = ev at hbt
      rw [hev2] at hev
      cases ev with
      | inn c =>
        refine ⟨.ref l, rfl, _, rfl, l, _, _, .ref b, rfl, rfl, SqL.of hl', at0, b, _, 0, .str "in", rfl, rfl, hbt, atI_nat (j := 0) rfl, rfl, _, rfl, ?_⟩
        rw [decide_eq_true (show V.str "in" = V.str "in" from rfl)]
        refine iteT ⟨.ref l, rfl, _, rfl, l, _, _, .ref b, rfl, rfl, SqL.of hl', at0, b, _, 1, .str c, rfl, rfl, hbt, atI_nat (j := 1) rfl, .ref f, rfl, f, _, rfl, .inr hF', rfl, flat_strs F, _, rfl, ?_⟩
        show if inV (.str c) (F.map V.str) = true then _ else _
        rw [inV_strs]
        have hli := late_in (F := F) hev
        by_cases hin : c ∈ F
        · rw [decide_eq_true hin]
          rw [if_pos hin] at hli
          refine iteT ⟨_, rfl, _, hD', ?_, sm_upd sm hD2n, ?_⟩
          · rw [List.length_map]
            exact small1000 (by omega)
          · rw [upd_same, hli, List.map_append, Int.zero_add]
            rfl
        · rw [decide_eq_false hin]
          rw [if_neg hin, List.append_nil] at hli
          refine iteF ⟨sm, ?_⟩
          rw [hli]
          exact hD'
      | out =>
        refine ⟨.ref l, rfl, _, rfl, l, _, _, .ref b, rfl, rfl, SqL.of hl', at0, b, _, 0, .str "out", rfl, rfl, hbt, atI_nat (j := 0) rfl, rfl, _, rfl, ?_⟩
        rw [decide_eq_false (fun z => ne_oi (V.str.inj z))]
        refine iteF (iteF ⟨sm, ?_⟩)
        rw [late_out hev]
        exact hD'
    rintro H2 ⟨sm2, hD2⟩
    rw [Int.toNat_natCast, List.length_map, hlen, List.take_length] at hD2
    have k2 := sm_trans smr sm2
    have hD1 := sm2 _ _ hD1
    cases hrun : runF xs F with
    | nil =>
      rw [hrun] at hD1
      have hcr : ∀ x ∈ ([] : List Str), carB x = true := fun x hx => by
        rw [← hrun] at hx
        exact hcar x (List.mem_filter.mp hx).1
      refine ⟨.ref D2, rfl, D2, _, rfl, .inl (SqL.of hD2), _, rfl, by rw [List.length_map]; omega, by rw [List.length_map]; omega, for_range (lo := 0) (n := (((((lateF F 0 es).map fun p => V.int ((p.2 : Nat) : Int)).length : Nat) : Int)).toNat) (fun i σ H' => ∃ (w6 w7 w8 w9 w10 w11 w12 w13 : Option V), σ = [some (.ref a), some (.ref l), some (.ref f), some (.ref p), some (.ref D1), some (.ref D2), w6, w7, w8, w9, w10, w11, w12, w13, none, none, none] ∧ L2.Same H2 H' ∧ i ≤ (lateF F 0 es).length ∧ swC xs es F = swR xs es F i) ?_ ?_ ?_⟩
      · exact ⟨_, _, _, _, _, _, _, _, rfl, sm_refl, Nat.zero_le _, rfl⟩
      · rintro i σ H' hi ⟨w6, w7, w8, w9, w10, w11, w12, w13, rfl, sm, _, hsw⟩
        rw [List.length_map, Int.toNat_natCast] at hi
        rcases hqy : (lateF F 0 es)[i] with ⟨y, ky⟩
        have hq : (lateF F 0 es)[i]? = some (y, ky) := by rw [List.getElem?_eq_getElem hi, hqy]
        obtain ⟨hey, hyF, hky⟩ := late_ev hq
        have hey : es[ky]? = some (.inn y) := hey
        have hyF : y ∈ F := hyF
        have hky : ky < es.length := hky
        obtain ⟨b, hb, hbt⟩ := pair_at hE ky _ hey

        rcases hqz : (lateF F 0 es)[0]'(by omega) with ⟨c0, k0⟩
        have hq0 : (lateF F 0 es)[0]? = some (c0, k0) := by rw [List.getElem?_eq_getElem (by omega), hqz]
        obtain ⟨he0, hmF, hk0⟩ := late_ev hq0
        have he0 : es[k0]? = some (.inn c0) := he0
        have hmF : c0 ∈ F := hmF
        obtain ⟨b0, hb0, hbt0⟩ := pair_at hE k0 _ he0

        refine ⟨.ref l, rfl, .ref D2, rfl, _, rfl, D2, _, _, .int ((ky : Nat) : Int), rfl, rfl, SqL.of (sm _ _ hD2), lateAt00 hq, l, _, _, .ref b, rfl, rfl, SqL.of (sm _ _ (k2 _ _ hL)), atI_nat (by rw [List.getElem?_map, hb]; rfl), b, _, 1, .str y, rfl, rfl, SqT.of (sm _ _ (k2 _ _ hbt)), atI_nat (j := 1) rfl, ?_⟩
        refine ⟨.ref D1, rfl, Nat.zero_le _, fun e he => ?_⟩
        have smE : L2.Same H' (L2.upd H' e (.lst [])) := sm_new sm_refl he
        refine ⟨.list (([] : List Str).map PyData.str), .list [], .lst (SqL.of (smE _ _ (sm _ _ hD1))) (dp_str _), .lst (SqL.of upd_same) .nil, shaped_strs _ (fun x hx => car_ok (hcr x hx)), shaped_strs [] (fun _ h => nomatch h), _, rfl, ?_⟩
        rw [eqv_nilS, decide_eq_true rfl]
        have smA := sm_trans sm smE
        have smB := sm_trans k2 smA
        generalize L2.upd H' e (.lst []) = H3 at smE smA smB ⊢
        have h13 := smA _ _ hD1
        have h23 := smA _ _ hD2
        have hl3 := smB _ _ hL
        have hp3 := smB _ _ hP
        have hF3 := hF.same smB
        have hA3 := hA.same smB
        refine iteF ⟨.ref l, rfl, .ref D2, rfl, D2, _, 0, .int ((k0 : Nat) : Int), rfl, rfl, SqL.of h23, lateAt hq0, l, _, _, .ref b0, rfl, rfl, SqL.of hl3, atI_nat (by rw [List.getElem?_map, hb0]; rfl), b0, _, 1, .str c0, rfl, rfl, SqT.of (smB _ _ hbt0), atI_nat (j := 1) rfl, ?_⟩
        refine ⟨.ref f, rfl, ⟨f, _, rfl, hF3⟩, .str y, rfl, f, F, y, F.idxOf y, rfl, rfl, hF3.sq, (first_at hyF).1, (first_at hyF).2, .ref f, rfl, ⟨f, _, rfl, hF3⟩, .str c0, rfl, f, F, c0, F.idxOf c0, rfl, rfl, hF3.sq, (first_at hmF).1, (first_at hmF).2, _, _, rfl, rfl, ?_⟩

        cases i with
        | zero =>
          refine ⟨_, rfl, rfl, _, rfl, ?_⟩
          rw [decide_eq_true (congrArg V.int (show (0 : Int) + ((0 : Nat) : Int) = 0 from rfl))]
          refine iteT ?_

          refine ⟨.ref D1, rfl, Nat.zero_le _, fun e2 he2 => ?_⟩
          have smE2 : L2.Same H3 (L2.upd H3 e2 (.lst [])) := sm_new sm_refl he2
          refine ⟨.list (([] : List Str).map PyData.str), .list [], .lst (SqL.of (smE2 _ _ h13)) (dp_str _), .lst (SqL.of upd_same) .nil, shaped_strs _ (fun x hx => car_ok (hcr x hx)), shaped_strs [] (fun _ h => nomatch h), _, rfl, ?_⟩
          rw [eqv_nilS, decide_eq_true rfl]
          have smA := sm_trans smA smE2
          have smB := sm_trans smB smE2
          clear h13 h23 hl3 hp3 hF3 hA3
          generalize L2.upd H3 e2 (.lst []) = H3 at smE2 smA smB ⊢
          have h13 := smA _ _ hD1
          have h23 := smA _ _ hD2
          have hl3 := smB _ _ hL
          have hp3 := smB _ _ hP
          have hF3 := hF.same smB
          have hA3 := hA.same smB

          refine iteT ?_
          exact ⟨_, _, _, _, _, _, _, _, rfl, smA, by omega, hsw.trans (sw_nil0 hFn hrun hq)⟩

        | succ j =>
          rcases hqv : (lateF F 0 es)[j]'(by omega) with ⟨x, kx⟩
          have hqp : (lateF F 0 es)[j]? = some (x, kx) := by rw [List.getElem?_eq_getElem (by omega), hqv]
          obtain ⟨hex, hxF, hkx⟩ := late_ev hqp
          have hex : es[kx]? = some (.inn x) := hex
          have hxF : x ∈ F := hxF
          have hkx : kx < es.length := hkx
          have hkk : kx < ky := late_lt hqp hq (Nat.lt_succ_self j)
          obtain ⟨bx, hbx, hbtx⟩ := pair_at hE kx _ hex
          refine ⟨_, rfl, rfl, _, rfl, ?_⟩
          rw [decide_eq_false (fun z => by have := V.int.inj z; omega)]
          refine iteF (iteF ⟨_, rfl, rfl, _, rfl, ?_⟩)
          rw [decide_eq_false (fun z => by have := V.int.inj z; omega)]
          have atP : atI ((lateF F 0 es).map fun p => V.int ((p.2 : Nat) : Int)) (0 + ((j + 1 : Nat) : Int) - 1) = some (.int ((kx : Nat) : Int)) := by
            rw [show (0 + ((j + 1 : Nat) : Int) - 1) = ((j : Nat) : Int) by omega]
            exact lateAt hqp
          have atS : atI ((szs xs.length es).map V.int) (((kx : Nat) : Int) + 1) = some (.int ((szs xs.length es).getD (kx + 1) 0)) := by
            rw [show ((kx : Nat) : Int) + 1 = ((kx + 1 : Nat) : Int) by omega]
            exact at_int (by rw [szs_len]; omega)
          refine iteF ⟨.ref l, rfl, .ref D2, rfl, _, rfl, _, _, rfl, rfl, D2, _, _, .int ((kx : Nat) : Int), rfl, rfl, SqL.of h23, atP, l, _, _, .ref bx, rfl, rfl, SqL.of hl3, atI_nat (by rw [List.getElem?_map, hbx]; rfl), bx, _, 1, .str x, rfl, rfl, SqT.of (smB _ _ hbtx), atI_nat (j := 1) rfl, .ref D2, rfl, _, rfl, _, _, rfl, rfl, D2, _, _, .int ((kx : Nat) : Int), rfl, rfl, SqL.of h23, atP, _, _, rfl, rfl, _, _, rfl, ?_⟩
          refine ⟨.ref p, rfl, _, rfl, p, _, _, _, rfl, rfl, SqL.of hp3, atS, .ref D1, rfl, D1, _, rfl, .inl (SqL.of h13), _, _, rfl, rfl, _, rfl, _, _, rfl, rfl, ?_⟩
          refine ⟨_, rfl, _, rfl, rfl, _, rfl, ?_⟩
          by_cases hxm : x = c0
          · rw [decide_eq_true (congrArg V.str hxm)]
            refine iteT (iteT ?_)
            have hst := sw_succ hxn hFn hn (.inr ⟨hrun, k0, hq0⟩) hqp hq
            rw [if_pos (Or.inl hxm)] at hst
            have hsin : (kx + 1) ≤ ky := by omega
            have ecut : cutV (as.map V.ref) (some (((kx : Nat) : Int) + 1)) (some ((ky : Nat) : Int)) = (((as.take ky).drop (kx + 1)).map V.ref) := by
              rw [List.map_drop, List.map_take, show (((kx : Nat) : Int) + 1) = (((kx + 1) : Nat) : Int) by omega]
              exact cutV_nat (by rw [List.length_map]; omega) (by rw [List.length_map]; omega)
            refine ⟨.ref l, rfl, _, rfl, _, rfl, .ref D2, rfl, _, rfl, D2, _, _, .int ((ky : Nat) : Int), rfl, rfl, SqL.of h23, lateAt00 hq, _, rfl, l, as.map V.ref, rfl, SqL.of hl3, fun u hu => ?_⟩
            rw [ecut]
            refine ⟨u, rfl, ⟨_, SqL.of upd_same⟩, fun D hD => ?_⟩
            have smu : L2.Same H3 (L2.upd H3 u (.lst (((as.take ky).drop (kx + 1)).map V.ref))) := sm_new sm_refl hu
            have hu1 : (L2.upd H3 u (.lst (((as.take ky).drop (kx + 1)).map V.ref))) u = some (.lst (((as.take ky).drop (kx + 1)).map V.ref)) := upd_same
            have smA4 := sm_trans smA smu
            generalize L2.upd H3 u (.lst (((as.take ky).drop (kx + 1)).map V.ref)) = H4 at smu hu1 hD smA4 ⊢
            refine lc_list (K := K) (a := u) (xs := ((as.take ky).drop (kx + 1)).map V.ref) (fun i2 Hx => L2.Same H4 Hx ∧ Hx D = some (.lst (List.replicate (outsN (((es.take ky).drop (kx + 1)).take i2)) (V.int 1)))) ?_ ?_ ?_ ?_
            · exact ⟨sm_new sm_refl hD, by rw [List.take_zero]; exact upd_same⟩
            · rintro i2 Hx _ ⟨s2, _⟩
              exact SqL.of (s2 _ _ hu1)
            · rintro i2 z Hx hz ⟨s2, hDx⟩
              obtain ⟨b2, ev2, rfl, hev2, hb2⟩ := ev_cut hE hz
              have hb2 : SqT K Hx b2 ev2.vals := SqT.of (s2 _ _ (smA4 _ _ (k2 _ _ hb2)))
              have hle2 : outsN (((es.take ky).drop (kx + 1)).take i2) ≤ 400 := by
                have := outs_le (((es.take ky).drop (kx + 1)).take i2)
                rw [List.length_take, List.length_drop, List.length_take] at this
                omega
              cases ev2 with
              | inn c =>
                refine ⟨rfl, .ref b2, rfl, b2, _, 0, .str "in", rfl, rfl, hb2, atI_nat (j := 0) rfl, rfl, _, rfl, ?_⟩
                rw [decide_eq_false (fun z => ne_io (V.str.inj z))]
                exact iteF ⟨s2, by rw [outs_inn hev2]; exact hDx⟩
              | out =>
                refine ⟨rfl, .ref b2, rfl, b2, _, 0, .str "out", rfl, rfl, hb2, atI_nat (j := 0) rfl, rfl, _, rfl, ?_⟩
                rw [decide_eq_true (rfl : V.str "out" = V.str "out")]
                refine iteT ⟨_, hDx, by rw [List.length_replicate]; exact small1000 (by omega), sm_upd s2 hD, ?_⟩
                rw [upd_same, outs_out hev2, List.replicate_succ']
            rintro Hx ⟨s2, hDx⟩
            rw [List.length_map, ev_all hlen] at hDx
            refine ⟨D, _, rfl, .inl (SqL.of hDx), _, rfl, _, _, rfl, rfl, _, rfl, ?_⟩
            rw [List.length_replicate]
            have hstep := hst
            have smX := sm_trans smA4 s2
            by_cases hlt : ((outsN ((es.take ky).drop (kx + 1)) : Nat) : Int) < 0
            · rw [if_pos hlt] at hstep
              rw [decide_eq_true hlt]
              refine iteT ⟨_, rfl, _, rfl, by show 3 ≤ sizeLine; decide, fun e9 he9 => ?_⟩
              refine q _ _ (sm_new (sm_trans k2 smX) he9) ?_
              unfold swWhy
              rw [hsw, hstep]
              exact ⟨e9, rfl, sm_none (sm_trans k2 smX) he9, upd_same⟩
            · rw [if_neg hlt] at hstep
              rw [decide_eq_false hlt]
              exact iteF ⟨_, _, _, _, _, _, _, _, rfl, smX, by omega, hsw.trans hstep⟩

          · rw [decide_eq_false (fun z => hxm (V.str.inj z))]
            refine iteF ⟨.ref f, rfl, ⟨f, _, rfl, hF3⟩, .str x, rfl, f, F, x, F.idxOf x, rfl, rfl, hF3.sq, (first_at hxF).1, (first_at hxF).2, .ref f, rfl, ⟨f, _, rfl, hF3⟩, .str c0, rfl, f, F, c0, F.idxOf c0, rfl, rfl, hF3.sq, (first_at hmF).1, (first_at hmF).2, _, _, rfl, rfl, _, rfl, rfl, _, rfl, ?_⟩
            by_cases hsd : decide (F.idxOf x < F.idxOf c0) = decide (F.idxOf y < F.idxOf c0)
            · rw [decide_eq_true (congrArg V.bl (show decide (((F.idxOf x : Nat) : Int) < ((F.idxOf c0 : Nat) : Int)) = decide (((F.idxOf y : Nat) : Int) < ((F.idxOf c0 : Nat) : Int)) by rw [dec_lt, dec_lt]; exact hsd))]
              refine iteT ?_
              have hst := sw_succ hxn hFn hn (.inr ⟨hrun, k0, hq0⟩) hqp hq
              rw [if_pos (Or.inr hsd)] at hst
              have hsin : (kx + 1) ≤ ky := by omega
              have ecut : cutV (as.map V.ref) (some (((kx : Nat) : Int) + 1)) (some ((ky : Nat) : Int)) = (((as.take ky).drop (kx + 1)).map V.ref) := by
                rw [List.map_drop, List.map_take, show (((kx : Nat) : Int) + 1) = (((kx + 1) : Nat) : Int) by omega]
                exact cutV_nat (by rw [List.length_map]; omega) (by rw [List.length_map]; omega)
              refine ⟨.ref l, rfl, _, rfl, _, rfl, .ref D2, rfl, _, rfl, D2, _, _, .int ((ky : Nat) : Int), rfl, rfl, SqL.of h23, lateAt00 hq, _, rfl, l, as.map V.ref, rfl, SqL.of hl3, fun u hu => ?_⟩
              rw [ecut]
              refine ⟨u, rfl, ⟨_, SqL.of upd_same⟩, fun D hD => ?_⟩
              have smu : L2.Same H3 (L2.upd H3 u (.lst (((as.take ky).drop (kx + 1)).map V.ref))) := sm_new sm_refl hu
              have hu1 : (L2.upd H3 u (.lst (((as.take ky).drop (kx + 1)).map V.ref))) u = some (.lst (((as.take ky).drop (kx + 1)).map V.ref)) := upd_same
              have smA4 := sm_trans smA smu
              generalize L2.upd H3 u (.lst (((as.take ky).drop (kx + 1)).map V.ref)) = H4 at smu hu1 hD smA4 ⊢
              refine lc_list (K := K) (a := u) (xs := ((as.take ky).drop (kx + 1)).map V.ref) (fun i2 Hx => L2.Same H4 Hx ∧ Hx D = some (.lst (List.replicate (outsN (((es.take ky).drop (kx + 1)).take i2)) (V.int 1)))) ?_ ?_ ?_ ?_
              · exact ⟨sm_new sm_refl hD, by rw [List.take_zero]; exact upd_same⟩
              · rintro i2 Hx _ ⟨s2, _⟩
                exact SqL.of (s2 _ _ hu1)
              · rintro i2 z Hx hz ⟨s2, hDx⟩
                obtain ⟨b2, ev2, rfl, hev2, hb2⟩ := ev_cut hE hz
                have hb2 : SqT K Hx b2 ev2.vals := SqT.of (s2 _ _ (smA4 _ _ (k2 _ _ hb2)))
                have hle2 : outsN (((es.take ky).drop (kx + 1)).take i2) ≤ 400 := by
                  have := outs_le (((es.take ky).drop (kx + 1)).take i2)
                  rw [List.length_take, List.length_drop, List.length_take] at this
                  omega
                cases ev2 with
                | inn c =>
                  refine ⟨rfl, .ref b2, rfl, b2, _, 0, .str "in", rfl, rfl, hb2, atI_nat (j := 0) rfl, rfl, _, rfl, ?_⟩
                  rw [decide_eq_false (fun z => ne_io (V.str.inj z))]
                  exact iteF ⟨s2, by rw [outs_inn hev2]; exact hDx⟩
                | out =>
                  refine ⟨rfl, .ref b2, rfl, b2, _, 0, .str "out", rfl, rfl, hb2, atI_nat (j := 0) rfl, rfl, _, rfl, ?_⟩
                  rw [decide_eq_true (rfl : V.str "out" = V.str "out")]
                  refine iteT ⟨_, hDx, by rw [List.length_replicate]; exact small1000 (by omega), sm_upd s2 hD, ?_⟩
                  rw [upd_same, outs_out hev2, List.replicate_succ']
              rintro Hx ⟨s2, hDx⟩
              rw [List.length_map, ev_all hlen] at hDx
              refine ⟨D, _, rfl, .inl (SqL.of hDx), _, rfl, _, _, rfl, rfl, _, rfl, ?_⟩
              rw [List.length_replicate]
              have hstep := hst
              have smX := sm_trans smA4 s2
              by_cases hlt : ((outsN ((es.take ky).drop (kx + 1)) : Nat) : Int) < 0
              · rw [if_pos hlt] at hstep
                rw [decide_eq_true hlt]
                refine iteT ⟨_, rfl, _, rfl, by show 3 ≤ sizeLine; decide, fun e9 he9 => ?_⟩
                refine q _ _ (sm_new (sm_trans k2 smX) he9) ?_
                unfold swWhy
                rw [hsw, hstep]
                exact ⟨e9, rfl, sm_none (sm_trans k2 smX) he9, upd_same⟩
              · rw [if_neg hlt] at hstep
                rw [decide_eq_false hlt]
                exact iteF ⟨_, _, _, _, _, _, _, _, rfl, smX, by omega, hsw.trans hstep⟩

            · rw [decide_eq_false (fun z => hsd (by have := V.bl.inj z; rw [dec_lt, dec_lt] at this; exact this))]
              refine iteF ?_
              have hst := sw_succ hxn hFn hn (.inr ⟨hrun, k0, hq0⟩) hqp hq
              rw [if_neg (show ¬ (x = c0 ∨ decide (F.idxOf x < F.idxOf c0) = decide (F.idxOf y < F.idxOf c0)) from fun z => z.elim hxm hsd)] at hst
              have eN : (szs xs.length es).getD (kx + 1) 0 - ((([] : List Str).map V.str).length : Nat) - (0 + ((j + 1 : Nat) : Int)) = (szs xs.length es).getD (kx + 1) 0 - (runF xs F).length - (j + 1 : Nat) := by rw [hrun]; simp
              rw [← eN] at hst
              have hsin : (kx + 1) ≤ ky := by omega
              have ecut : cutV (as.map V.ref) (some (((kx : Nat) : Int) + 1)) (some ((ky : Nat) : Int)) = (((as.take ky).drop (kx + 1)).map V.ref) := by
                rw [List.map_drop, List.map_take, show (((kx : Nat) : Int) + 1) = (((kx + 1) : Nat) : Int) by omega]
                exact cutV_nat (by rw [List.length_map]; omega) (by rw [List.length_map]; omega)
              refine ⟨.ref l, rfl, _, rfl, _, rfl, .ref D2, rfl, _, rfl, D2, _, _, .int ((ky : Nat) : Int), rfl, rfl, SqL.of h23, lateAt00 hq, _, rfl, l, as.map V.ref, rfl, SqL.of hl3, fun u hu => ?_⟩
              rw [ecut]
              refine ⟨u, rfl, ⟨_, SqL.of upd_same⟩, fun D hD => ?_⟩
              have smu : L2.Same H3 (L2.upd H3 u (.lst (((as.take ky).drop (kx + 1)).map V.ref))) := sm_new sm_refl hu
              have hu1 : (L2.upd H3 u (.lst (((as.take ky).drop (kx + 1)).map V.ref))) u = some (.lst (((as.take ky).drop (kx + 1)).map V.ref)) := upd_same
              have smA4 := sm_trans smA smu
              generalize L2.upd H3 u (.lst (((as.take ky).drop (kx + 1)).map V.ref)) = H4 at smu hu1 hD smA4 ⊢
              refine lc_list (K := K) (a := u) (xs := ((as.take ky).drop (kx + 1)).map V.ref) (fun i2 Hx => L2.Same H4 Hx ∧ Hx D = some (.lst (List.replicate (outsN (((es.take ky).drop (kx + 1)).take i2)) (V.int 1)))) ?_ ?_ ?_ ?_
              · exact ⟨sm_new sm_refl hD, by rw [List.take_zero]; exact upd_same⟩
              · rintro i2 Hx _ ⟨s2, _⟩
                exact SqL.of (s2 _ _ hu1)
              · rintro i2 z Hx hz ⟨s2, hDx⟩
                obtain ⟨b2, ev2, rfl, hev2, hb2⟩ := ev_cut hE hz
                have hb2 : SqT K Hx b2 ev2.vals := SqT.of (s2 _ _ (smA4 _ _ (k2 _ _ hb2)))
                have hle2 : outsN (((es.take ky).drop (kx + 1)).take i2) ≤ 400 := by
                  have := outs_le (((es.take ky).drop (kx + 1)).take i2)
                  rw [List.length_take, List.length_drop, List.length_take] at this
                  omega
                cases ev2 with
                | inn c =>
                  refine ⟨rfl, .ref b2, rfl, b2, _, 0, .str "in", rfl, rfl, hb2, atI_nat (j := 0) rfl, rfl, _, rfl, ?_⟩
                  rw [decide_eq_false (fun z => ne_io (V.str.inj z))]
                  exact iteF ⟨s2, by rw [outs_inn hev2]; exact hDx⟩
                | out =>
                  refine ⟨rfl, .ref b2, rfl, b2, _, 0, .str "out", rfl, rfl, hb2, atI_nat (j := 0) rfl, rfl, _, rfl, ?_⟩
                  rw [decide_eq_true (rfl : V.str "out" = V.str "out")]
                  refine iteT ⟨_, hDx, by rw [List.length_replicate]; exact small1000 (by omega), sm_upd s2 hD, ?_⟩
                  rw [upd_same, outs_out hev2, List.replicate_succ']
              rintro Hx ⟨s2, hDx⟩
              rw [List.length_map, ev_all hlen] at hDx
              refine ⟨D, _, rfl, .inl (SqL.of hDx), _, rfl, _, _, rfl, rfl, _, rfl, ?_⟩
              rw [List.length_replicate]
              have hstep := hst
              have smX := sm_trans smA4 s2
              by_cases hlt : ((outsN ((es.take ky).drop (kx + 1)) : Nat) : Int) < ((szs xs.length es).getD (kx + 1) 0 - ((([] : List Str).map V.str).length : Nat) - (0 + ((j + 1 : Nat) : Int)))
              · rw [if_pos hlt] at hstep
                rw [decide_eq_true hlt]
                refine iteT ⟨_, rfl, _, rfl, by show 3 ≤ sizeLine; decide, fun e9 he9 => ?_⟩
                refine q _ _ (sm_new (sm_trans k2 smX) he9) ?_
                unfold swWhy
                rw [hsw, hstep]
                exact ⟨e9, rfl, sm_none (sm_trans k2 smX) he9, upd_same⟩
              · rw [if_neg hlt] at hstep
                rw [decide_eq_false hlt]
                exact iteF ⟨_, _, _, _, _, _, _, _, rfl, smX, by omega, hsw.trans hstep⟩


      · rintro σ H' ⟨w6, w7, w8, w9, w10, w11, w12, w13, rfl, sm, _, hsw⟩
        refine q H' .non (sm_trans k2 sm) ?_
        unfold swWhy
        rw [hsw, sw_end (by rw [arr_length hFn hB, List.length_map, Int.toNat_natCast]; exact Nat.le_refl _)]
        rfl

    | cons c0 M =>
      rw [hrun] at hD1
      have hcr : ∀ x ∈ (c0 :: M), carB x = true := fun x hx => by
        rw [← hrun] at hx
        exact hcar x (List.mem_filter.mp hx).1
      refine ⟨.ref D2, rfl, D2, _, rfl, .inl (SqL.of hD2), _, rfl, by rw [List.length_map]; omega, by rw [List.length_map]; omega, for_range (lo := 0) (n := (((((lateF F 0 es).map fun p => V.int ((p.2 : Nat) : Int)).length : Nat) : Int)).toNat) (fun i σ H' => ∃ (w6 w7 w8 w9 w10 w11 w12 w13 : Option V), σ = [some (.ref a), some (.ref l), some (.ref f), some (.ref p), some (.ref D1), some (.ref D2), w6, w7, w8, w9, w10, w11, w12, w13, none, none, none] ∧ L2.Same H2 H' ∧ i ≤ (lateF F 0 es).length ∧ swC xs es F = swR xs es F i) ?_ ?_ ?_⟩
      · exact ⟨_, _, _, _, _, _, _, _, rfl, sm_refl, Nat.zero_le _, rfl⟩
      · rintro i σ H' hi ⟨w6, w7, w8, w9, w10, w11, w12, w13, rfl, sm, _, hsw⟩
        rw [List.length_map, Int.toNat_natCast] at hi
        rcases hqy : (lateF F 0 es)[i] with ⟨y, ky⟩
        have hq : (lateF F 0 es)[i]? = some (y, ky) := by rw [List.getElem?_eq_getElem hi, hqy]
        obtain ⟨hey, hyF, hky⟩ := late_ev hq
        have hey : es[ky]? = some (.inn y) := hey
        have hyF : y ∈ F := hyF
        have hky : ky < es.length := hky
        obtain ⟨b, hb, hbt⟩ := pair_at hE ky _ hey

        have hmF : c0 ∈ F := ((run_both hrun).2 c0 List.mem_cons_self).2

        refine ⟨.ref l, rfl, .ref D2, rfl, _, rfl, D2, _, _, .int ((ky : Nat) : Int), rfl, rfl, SqL.of (sm _ _ hD2), lateAt00 hq, l, _, _, .ref b, rfl, rfl, SqL.of (sm _ _ (k2 _ _ hL)), atI_nat (by rw [List.getElem?_map, hb]; rfl), b, _, 1, .str y, rfl, rfl, SqT.of (sm _ _ (k2 _ _ hbt)), atI_nat (j := 1) rfl, ?_⟩
        refine ⟨.ref D1, rfl, Nat.zero_le _, fun e he => ?_⟩
        have smE : L2.Same H' (L2.upd H' e (.lst [])) := sm_new sm_refl he
        refine ⟨.list ((c0 :: M).map PyData.str), .list [], .lst (SqL.of (smE _ _ (sm _ _ hD1))) (dp_str _), .lst (SqL.of upd_same) .nil, shaped_strs _ (fun x hx => car_ok (hcr x hx)), shaped_strs [] (fun _ h => nomatch h), _, rfl, ?_⟩
        rw [eqv_nilS, decide_eq_false (List.cons_ne_nil _ _)]
        have smA := sm_trans sm smE
        have smB := sm_trans k2 smA
        generalize L2.upd H' e (.lst []) = H3 at smE smA smB ⊢
        have h13 := smA _ _ hD1
        have h23 := smA _ _ hD2
        have hl3 := smB _ _ hL
        have hp3 := smB _ _ hP
        have hF3 := hF.same smB
        have hA3 := hA.same smB
        refine iteT ⟨.ref D1, rfl, D1, _, 0, .str c0, rfl, rfl, SqL.of h13, atI_nat (j := 0) rfl, ?_⟩
        refine ⟨.ref f, rfl, ⟨f, _, rfl, hF3⟩, .str y, rfl, f, F, y, F.idxOf y, rfl, rfl, hF3.sq, (first_at hyF).1, (first_at hyF).2, .ref f, rfl, ⟨f, _, rfl, hF3⟩, .str c0, rfl, f, F, c0, F.idxOf c0, rfl, rfl, hF3.sq, (first_at hmF).1, (first_at hmF).2, _, _, rfl, rfl, ?_⟩

        cases i with
        | zero =>
          refine ⟨_, rfl, rfl, _, rfl, ?_⟩
          rw [decide_eq_true (congrArg V.int (show (0 : Int) + ((0 : Nat) : Int) = 0 from rfl))]
          refine iteT ?_

          refine ⟨.ref D1, rfl, Nat.zero_le _, fun e2 he2 => ?_⟩
          have smE2 : L2.Same H3 (L2.upd H3 e2 (.lst [])) := sm_new sm_refl he2
          refine ⟨.list ((c0 :: M).map PyData.str), .list [], .lst (SqL.of (smE2 _ _ h13)) (dp_str _), .lst (SqL.of upd_same) .nil, shaped_strs _ (fun x hx => car_ok (hcr x hx)), shaped_strs [] (fun _ h => nomatch h), _, rfl, ?_⟩
          rw [eqv_nilS, decide_eq_false (List.cons_ne_nil _ _)]
          have smA := sm_trans smA smE2
          have smB := sm_trans smB smE2
          clear h13 h23 hl3 hp3 hF3 hA3
          generalize L2.upd H3 e2 (.lst []) = H3 at smE2 smA smB ⊢
          have h13 := smA _ _ hD1
          have h23 := smA _ _ hD2
          have hl3 := smB _ _ hL
          have hp3 := smB _ _ hP
          have hF3 := hF.same smB
          have hA3 := hA.same smB

          refine iteF ⟨_, rfl, rfl, _, rfl, ?_⟩
          rw [decide_eq_true (congrArg V.int (show (0 : Int) + ((0 : Nat) : Int) = 0 from rfl))]
          have hc0x : c0 ∈ xs := ((run_both hrun).2 c0 List.mem_cons_self).1
          refine iteT ⟨.ref a, rfl, ⟨a, _, rfl, hA3⟩, .ref D1, rfl, D1, _, 0, .str c0, rfl, rfl, SqL.of h13, atI_nat (j := 0) rfl, a, xs, c0, xs.idxOf c0, rfl, rfl, hA3.sq, (first_at hc0x).1, (first_at hc0x).2, ?_⟩
          refine ⟨_, rfl, _, _, _, rfl, ?_⟩
          refine ⟨_, rfl, _, rfl, ?_⟩
          by_cases hsd : F.idxOf y < F.idxOf c0
          · rw [decide_eq_true (show ((F.idxOf y : Nat) : Int) < ((F.idxOf c0 : Nat) : Int) by omega)]
            refine iteF ?_
            have hst := sw_run0 hxn hFn hrun hB hq
            rw [if_pos hsd] at hst
            have hsin : 0 ≤ ky := by omega
            have ecut : cutV (as.map V.ref) (some 0) (some ((ky : Nat) : Int)) = (((as.take ky).drop 0).map V.ref) := by
              rw [List.map_drop, List.map_take, show 0 = ((0 : Nat) : Int) by omega]
              exact cutV_nat (by rw [List.length_map]; omega) (by rw [List.length_map]; omega)
            refine ⟨.ref l, rfl, _, rfl, _, rfl, .ref D2, rfl, _, rfl, D2, _, _, .int ((ky : Nat) : Int), rfl, rfl, SqL.of h23, lateAt00 hq, _, rfl, l, as.map V.ref, rfl, SqL.of hl3, fun u hu => ?_⟩
            rw [ecut]
            refine ⟨u, rfl, ⟨_, SqL.of upd_same⟩, fun D hD => ?_⟩
            have smu : L2.Same H3 (L2.upd H3 u (.lst (((as.take ky).drop 0).map V.ref))) := sm_new sm_refl hu
            have hu1 : (L2.upd H3 u (.lst (((as.take ky).drop 0).map V.ref))) u = some (.lst (((as.take ky).drop 0).map V.ref)) := upd_same
            have smA4 := sm_trans smA smu
            generalize L2.upd H3 u (.lst (((as.take ky).drop 0).map V.ref)) = H4 at smu hu1 hD smA4 ⊢
            refine lc_list (K := K) (a := u) (xs := ((as.take ky).drop 0).map V.ref) (fun i2 Hx => L2.Same H4 Hx ∧ Hx D = some (.lst (List.replicate (outsN (((es.take ky).drop 0).take i2)) (V.int 1)))) ?_ ?_ ?_ ?_
            · exact ⟨sm_new sm_refl hD, by rw [List.take_zero]; exact upd_same⟩
            · rintro i2 Hx _ ⟨s2, _⟩
              exact SqL.of (s2 _ _ hu1)
            · rintro i2 z Hx hz ⟨s2, hDx⟩
              obtain ⟨b2, ev2, rfl, hev2, hb2⟩ := ev_cut hE hz
              have hb2 : SqT K Hx b2 ev2.vals := SqT.of (s2 _ _ (smA4 _ _ (k2 _ _ hb2)))
              have hle2 : outsN (((es.take ky).drop 0).take i2) ≤ 400 := by
                have := outs_le (((es.take ky).drop 0).take i2)
                rw [List.length_take, List.length_drop, List.length_take] at this
                omega
              cases ev2 with
              | inn c =>
                refine ⟨rfl, .ref b2, rfl, b2, _, 0, .str "in", rfl, rfl, hb2, atI_nat (j := 0) rfl, rfl, _, rfl, ?_⟩
                rw [decide_eq_false (fun z => ne_io (V.str.inj z))]
                exact iteF ⟨s2, by rw [outs_inn hev2]; exact hDx⟩
              | out =>
                refine ⟨rfl, .ref b2, rfl, b2, _, 0, .str "out", rfl, rfl, hb2, atI_nat (j := 0) rfl, rfl, _, rfl, ?_⟩
                rw [decide_eq_true (rfl : V.str "out" = V.str "out")]
                refine iteT ⟨_, hDx, by rw [List.length_replicate]; exact small1000 (by omega), sm_upd s2 hD, ?_⟩
                rw [upd_same, outs_out hev2, List.replicate_succ']
            rintro Hx ⟨s2, hDx⟩
            rw [List.length_map, ev_all hlen] at hDx
            refine ⟨D, _, rfl, .inl (SqL.of hDx), _, rfl, _, _, rfl, rfl, _, rfl, ?_⟩
            rw [List.length_replicate]
            have hstep := hst
            have smX := sm_trans smA4 s2
            by_cases hlt : ((outsN ((es.take ky).drop 0) : Nat) : Int) < ((xs.idxOf c0 : Nat) : Int)
            · rw [if_pos hlt] at hstep
              rw [decide_eq_true hlt]
              refine iteT ⟨_, rfl, _, rfl, by show 3 ≤ sizeLine; decide, fun e9 he9 => ?_⟩
              refine q _ _ (sm_new (sm_trans k2 smX) he9) ?_
              unfold swWhy
              rw [hsw, hstep]
              exact ⟨e9, rfl, sm_none (sm_trans k2 smX) he9, upd_same⟩
            · rw [if_neg hlt] at hstep
              rw [decide_eq_false hlt]
              exact iteF ⟨_, _, _, _, _, _, _, _, rfl, smX, by omega, hsw.trans hstep⟩

          · rw [decide_eq_false (show ¬ ((F.idxOf y : Nat) : Int) < ((F.idxOf c0 : Nat) : Int) by omega)]
            refine iteT ⟨.ref a, rfl, a, _, rfl, .inr hA3.sq, _, rfl, _, _, rfl, rfl, .ref D1, rfl, D1, _, rfl, .inl (SqL.of h13), _, _, rfl, rfl, ?_⟩
            have hst := sw_run0 hxn hFn hrun hB hq
            rw [if_neg hsd] at hst
            have eN : (((xs.map V.str).length : Nat) : Int) - (xs.idxOf c0 : Nat) - (((c0 :: M).map V.str).length : Nat) = (xs.length : Int) - xs.idxOf c0 - (M.length + 1 : Nat) := by rw [List.length_map, List.length_map]; rfl
            rw [← eN] at hst
            have hsin : 0 ≤ ky := by omega
            have ecut : cutV (as.map V.ref) (some 0) (some ((ky : Nat) : Int)) = (((as.take ky).drop 0).map V.ref) := by
              rw [List.map_drop, List.map_take, show 0 = ((0 : Nat) : Int) by omega]
              exact cutV_nat (by rw [List.length_map]; omega) (by rw [List.length_map]; omega)
            refine ⟨.ref l, rfl, _, rfl, _, rfl, .ref D2, rfl, _, rfl, D2, _, _, .int ((ky : Nat) : Int), rfl, rfl, SqL.of h23, lateAt00 hq, _, rfl, l, as.map V.ref, rfl, SqL.of hl3, fun u hu => ?_⟩
            rw [ecut]
            refine ⟨u, rfl, ⟨_, SqL.of upd_same⟩, fun D hD => ?_⟩
            have smu : L2.Same H3 (L2.upd H3 u (.lst (((as.take ky).drop 0).map V.ref))) := sm_new sm_refl hu
            have hu1 : (L2.upd H3 u (.lst (((as.take ky).drop 0).map V.ref))) u = some (.lst (((as.take ky).drop 0).map V.ref)) := upd_same
            have smA4 := sm_trans smA smu
            generalize L2.upd H3 u (.lst (((as.take ky).drop 0).map V.ref)) = H4 at smu hu1 hD smA4 ⊢
            refine lc_list (K := K) (a := u) (xs := ((as.take ky).drop 0).map V.ref) (fun i2 Hx => L2.Same H4 Hx ∧ Hx D = some (.lst (List.replicate (outsN (((es.take ky).drop 0).take i2)) (V.int 1)))) ?_ ?_ ?_ ?_
            · exact ⟨sm_new sm_refl hD, by rw [List.take_zero]; exact upd_same⟩
            · rintro i2 Hx _ ⟨s2, _⟩
              exact SqL.of (s2 _ _ hu1)
            · rintro i2 z Hx hz ⟨s2, hDx⟩
              obtain ⟨b2, ev2, rfl, hev2, hb2⟩ := ev_cut hE hz
              have hb2 : SqT K Hx b2 ev2.vals := SqT.of (s2 _ _ (smA4 _ _ (k2 _ _ hb2)))
              have hle2 : outsN (((es.take ky).drop 0).take i2) ≤ 400 := by
                have := outs_le (((es.take ky).drop 0).take i2)
                rw [List.length_take, List.length_drop, List.length_take] at this
                omega
              cases ev2 with
              | inn c =>
                refine ⟨rfl, .ref b2, rfl, b2, _, 0, .str "in", rfl, rfl, hb2, atI_nat (j := 0) rfl, rfl, _, rfl, ?_⟩
                rw [decide_eq_false (fun z => ne_io (V.str.inj z))]
                exact iteF ⟨s2, by rw [outs_inn hev2]; exact hDx⟩
              | out =>
                refine ⟨rfl, .ref b2, rfl, b2, _, 0, .str "out", rfl, rfl, hb2, atI_nat (j := 0) rfl, rfl, _, rfl, ?_⟩
                rw [decide_eq_true (rfl : V.str "out" = V.str "out")]
                refine iteT ⟨_, hDx, by rw [List.length_replicate]; exact small1000 (by omega), sm_upd s2 hD, ?_⟩
                rw [upd_same, outs_out hev2, List.replicate_succ']
            rintro Hx ⟨s2, hDx⟩
            rw [List.length_map, ev_all hlen] at hDx
            refine ⟨D, _, rfl, .inl (SqL.of hDx), _, rfl, _, _, rfl, rfl, _, rfl, ?_⟩
            rw [List.length_replicate]
            have hstep := hst
            have smX := sm_trans smA4 s2
            by_cases hlt : ((outsN ((es.take ky).drop 0) : Nat) : Int) < ((((xs.map V.str).length : Nat) : Int) - (xs.idxOf c0 : Nat) - (((c0 :: M).map V.str).length : Nat))
            · rw [if_pos hlt] at hstep
              rw [decide_eq_true hlt]
              refine iteT ⟨_, rfl, _, rfl, by show 3 ≤ sizeLine; decide, fun e9 he9 => ?_⟩
              refine q _ _ (sm_new (sm_trans k2 smX) he9) ?_
              unfold swWhy
              rw [hsw, hstep]
              exact ⟨e9, rfl, sm_none (sm_trans k2 smX) he9, upd_same⟩
            · rw [if_neg hlt] at hstep
              rw [decide_eq_false hlt]
              exact iteF ⟨_, _, _, _, _, _, _, _, rfl, smX, by omega, hsw.trans hstep⟩

        | succ j =>
          rcases hqv : (lateF F 0 es)[j]'(by omega) with ⟨x, kx⟩
          have hqp : (lateF F 0 es)[j]? = some (x, kx) := by rw [List.getElem?_eq_getElem (by omega), hqv]
          obtain ⟨hex, hxF, hkx⟩ := late_ev hqp
          have hex : es[kx]? = some (.inn x) := hex
          have hxF : x ∈ F := hxF
          have hkx : kx < es.length := hkx
          have hkk : kx < ky := late_lt hqp hq (Nat.lt_succ_self j)
          obtain ⟨bx, hbx, hbtx⟩ := pair_at hE kx _ hex
          refine ⟨_, rfl, rfl, _, rfl, ?_⟩
          rw [decide_eq_false (fun z => by have := V.int.inj z; omega)]
          refine iteF (iteF ⟨_, rfl, rfl, _, rfl, ?_⟩)
          rw [decide_eq_false (fun z => by have := V.int.inj z; omega)]
          have atP : atI ((lateF F 0 es).map fun p => V.int ((p.2 : Nat) : Int)) (0 + ((j + 1 : Nat) : Int) - 1) = some (.int ((kx : Nat) : Int)) := by
            rw [show (0 + ((j + 1 : Nat) : Int) - 1) = ((j : Nat) : Int) by omega]
            exact lateAt hqp
          have atS : atI ((szs xs.length es).map V.int) (((kx : Nat) : Int) + 1) = some (.int ((szs xs.length es).getD (kx + 1) 0)) := by
            rw [show ((kx : Nat) : Int) + 1 = ((kx + 1 : Nat) : Int) by omega]
            exact at_int (by rw [szs_len]; omega)
          refine iteF ⟨.ref l, rfl, .ref D2, rfl, _, rfl, _, _, rfl, rfl, D2, _, _, .int ((kx : Nat) : Int), rfl, rfl, SqL.of h23, atP, l, _, _, .ref bx, rfl, rfl, SqL.of hl3, atI_nat (by rw [List.getElem?_map, hbx]; rfl), bx, _, 1, .str x, rfl, rfl, SqT.of (smB _ _ hbtx), atI_nat (j := 1) rfl, .ref D2, rfl, _, rfl, _, _, rfl, rfl, D2, _, _, .int ((kx : Nat) : Int), rfl, rfl, SqL.of h23, atP, _, _, rfl, rfl, _, _, rfl, ?_⟩
          refine ⟨.ref p, rfl, _, rfl, p, _, _, _, rfl, rfl, SqL.of hp3, atS, .ref D1, rfl, D1, _, rfl, .inl (SqL.of h13), _, _, rfl, rfl, _, rfl, _, _, rfl, rfl, ?_⟩
          refine ⟨_, rfl, _, rfl, rfl, _, rfl, ?_⟩
          by_cases hxm : x = c0
          · rw [decide_eq_true (congrArg V.str hxm)]
            refine iteT (iteT ?_)
            have hst := sw_succ hxn hFn hn (.inl ⟨M, hrun, hB⟩) hqp hq
            rw [if_pos (Or.inl hxm)] at hst
            have hsin : (kx + 1) ≤ ky := by omega
            have ecut : cutV (as.map V.ref) (some (((kx : Nat) : Int) + 1)) (some ((ky : Nat) : Int)) = (((as.take ky).drop (kx + 1)).map V.ref) := by
              rw [List.map_drop, List.map_take, show (((kx : Nat) : Int) + 1) = (((kx + 1) : Nat) : Int) by omega]
              exact cutV_nat (by rw [List.length_map]; omega) (by rw [List.length_map]; omega)
            refine ⟨.ref l, rfl, _, rfl, _, rfl, .ref D2, rfl, _, rfl, D2, _, _, .int ((ky : Nat) : Int), rfl, rfl, SqL.of h23, lateAt00 hq, _, rfl, l, as.map V.ref, rfl, SqL.of hl3, fun u hu => ?_⟩
            rw [ecut]
            refine ⟨u, rfl, ⟨_, SqL.of upd_same⟩, fun D hD => ?_⟩
            have smu : L2.Same H3 (L2.upd H3 u (.lst (((as.take ky).drop (kx + 1)).map V.ref))) := sm_new sm_refl hu
            have hu1 : (L2.upd H3 u (.lst (((as.take ky).drop (kx + 1)).map V.ref))) u = some (.lst (((as.take ky).drop (kx + 1)).map V.ref)) := upd_same
            have smA4 := sm_trans smA smu
            generalize L2.upd H3 u (.lst (((as.take ky).drop (kx + 1)).map V.ref)) = H4 at smu hu1 hD smA4 ⊢
            refine lc_list (K := K) (a := u) (xs := ((as.take ky).drop (kx + 1)).map V.ref) (fun i2 Hx => L2.Same H4 Hx ∧ Hx D = some (.lst (List.replicate (outsN (((es.take ky).drop (kx + 1)).take i2)) (V.int 1)))) ?_ ?_ ?_ ?_
            · exact ⟨sm_new sm_refl hD, by rw [List.take_zero]; exact upd_same⟩
            · rintro i2 Hx _ ⟨s2, _⟩
              exact SqL.of (s2 _ _ hu1)
            · rintro i2 z Hx hz ⟨s2, hDx⟩
              obtain ⟨b2, ev2, rfl, hev2, hb2⟩ := ev_cut hE hz
              have hb2 : SqT K Hx b2 ev2.vals := SqT.of (s2 _ _ (smA4 _ _ (k2 _ _ hb2)))
              have hle2 : outsN (((es.take ky).drop (kx + 1)).take i2) ≤ 400 := by
                have := outs_le (((es.take ky).drop (kx + 1)).take i2)
                rw [List.length_take, List.length_drop, List.length_take] at this
                omega
              cases ev2 with
              | inn c =>
                refine ⟨rfl, .ref b2, rfl, b2, _, 0, .str "in", rfl, rfl, hb2, atI_nat (j := 0) rfl, rfl, _, rfl, ?_⟩
                rw [decide_eq_false (fun z => ne_io (V.str.inj z))]
                exact iteF ⟨s2, by rw [outs_inn hev2]; exact hDx⟩
              | out =>
                refine ⟨rfl, .ref b2, rfl, b2, _, 0, .str "out", rfl, rfl, hb2, atI_nat (j := 0) rfl, rfl, _, rfl, ?_⟩
                rw [decide_eq_true (rfl : V.str "out" = V.str "out")]
                refine iteT ⟨_, hDx, by rw [List.length_replicate]; exact small1000 (by omega), sm_upd s2 hD, ?_⟩
                rw [upd_same, outs_out hev2, List.replicate_succ']
            rintro Hx ⟨s2, hDx⟩
            rw [List.length_map, ev_all hlen] at hDx
            refine ⟨D, _, rfl, .inl (SqL.of hDx), _, rfl, _, _, rfl, rfl, _, rfl, ?_⟩
            rw [List.length_replicate]
            have hstep := hst
            have smX := sm_trans smA4 s2
            by_cases hlt : ((outsN ((es.take ky).drop (kx + 1)) : Nat) : Int) < 0
            · rw [if_pos hlt] at hstep
              rw [decide_eq_true hlt]
              refine iteT ⟨_, rfl, _, rfl, by show 3 ≤ sizeLine; decide, fun e9 he9 => ?_⟩
              refine q _ _ (sm_new (sm_trans k2 smX) he9) ?_
              unfold swWhy
              rw [hsw, hstep]
              exact ⟨e9, rfl, sm_none (sm_trans k2 smX) he9, upd_same⟩
            · rw [if_neg hlt] at hstep
              rw [decide_eq_false hlt]
              exact iteF ⟨_, _, _, _, _, _, _, _, rfl, smX, by omega, hsw.trans hstep⟩

          · rw [decide_eq_false (fun z => hxm (V.str.inj z))]
            refine iteF ⟨.ref f, rfl, ⟨f, _, rfl, hF3⟩, .str x, rfl, f, F, x, F.idxOf x, rfl, rfl, hF3.sq, (first_at hxF).1, (first_at hxF).2, .ref f, rfl, ⟨f, _, rfl, hF3⟩, .str c0, rfl, f, F, c0, F.idxOf c0, rfl, rfl, hF3.sq, (first_at hmF).1, (first_at hmF).2, _, _, rfl, rfl, _, rfl, rfl, _, rfl, ?_⟩
            by_cases hsd : decide (F.idxOf x < F.idxOf c0) = decide (F.idxOf y < F.idxOf c0)
            · rw [decide_eq_true (congrArg V.bl (show decide (((F.idxOf x : Nat) : Int) < ((F.idxOf c0 : Nat) : Int)) = decide (((F.idxOf y : Nat) : Int) < ((F.idxOf c0 : Nat) : Int)) by rw [dec_lt, dec_lt]; exact hsd))]
              refine iteT ?_
              have hst := sw_succ hxn hFn hn (.inl ⟨M, hrun, hB⟩) hqp hq
              rw [if_pos (Or.inr hsd)] at hst
              have hsin : (kx + 1) ≤ ky := by omega
              have ecut : cutV (as.map V.ref) (some (((kx : Nat) : Int) + 1)) (some ((ky : Nat) : Int)) = (((as.take ky).drop (kx + 1)).map V.ref) := by
                rw [List.map_drop, List.map_take, show (((kx : Nat) : Int) + 1) = (((kx + 1) : Nat) : Int) by omega]
                exact cutV_nat (by rw [List.length_map]; omega) (by rw [List.length_map]; omega)
              refine ⟨.ref l, rfl, _, rfl, _, rfl, .ref D2, rfl, _, rfl, D2, _, _, .int ((ky : Nat) : Int), rfl, rfl, SqL.of h23, lateAt00 hq, _, rfl, l, as.map V.ref, rfl, SqL.of hl3, fun u hu => ?_⟩
              rw [ecut]
              refine ⟨u, rfl, ⟨_, SqL.of upd_same⟩, fun D hD => ?_⟩
              have smu : L2.Same H3 (L2.upd H3 u (.lst (((as.take ky).drop (kx + 1)).map V.ref))) := sm_new sm_refl hu
              have hu1 : (L2.upd H3 u (.lst (((as.take ky).drop (kx + 1)).map V.ref))) u = some (.lst (((as.take ky).drop (kx + 1)).map V.ref)) := upd_same
              have smA4 := sm_trans smA smu
              generalize L2.upd H3 u (.lst (((as.take ky).drop (kx + 1)).map V.ref)) = H4 at smu hu1 hD smA4 ⊢
              refine lc_list (K := K) (a := u) (xs := ((as.take ky).drop (kx + 1)).map V.ref) (fun i2 Hx => L2.Same H4 Hx ∧ Hx D = some (.lst (List.replicate (outsN (((es.take ky).drop (kx + 1)).take i2)) (V.int 1)))) ?_ ?_ ?_ ?_
              · exact ⟨sm_new sm_refl hD, by rw [List.take_zero]; exact upd_same⟩
              · rintro i2 Hx _ ⟨s2, _⟩
                exact SqL.of (s2 _ _ hu1)
              · rintro i2 z Hx hz ⟨s2, hDx⟩
                obtain ⟨b2, ev2, rfl, hev2, hb2⟩ := ev_cut hE hz
                have hb2 : SqT K Hx b2 ev2.vals := SqT.of (s2 _ _ (smA4 _ _ (k2 _ _ hb2)))
                have hle2 : outsN (((es.take ky).drop (kx + 1)).take i2) ≤ 400 := by
                  have := outs_le (((es.take ky).drop (kx + 1)).take i2)
                  rw [List.length_take, List.length_drop, List.length_take] at this
                  omega
                cases ev2 with
                | inn c =>
                  refine ⟨rfl, .ref b2, rfl, b2, _, 0, .str "in", rfl, rfl, hb2, atI_nat (j := 0) rfl, rfl, _, rfl, ?_⟩
                  rw [decide_eq_false (fun z => ne_io (V.str.inj z))]
                  exact iteF ⟨s2, by rw [outs_inn hev2]; exact hDx⟩
                | out =>
                  refine ⟨rfl, .ref b2, rfl, b2, _, 0, .str "out", rfl, rfl, hb2, atI_nat (j := 0) rfl, rfl, _, rfl, ?_⟩
                  rw [decide_eq_true (rfl : V.str "out" = V.str "out")]
                  refine iteT ⟨_, hDx, by rw [List.length_replicate]; exact small1000 (by omega), sm_upd s2 hD, ?_⟩
                  rw [upd_same, outs_out hev2, List.replicate_succ']
              rintro Hx ⟨s2, hDx⟩
              rw [List.length_map, ev_all hlen] at hDx
              refine ⟨D, _, rfl, .inl (SqL.of hDx), _, rfl, _, _, rfl, rfl, _, rfl, ?_⟩
              rw [List.length_replicate]
              have hstep := hst
              have smX := sm_trans smA4 s2
              by_cases hlt : ((outsN ((es.take ky).drop (kx + 1)) : Nat) : Int) < 0
              · rw [if_pos hlt] at hstep
                rw [decide_eq_true hlt]
                refine iteT ⟨_, rfl, _, rfl, by show 3 ≤ sizeLine; decide, fun e9 he9 => ?_⟩
                refine q _ _ (sm_new (sm_trans k2 smX) he9) ?_
                unfold swWhy
                rw [hsw, hstep]
                exact ⟨e9, rfl, sm_none (sm_trans k2 smX) he9, upd_same⟩
              · rw [if_neg hlt] at hstep
                rw [decide_eq_false hlt]
                exact iteF ⟨_, _, _, _, _, _, _, _, rfl, smX, by omega, hsw.trans hstep⟩

            · rw [decide_eq_false (fun z => hsd (by have := V.bl.inj z; rw [dec_lt, dec_lt] at this; exact this))]
              refine iteF ?_
              have hst := sw_succ hxn hFn hn (.inl ⟨M, hrun, hB⟩) hqp hq
              rw [if_neg (show ¬ (x = c0 ∨ decide (F.idxOf x < F.idxOf c0) = decide (F.idxOf y < F.idxOf c0)) from fun z => z.elim hxm hsd)] at hst
              have eN : (szs xs.length es).getD (kx + 1) 0 - (((c0 :: M).map V.str).length : Nat) - (0 + ((j + 1 : Nat) : Int)) = (szs xs.length es).getD (kx + 1) 0 - (runF xs F).length - (j + 1 : Nat) := by rw [hrun]; simp
              rw [← eN] at hst
              have hsin : (kx + 1) ≤ ky := by omega
              have ecut : cutV (as.map V.ref) (some (((kx : Nat) : Int) + 1)) (some ((ky : Nat) : Int)) = (((as.take ky).drop (kx + 1)).map V.ref) := by
                rw [List.map_drop, List.map_take, show (((kx : Nat) : Int) + 1) = (((kx + 1) : Nat) : Int) by omega]
                exact cutV_nat (by rw [List.length_map]; omega) (by rw [List.length_map]; omega)
              refine ⟨.ref l, rfl, _, rfl, _, rfl, .ref D2, rfl, _, rfl, D2, _, _, .int ((ky : Nat) : Int), rfl, rfl, SqL.of h23, lateAt00 hq, _, rfl, l, as.map V.ref, rfl, SqL.of hl3, fun u hu => ?_⟩
              rw [ecut]
              refine ⟨u, rfl, ⟨_, SqL.of upd_same⟩, fun D hD => ?_⟩
              have smu : L2.Same H3 (L2.upd H3 u (.lst (((as.take ky).drop (kx + 1)).map V.ref))) := sm_new sm_refl hu
              have hu1 : (L2.upd H3 u (.lst (((as.take ky).drop (kx + 1)).map V.ref))) u = some (.lst (((as.take ky).drop (kx + 1)).map V.ref)) := upd_same
              have smA4 := sm_trans smA smu
              generalize L2.upd H3 u (.lst (((as.take ky).drop (kx + 1)).map V.ref)) = H4 at smu hu1 hD smA4 ⊢
              refine lc_list (K := K) (a := u) (xs := ((as.take ky).drop (kx + 1)).map V.ref) (fun i2 Hx => L2.Same H4 Hx ∧ Hx D = some (.lst (List.replicate (outsN (((es.take ky).drop (kx + 1)).take i2)) (V.int 1)))) ?_ ?_ ?_ ?_
              · exact ⟨sm_new sm_refl hD, by rw [List.take_zero]; exact upd_same⟩
              · rintro i2 Hx _ ⟨s2, _⟩
                exact SqL.of (s2 _ _ hu1)
              · rintro i2 z Hx hz ⟨s2, hDx⟩
                obtain ⟨b2, ev2, rfl, hev2, hb2⟩ := ev_cut hE hz
                have hb2 : SqT K Hx b2 ev2.vals := SqT.of (s2 _ _ (smA4 _ _ (k2 _ _ hb2)))
                have hle2 : outsN (((es.take ky).drop (kx + 1)).take i2) ≤ 400 := by
                  have := outs_le (((es.take ky).drop (kx + 1)).take i2)
                  rw [List.length_take, List.length_drop, List.length_take] at this
                  omega
                cases ev2 with
                | inn c =>
                  refine ⟨rfl, .ref b2, rfl, b2, _, 0, .str "in", rfl, rfl, hb2, atI_nat (j := 0) rfl, rfl, _, rfl, ?_⟩
                  rw [decide_eq_false (fun z => ne_io (V.str.inj z))]
                  exact iteF ⟨s2, by rw [outs_inn hev2]; exact hDx⟩
                | out =>
                  refine ⟨rfl, .ref b2, rfl, b2, _, 0, .str "out", rfl, rfl, hb2, atI_nat (j := 0) rfl, rfl, _, rfl, ?_⟩
                  rw [decide_eq_true (rfl : V.str "out" = V.str "out")]
                  refine iteT ⟨_, hDx, by rw [List.length_replicate]; exact small1000 (by omega), sm_upd s2 hD, ?_⟩
                  rw [upd_same, outs_out hev2, List.replicate_succ']
              rintro Hx ⟨s2, hDx⟩
              rw [List.length_map, ev_all hlen] at hDx
              refine ⟨D, _, rfl, .inl (SqL.of hDx), _, rfl, _, _, rfl, rfl, _, rfl, ?_⟩
              rw [List.length_replicate]
              have hstep := hst
              have smX := sm_trans smA4 s2
              by_cases hlt : ((outsN ((es.take ky).drop (kx + 1)) : Nat) : Int) < ((szs xs.length es).getD (kx + 1) 0 - (((c0 :: M).map V.str).length : Nat) - (0 + ((j + 1 : Nat) : Int)))
              · rw [if_pos hlt] at hstep
                rw [decide_eq_true hlt]
                refine iteT ⟨_, rfl, _, rfl, by show 3 ≤ sizeLine; decide, fun e9 he9 => ?_⟩
                refine q _ _ (sm_new (sm_trans k2 smX) he9) ?_
                unfold swWhy
                rw [hsw, hstep]
                exact ⟨e9, rfl, sm_none (sm_trans k2 smX) he9, upd_same⟩
              · rw [if_neg hlt] at hstep
                rw [decide_eq_false hlt]
                exact iteF ⟨_, _, _, _, _, _, _, _, rfl, smX, by omega, hsw.trans hstep⟩


      · rintro σ H' ⟨w6, w7, w8, w9, w10, w11, w12, w13, rfl, sm, _, hsw⟩
        refine q H' .non (sm_trans k2 sm) ?_
        unfold swWhy
        rw [hsw, sw_end (by rw [arr_length hFn hB, List.length_map, Int.toNat_natCast]; exact Nat.le_refl _)]
        rfl

end
end Ln


set_option Elab.async false
set_option linter.all false
set_option maxRecDepth 100000
set_option maxHeartbeats 4000000
namespace Ln
open PySem PySem.Spec PyProof.Rows L2 GxR
/-! ### point 12: which sets can stay -/
def gapF (xs S : List Str) : Option Str := (cutN xs (brg xs S)).find? fun c => !decide (c ∈ S)
def depB4 (S : List Str) : Nat → List Ev → Option Nat
  | _, [] => none
  | n, .out :: r => depB4 S (n + 1) r
  | n, .inn c :: r => if c ∈ S then some n else depB4 S n r
def sideF (xs S : List Str) (es : List Ev) : Option (Nat × Nat × Nat) :=
  match depB4 S 0 es with
  | none => none
  | some d => if (brg xs S).2 = 0 then none else if d < min (brg xs S).1 (xs.length - (brg xs S).2) then some ((brg xs S).1, xs.length - (brg xs S).2, d) else none
inductive WS where
  | ok
  | size (n : Int)
  | moment (t : Nat)
  | block (c : Str)
  | sides (l r d : Nat)
def whyS (xs : List Str) (es : List Ev) (S : List Str) : WS :=
  if (S.length : Int) ≠ endI xs.length es then .size (endI xs.length es) else
  match fneg (ext0 xs S es) with
  | some t => .moment t
  | none => match gapF xs S with
    | some c => .block c
    | none => match sideF xs S es with
      | some p => .sides p.1 p.2.1 p.2.2
      | none => .ok
def wsT : WS → Option (List V)
  | .ok => none
  | .size n => some [.str "size", .int n]
  | .moment t => some [.str "moment", .int (t : Nat)]
  | .block c => some [.str "block", .str c]
  | .sides l r d => some [.str "sides", .int (l : Nat), .int (r : Nat), .int (d : Nat)]
def RsV (H H' : Hp) (v : V) : Option (List V) → Prop
  | none => v = .non
  | some l => ∃ p, v = .ref p ∧ H p = none ∧ H' p = some (.tup l)
theorem cutK {K : PySem.W.Frag} {Ps : List Addr} {H H1 : Hp} {a : Addr} {xs : List Str} {p : Nat × Nat} {Q : VK} (hT : Tabs Ps H) (k1 : Kp Ps H H1) (hA : SqT K H1 a (xs.map V.str)) (h1 : p.1 ≤ xs.length) (h2 : p.2 ≤ xs.length)
    (q : ∀ H' z, Kp Ps H H' → SqT K H' z ((cutN xs p).map V.str) → Q (.ref z) H') : rSlA K (.ref a) (some ((p.1 : Nat) : Int)) (some ((p.2 : Nat) : Int)) H1 Q := by
  have hcut : cutV (xs.map V.str) (some ((p.1 : Nat) : Int)) (some ((p.2 : Nat) : Int)) = (cutN xs p).map V.str := by
    rw [cutV_nat (by rw [List.length_map]; exact h1) (by rw [List.length_map]; exact h2)]
    unfold cutN
    rw [← List.map_take, ← List.map_drop]
  refine ⟨a, _, rfl, hA, fun hw => ?_, fun _ z hz => ?_⟩
  · refine q H1 a k1 ?_
    rw [HT.sIx_nat, HT.sIx_nat, List.length_map, Nat.min_eq_left h1, Nat.min_eq_left h2] at hw
    have e : cutN xs p = xs := by
      unfold cutN
      rw [hw.1, hw.2, List.take_length]
      rfl
    rw [e]
    exact hA
  · rw [hcut]
    exact q _ z (k1.upd hT (k1.free hT hz)) (SqT.of upd_same)
section
variable {P : Program} {w : World} {K : PySem.W.Frag} {mg : Str → Option Value} {base : Heap} {Ps : List Addr}
def spReqCars (K : PySem.W.Frag) (Ps : List Addr) : Sp := fun vs H Q _ => ∃ (a l f : Addr) (xs : List Str) (as : List Addr) (es : List Ev) (S : List Str), vs = [.ref a, .ref l, .ref f] ∧ LaneAt K H a xs ∧ laneB xs = true ∧ LogAt K H l as es ∧ logB xs xs.length es = true ∧ LaneAt K H f S ∧ laneB S = true ∧ (∀ c ∈ S, c ∈ xs ++ arrs es) ∧ Tabs Ps H ∧ ∀ H', Kp Ps H H' → Q .non H'
def spFirstGap (K : PySem.W.Frag) (Ps : List Addr) : Sp := fun vs H Q _ => ∃ (a f : Addr) (xs S : List Str), vs = [.ref a, .ref f] ∧ SqT K H a (xs.map V.str) ∧ SqT K H f (S.map V.str) ∧ xs.length ≤ 400 ∧ Tabs Ps H ∧
  ∀ H', Kp Ps H H' → Q (match gapF xs S with | none => .non | some c => .str c) H'
def spDepB4 (K : PySem.W.Frag) (Ps : List Addr) : Sp := fun vs H Q _ => ∃ (l f : Addr) (as : List Addr) (es : List Ev) (S : List Str), vs = [.ref l, .ref f] ∧ LogAt K H l as es ∧ SqT K H f (S.map V.str) ∧ Tabs Ps H ∧
  ∀ H', Kp Ps H H' → Q (match depB4 S 0 es with | none => .non | some d => .int (d : Nat)) H'
end
end Ln


set_option Elab.async false
set_option linter.all false
set_option maxRecDepth 100000
set_option maxHeartbeats 4000000
namespace Ln
open PySem PySem.Spec PyProof.Rows L2 GxR
def sideV (p : Nat × Nat × Nat) : List V := [.str "sides", .int (p.1 : Nat), .int (p.2.1 : Nat), .int (p.2.2 : Nat)]
section
variable {P : Program} {w : World} {K : PySem.W.Frag} {mg : Str → Option Value} {base : Heap} {Ps : List Addr}
def spSideC (K : PySem.W.Frag) (Ps : List Addr) : Sp := fun vs H Q _ => ∃ (a l f : Addr) (xs : List Str) (as : List Addr) (es : List Ev) (S : List Str), vs = [.ref a, .ref l, .ref f] ∧ SqT K H a (xs.map V.str) ∧ LogAt K H l as es ∧ SqT K H f (S.map V.str) ∧ xs.length ≤ 400 ∧ Tabs Ps H ∧
  ∀ H' v, Kp Ps H H' → RsV H H' v ((sideF xs S es).map sideV) → Q v H'
def spWhyNS (K : PySem.W.Frag) (Ps : List Addr) : Sp := fun vs H Q _ => ∃ (a l f : Addr) (xs : List Str) (as : List Addr) (es : List Ev) (S : List Str), vs = [.ref a, .ref l, .ref f] ∧ LaneAt K H a xs ∧ laneB xs = true ∧ LogAt K H l as es ∧ logB xs xs.length es = true ∧ LaneAt K H f S ∧ laneB S = true ∧ (∀ c ∈ S, c ∈ xs ++ arrs es) ∧ Tabs Ps H ∧
  ∀ H' v, Kp Ps H H' → RsV H H' v (wsT (whyS xs es S)) → Q v H'
def canS : WS → Bool
  | .ok => true
  | _ => false
theorem rsV_non {H H' : Hp} {v : V} {y : WS} (h : RsV H H' v (wsT y)) : decide (v = .non) = canS y := by
  cases y with
  | ok => exact decide_eq_true h
  | size i => obtain ⟨p, rfl, _⟩ := h; rfl
  | moment t => obtain ⟨p, rfl, _⟩ := h; rfl
  | block c => obtain ⟨p, rfl, _⟩ := h; rfl
  | sides l r d => obtain ⟨p, rfl, _⟩ := h; rfl
def spCanStay (K : PySem.W.Frag) (Ps : List Addr) : Sp := fun vs H Q _ => ∃ (a l f : Addr) (xs : List Str) (as : List Addr) (es : List Ev) (S : List Str), vs = [.ref a, .ref l, .ref f] ∧ LaneAt K H a xs ∧ laneB xs = true ∧ LogAt K H l as es ∧ logB xs xs.length es = true ∧ LaneAt K H f S ∧ laneB S = true ∧ (∀ c ∈ S, c ∈ xs ++ arrs es) ∧ Tabs Ps H ∧
  ∀ H', Kp Ps H H' → Q (.bl (canS (whyS xs es S))) H'
end
end Ln


set_option Elab.async false
set_option linter.all false
set_option maxRecDepth 100000
set_option maxHeartbeats 4000000
namespace Ln
open PySem
/-! ### point 12: the conditions of a set, and two of its lanes -/
section
variable {S T : List Str} (h : ∀ c, c ∈ S ↔ c ∈ T)
include h
theorem plcs_mem : ∀ (xs : List Str) (i : Nat), plcs S i xs = plcs T i xs
  | [], _ => rfl
  | c :: r, i => by
    show (if c ∈ S then _ else _) = (if c ∈ T then _ else _)
    rw [plcs_mem r (i + 1)]
    by_cases q : c ∈ S
    · rw [if_pos q, if_pos ((h c).mp q)]
    · rw [if_neg q, if_neg fun z => q ((h c).mpr z)]
theorem brg_mem (xs : List Str) : brg xs S = brg xs T := by
  show brgL (plcs S 0 xs) = brgL (plcs T 0 xs)
  rw [plcs_mem h]
theorem ext_mem : ∀ (es : List Ev) (x : Int), extL S x es = extL T x es
  | [], _ => rfl
  | .out :: r, x => by
    show x :: extL S (x - 1) r = x :: extL T (x - 1) r
    rw [ext_mem r]
  | .inn c :: r, x => by
    show x :: extL S (if c ∈ S then x else x + 1) r = x :: extL T (if c ∈ T then x else x + 1) r
    rw [ext_mem r]
    by_cases q : c ∈ S
    · rw [if_pos q, if_pos ((h c).mp q)]
    · rw [if_neg q, if_neg fun z => q ((h c).mpr z)]
theorem filt_mem (xs : List Str) : (xs.filter fun c => decide (c ∈ S)) = xs.filter fun c => decide (c ∈ T) := List.filter_congr fun c _ => decide_eq_decide.mpr (h c)
theorem ext0_mem (xs : List Str) (es : List Ev) : ext0 xs S es = ext0 xs T es := by
  show extL S ((xs.length : Int) - stayN xs S) es = extL T ((xs.length : Int) - stayN xs T) es
  have : stayN xs S = stayN xs T := by
    unfold stayN
    rw [filt_mem h]
  rw [this, ext_mem h]
theorem dep_mem : ∀ (es : List Ev) (n : Nat), depB4 S n es = depB4 T n es
  | [], _ => rfl
  | .out :: r, n => dep_mem r (n + 1)
  | .inn c :: r, n => by
    show (if c ∈ S then some n else depB4 S n r) = (if c ∈ T then some n else depB4 T n r)
    rw [dep_mem r n]
    by_cases q : c ∈ S
    · rw [if_pos q, if_pos ((h c).mp q)]
    · rw [if_neg q, if_neg fun z => q ((h c).mpr z)]
end
theorem why_ok_iff {xs F : List Str} {es : List Ev} : why xs es F = .ok ↔ carsOk xs es F = true ∧ hasBlk xs F = true ∧ fpk (F.map fun c => (xs ++ arrs es).idxOf c) = none ∧ fneg (ext0 xs F es) = none ∧ swC xs es F = none := by
  refine ⟨why_ok_parts, fun ⟨h1, h2, h3, h4, h5⟩ => ?_⟩
  unfold why
  rw [if_neg (by rw [h1]; decide), if_neg (by rw [h2]; decide), h3]
  show (match fneg (ext0 xs F es) with | some t => Why.moment t | none => match swC xs es F with | some (b, c) => .switch b c | none => .ok) = _
  rw [h4]
  show (match swC xs es F with | some (b, c) => Why.switch b c | none => .ok) = _
  rw [h5]
end Ln
namespace Ln
open PySem
theorem sw_r0 {F : List Str} : ∀ (r : List Ev) (l : Nat) (nL nR x : Int) (b : Option Str), (∀ c ∈ arrs r, c ∈ F → ¬ F.idxOf c < l) → nR ≤ 0 → swG F (some l) nL nR x b r = none
  | [], _, _, _, _, _, _, _ => rfl
  | .out :: r, l, nL, nR, x, b, h, h0 => sw_r0 r l (nL - 1) (nR - 1) (x - 1) b h (by omega)
  | .inn c :: r, l, nL, nR, x, b, h, h0 => by
    have h' : ∀ c ∈ arrs r, c ∈ F → ¬ F.idxOf c < l := fun d hd => h d (by rw [arrs_cons]; exact List.mem_append_right _ hd)
    show (if c ∈ F then (if F.idxOf c < l then (if 0 < nL then some (b, c) else swG F (some l) 0 x x (some c) r) else (if 0 < nR then some (b, c) else swG F (some l) x 0 x (some c) r)) else swG F (some l) nL nR (x + 1) b r) = none
    by_cases hc : c ∈ F
    · rw [if_pos hc, if_neg (h c (by rw [arrs_cons]; exact List.mem_append_left _ List.mem_cons_self) hc), if_neg (by omega)]
      exact sw_r0 r l x 0 x _ h' (Int.le_refl _)
    · rw [if_neg hc]
      exact sw_r0 r l nL nR _ b h' h0
theorem sw_l0 {F : List Str} : ∀ (r : List Ev) (l : Nat) (nL nR x : Int) (b : Option Str), (∀ c ∈ arrs r, c ∈ F → F.idxOf c < l) → nL ≤ 0 → swG F (some l) nL nR x b r = none
  | [], _, _, _, _, _, _, _ => rfl
  | .out :: r, l, nL, nR, x, b, h, h0 => sw_l0 r l (nL - 1) (nR - 1) (x - 1) b h (by omega)
  | .inn c :: r, l, nL, nR, x, b, h, h0 => by
    have h' : ∀ c ∈ arrs r, c ∈ F → F.idxOf c < l := fun d hd => h d (by rw [arrs_cons]; exact List.mem_append_right _ hd)
    show (if c ∈ F then (if F.idxOf c < l then (if 0 < nL then some (b, c) else swG F (some l) 0 x x (some c) r) else (if 0 < nR then some (b, c) else swG F (some l) x 0 x (some c) r)) else swG F (some l) nL nR (x + 1) b r) = none
    by_cases hc : c ∈ F
    · rw [if_pos hc, if_pos (h c (by rw [arrs_cons]; exact List.mem_append_left _ List.mem_cons_self) hc), if_neg (by omega)]
      exact sw_l0 r l 0 x x _ h' (Int.le_refl _)
    · rw [if_neg hc]
      exact sw_l0 r l nL nR _ b h' h0
/-- all arriving stayers on the right -/
theorem sw_r {F : List Str} : ∀ (r : List Ev) (l : Nat) (nL nR x : Int) (b : Option Str) (n : Nat), (∀ c ∈ arrs r, c ∈ F → ¬ F.idxOf c < l) → (swG F (some l) nL nR x b r = none ↔ ∀ d, depB4 F n r = some d → nR + n ≤ d)
  | [], _, _, _, _, _, _, _ => ⟨(fun _ d hd => nomatch hd), fun _ => rfl⟩
  | .out :: r, l, nL, nR, x, b, n, h => by
    have := sw_r r l (nL - 1) (nR - 1) (x - 1) b (n + 1) h
    show swG F (some l) (nL - 1) (nR - 1) (x - 1) b r = none ↔ ∀ d, depB4 F (n + 1) r = some d → nR + n ≤ d
    rw [this]
    exact ⟨fun z d hd => by have := z d hd; omega, fun z d hd => by have := z d hd; omega⟩
  | .inn c :: r, l, nL, nR, x, b, n, h => by
    have h' : ∀ c ∈ arrs r, c ∈ F → ¬ F.idxOf c < l := fun d hd => h d (by rw [arrs_cons]; exact List.mem_append_right _ hd)
    show (if c ∈ F then (if F.idxOf c < l then (if 0 < nL then some (b, c) else swG F (some l) 0 x x (some c) r) else (if 0 < nR then some (b, c) else swG F (some l) x 0 x (some c) r)) else swG F (some l) nL nR (x + 1) b r) = none ↔ ∀ d, (if c ∈ F then some n else depB4 F n r) = some d → nR + n ≤ d
    by_cases hc : c ∈ F
    · rw [if_pos hc, if_neg (h c (by rw [arrs_cons]; exact List.mem_append_left _ List.mem_cons_self) hc), if_pos hc]
      by_cases q : 0 < nR
      · rw [if_pos q]
        exact ⟨(fun z => nomatch z), fun z => absurd (z n rfl) (by omega)⟩
      · rw [if_neg q]
        exact ⟨(fun _ d hd => by have := Option.some.inj hd; omega), fun _ => sw_r0 r l x 0 x _ h' (Int.le_refl _)⟩
    · rw [if_neg hc, if_neg hc]
      exact sw_r r l nL nR _ b n h'
theorem sw_l {F : List Str} : ∀ (r : List Ev) (l : Nat) (nL nR x : Int) (b : Option Str) (n : Nat), (∀ c ∈ arrs r, c ∈ F → F.idxOf c < l) → (swG F (some l) nL nR x b r = none ↔ ∀ d, depB4 F n r = some d → nL + n ≤ d)
  | [], _, _, _, _, _, _, _ => ⟨(fun _ d hd => nomatch hd), fun _ => rfl⟩
  | .out :: r, l, nL, nR, x, b, n, h => by
    have := sw_l r l (nL - 1) (nR - 1) (x - 1) b (n + 1) h
    show swG F (some l) (nL - 1) (nR - 1) (x - 1) b r = none ↔ ∀ d, depB4 F (n + 1) r = some d → nL + n ≤ d
    rw [this]
    exact ⟨fun z d hd => by have := z d hd; omega, fun z d hd => by have := z d hd; omega⟩
  | .inn c :: r, l, nL, nR, x, b, n, h => by
    have h' : ∀ c ∈ arrs r, c ∈ F → F.idxOf c < l := fun d hd => h d (by rw [arrs_cons]; exact List.mem_append_right _ hd)
    show (if c ∈ F then (if F.idxOf c < l then (if 0 < nL then some (b, c) else swG F (some l) 0 x x (some c) r) else (if 0 < nR then some (b, c) else swG F (some l) x 0 x (some c) r)) else swG F (some l) nL nR (x + 1) b r) = none ↔ ∀ d, (if c ∈ F then some n else depB4 F n r) = some d → nL + n ≤ d
    by_cases hc : c ∈ F
    · rw [if_pos hc, if_pos (h c (by rw [arrs_cons]; exact List.mem_append_left _ List.mem_cons_self) hc), if_pos hc]
      by_cases q : 0 < nL
      · rw [if_pos q]
        exact ⟨(fun z => nomatch z), fun z => absurd (z n rfl) (by omega)⟩
      · rw [if_neg q]
        exact ⟨(fun _ d hd => by have := Option.some.inj hd; omega), fun _ => sw_l0 r l 0 x x _ h' (Int.le_refl _)⟩
    · rw [if_neg hc, if_neg hc]
      exact sw_l r l nL nR _ b n h'
/-- all stayers arrive, and all on the right -/
theorem sw_n {F : List Str} : ∀ (r : List Ev) (nL nR x : Int) (b : Option Str), (arrs r).filter (fun c => decide (c ∈ F)) = F → swG F none nL nR x b r = none
  | [], _, _, _, _, _ => rfl
  | .out :: r, nL, nR, x, b, h => sw_n r (nL - 1) (nR - 1) (x - 1) b h
  | .inn c :: r, nL, nR, x, b, h => by
    have e : arrs (.inn c :: r) = c :: arrs r := rfl
    rw [e] at h
    show (if c ∈ F then swG F (some (F.idxOf c)) 0 0 x (some c) r else swG F none nL nR (x + 1) b r) = none
    by_cases hc : c ∈ F
    · rw [if_pos hc]
      rw [List.filter_cons_of_pos (by simpa using hc)] at h
      have h0 : F.idxOf c = 0 := by
        rw [← h]
        simp
      rw [h0]
      exact sw_r0 r 0 0 0 x _ (fun d _ _ => Nat.not_lt_zero _) (Int.le_refl _)
    · rw [if_neg hc]
      rw [List.filter_cons_of_neg (by simpa using hc)] at h
      exact sw_n r nL nR _ b h
end Ln
namespace Ln
open PySem
theorem fpk_asc {kn F : List Str} (hn : kn.Nodup) (h : F.Sublist kn) : (F.map fun c => kn.idxOf c).Pairwise (fun a b => a < b) := by
  have h1 := (mid_asc (A := []) (B := kn) (C := []) (R := []) (by simpa using hn)).1
  simp only [List.nil_append, List.append_nil] at h1
  exact List.pairwise_map.mpr (h1.sublist h)
theorem stay_iff {xs S : List Str} {es : List Ev} (hn : (xs ++ arrs es).Nodup) (hS : S.Nodup) (hk : ∀ c ∈ S, c ∈ xs ++ arrs es) (hsz : (S.length : Int) = endI xs.length es) :
    whyS xs es S = .ok ↔ Run xs es ((xs.filter fun c => decide (c ∈ S)) ++ (arrs es).filter fun c => decide (c ∈ S)) ∨ Run xs es (((arrs es).filter fun c => decide (c ∈ S)).reverse ++ xs.filter fun c => decide (c ∈ S)) := by
  generalize hrun : (xs.filter fun c => decide (c ∈ S)) = run
  generalize hlate : ((arrs es).filter fun c => decide (c ∈ S)) = late
  have nx := (List.nodup_append.mp hn).1
  have ne := (List.nodup_append.mp hn).2.1
  have dis := (List.nodup_append.mp hn).2.2
  have rs : run.Sublist xs := by rw [← hrun]; exact List.filter_sublist
  have ls : late.Sublist (arrs es) := by rw [← hlate]; exact List.filter_sublist
  have rm : ∀ c, c ∈ run ↔ c ∈ xs ∧ c ∈ S := fun c => by rw [← hrun, List.mem_filter, decide_eq_true_iff]
  have lm : ∀ c, c ∈ late ↔ c ∈ arrs es ∧ c ∈ S := fun c => by rw [← hlate, List.mem_filter, decide_eq_true_iff]
  have m1 : ∀ c, c ∈ run ++ late ↔ c ∈ S := fun c => by
    rw [List.mem_append, rm, lm]
    refine ⟨fun z => z.elim (·.2) (·.2), fun z => ?_⟩
    rcases List.mem_append.mp (hk c z) with w | w
    · exact .inl ⟨w, z⟩
    · exact .inr ⟨w, z⟩
  have m2 : ∀ c, c ∈ late.reverse ++ run ↔ c ∈ S := fun c => by
    rw [← m1 c, List.mem_append, List.mem_append, List.mem_reverse]
    exact Or.comm
  have n1 : (run ++ late).Nodup := hn.sublist (rs.append ls)
  have p12 : (late.reverse ++ run).Perm (run ++ late) := (List.perm_append_comm).trans ((List.reverse_perm late).append_left run)
  have n2 : (late.reverse ++ run).Nodup := p12.nodup_iff.mpr n1
  have pS : (run ++ late).Perm S := (List.perm_ext_iff_of_nodup n1 hS).mpr m1
  have l1 : (run ++ late).length = S.length := pS.length_eq
  have l2 : (late.reverse ++ run).length = S.length := (p12.trans pS).length_eq
  have c1 : carsOk xs es (run ++ late) = true := by
    unfold carsOk
    rw [Bool.and_eq_true]
    exact ⟨decide_eq_true (by rw [l1]; exact hsz), List.all_eq_true.mpr fun c hc => decide_eq_true (hk c ((m1 c).mp hc))⟩
  have c2 : carsOk xs es (late.reverse ++ run) = true := by
    unfold carsOk
    rw [Bool.and_eq_true]
    exact ⟨decide_eq_true (by rw [l2]; exact hsz), List.all_eq_true.mpr fun c hc => decide_eq_true (hk c ((m2 c).mp hc))⟩
  have lx : ∀ c ∈ late, c ∉ xs := fun c hc z => dis c z c ((lm c).mp hc).1 rfl
  have rx : ∀ c ∈ run, c ∈ xs := fun c hc => ((rm c).mp hc).1
  have b1 : brg (run ++ late) xs = if run = [] then (0, 0) else (0, run.length) := by
    have := brg_mid (A := []) (B := run) (C := late) (S := xs) (fun x hx => nomatch hx) rx lx
    simpa using this
  have b2 : brg (late.reverse ++ run) xs = if run = [] then (0, 0) else (late.reverse.length, late.reverse.length + run.length) := by
    have := brg_mid (A := late.reverse) (B := run) (C := []) (S := xs) (fun x hx => lx x (List.mem_reverse.mp hx)) rx (fun x hx => nomatch hx)
    simpa using this
  have k1 : cutN (run ++ late) (brg (run ++ late) xs) = run := by
    rw [b1]
    by_cases q : run = []
    · rw [if_pos q, q]; rfl
    · rw [if_neg q]
      have := cut_mid [] run late
      simpa using this
  have k2 : cutN (late.reverse ++ run) (brg (late.reverse ++ run) xs) = run := by
    rw [b2]
    by_cases q : run = []
    · rw [if_pos q, q]; rfl
    · rw [if_neg q]
      have := cut_mid late.reverse run []
      simpa using this
  have hb1 : hasBlk xs (run ++ late) = decide (cutN xs (brg xs S) = run) := by
    unfold hasBlk
    rw [k1, brg_mem m1]
  have hb2 : hasBlk xs (late.reverse ++ run) = decide (cutN xs (brg xs S) = run) := by
    unfold hasBlk
    rw [k2, brg_mem m2]
  obtain ⟨A, M, C, e, hA, hC, hcut, hbrg⟩ := brg_cut xs S
  have hMr : M.filter (fun c => decide (c ∈ S)) = run := by
    have e1 : A.filter (fun c => decide (c ∈ S)) = [] := List.filter_eq_nil_iff.mpr fun x hx => by simpa using hA x hx
    have e2 : C.filter (fun c => decide (c ∈ S)) = [] := List.filter_eq_nil_iff.mpr fun x hx => by simpa using hC x hx
    rw [← hrun, e, List.filter_append, List.filter_append, e1, e2]
    simp
  have hgap : gapF xs S = none ↔ cutN xs (brg xs S) = run := by
    unfold gapF
    rw [hcut, List.find?_eq_none, ← hMr]
    constructor
    · intro z
      symm
      exact List.filter_eq_self.mpr fun c hc => by simpa using z c hc
    · intro z c hc
      have := List.filter_eq_self.mp z.symm c hc
      simpa using this
  have f1 : fpk ((run ++ late).map fun c => (xs ++ arrs es).idxOf c) = none := by
    have := fpk_valley (d := []) (u := (run ++ late).map fun c => (xs ++ arrs es).idxOf c) (by simp) (fpk_asc hn (rs.append ls))
    simpa using this
  have f2 : fpk ((late.reverse ++ run).map fun c => (xs ++ arrs es).idxOf c) = none := by
    rw [List.map_append, List.map_reverse]
    refine fpk_valley ?_ (fpk_asc hn (rs.trans (List.sublist_append_left _ _)))
    exact List.pairwise_reverse.mpr (fpk_asc hn (ls.trans (List.sublist_append_right _ _)))
  have w1 := why_ok_iff (xs := xs) (F := run ++ late) (es := es)
  have w2 := why_ok_iff (xs := xs) (F := late.reverse ++ run) (es := es)
  rw [why_iff hn n1] at w1
  rw [why_iff hn n2] at w2
  rw [w1, w2, hb1, hb2, ext0_mem m1, ext0_mem m2]
  have sw1 : swC xs es (run ++ late) = swG (run ++ late) (lo0 (brg (run ++ late) xs)) ((brg xs S).1 : Int) ((xs.length : Int) - (brg xs S).2) ((xs.length : Int) - stayN xs (run ++ late)) none es := by
    unfold swC
    rw [swF_G es (lo0 (brg (run ++ late) xs)) _ _ none 0 0 0 ((xs.length : Int) - stayN xs (run ++ late)) rfl rfl, brg_mem m1]
    have : (depL 0 es).getD 0 0 = 0 := by
      cases es with
      | nil => rfl
      | cons e r => cases e <;> rfl
    rw [this]
    congr 1 <;> omega
  have sw2 : swC xs es (late.reverse ++ run) = swG (late.reverse ++ run) (lo0 (brg (late.reverse ++ run) xs)) ((brg xs S).1 : Int) ((xs.length : Int) - (brg xs S).2) ((xs.length : Int) - stayN xs (late.reverse ++ run)) none es := by
    unfold swC
    rw [swF_G es (lo0 (brg (late.reverse ++ run) xs)) _ _ none 0 0 0 ((xs.length : Int) - stayN xs (late.reverse ++ run)) rfl rfl, brg_mem m2]
    have : (depL 0 es).getD 0 0 = 0 := by
      cases es with
      | nil => rfl
      | cons e r => cases e <;> rfl
    rw [this]
    congr 1 <;> omega
  have hw : whyS xs es S = .ok ↔ cutN xs (brg xs S) = run ∧ fneg (ext0 xs S es) = none ∧ sideF xs S es = none := by
    unfold whyS
    rw [if_neg (fun z => z hsz), ← hgap]
    cases hf : fneg (ext0 xs S es) with
    | some t => exact ⟨(fun z => nomatch z), fun z => nomatch z.2.1⟩
    | none =>
      show (match gapF xs S with | some c => WS.block c | none => match sideF xs S es with | some p => .sides p.1 p.2.1 p.2.2 | none => .ok) = .ok ↔ _
      cases hg : gapF xs S with
      | some c => exact ⟨(fun z => nomatch z), fun z => nomatch z.1⟩
      | none =>
        show (match sideF xs S es with | some p => WS.sides p.1 p.2.1 p.2.2 | none => .ok) = .ok ↔ _
        cases hs : sideF xs S es with
        | some p => exact ⟨(fun z => nomatch z), fun z => nomatch z.2.2⟩
        | none => exact ⟨fun _ => ⟨rfl, rfl, rfl⟩, fun _ => rfl⟩
  rw [hw]
  have dec : decide (cutN xs (brg xs S) = run) = true ↔ cutN xs (brg xs S) = run := decide_eq_true_iff
  by_cases hr0 : run = []
  · have s1 : swC xs es (run ++ late) = none := by
      rw [sw1, b1, if_pos hr0]
      refine sw_n es _ _ _ _ ?_
      rw [filt_mem m1, hlate, hr0]
      rfl
    constructor
    · rintro ⟨h1, h2, _⟩
      exact .inl ⟨c1, dec.mpr h1, f1, h2, s1⟩
    · intro z
      have h12 : cutN xs (brg xs S) = run ∧ fneg (ext0 xs S es) = none := by
        rcases z with ⟨_, h1, _, h2, _⟩ | ⟨_, h1, _, h2, _⟩
        · exact ⟨dec.mp h1, h2⟩
        · exact ⟨dec.mp h1, h2⟩
      refine ⟨h12.1, h12.2, ?_⟩
      have hM : M = [] := by rw [← hcut, h12.1]; exact hr0
      have h0 : (brg xs S).2 = 0 := by rw [hbrg, if_pos hM]
      unfold sideF
      cases depB4 S 0 es with
      | none => rfl
      | some d => show (if (brg xs S).2 = 0 then none else _) = none; rw [if_pos h0]
  · have hlr : run.length ≠ 0 := fun z => hr0 (List.eq_nil_of_length_eq_zero z)
    have o1 : lo0 (brg (run ++ late) xs) = some 0 := by
      rw [b1, if_neg hr0]
      show (if run.length = 0 then none else some 0) = _
      rw [if_neg hlr]
    have o2 : lo0 (brg (late.reverse ++ run) xs) = some late.reverse.length := by
      rw [b2, if_neg hr0]
      show (if late.reverse.length + run.length = 0 then none else some late.reverse.length) = _
      rw [if_neg (by omega)]
    have s1 : swC xs es (run ++ late) = none ↔ ∀ d, depB4 S 0 es = some d → ((xs.length : Int) - (brg xs S).2) ≤ d := by
      rw [sw1, o1, sw_r es 0 _ _ _ _ 0 (fun c _ _ => Nat.not_lt_zero _), dep_mem m1]
      exact ⟨fun z d hd => by have := z d hd; omega, fun z d hd => by have := z d hd; omega⟩
    have s2 : swC xs es (late.reverse ++ run) = none ↔ ∀ d, depB4 S 0 es = some d → ((brg xs S).1 : Int) ≤ d := by
      rw [sw2, o2, sw_l es _ _ _ _ _ 0 (fun c hc hcF => ?_), dep_mem m2]
      · exact ⟨fun z d hd => by have := z d hd; omega, fun z d hd => by have := z d hd; omega⟩
      · have hl : c ∈ late.reverse := List.mem_reverse.mpr ((lm c).mpr ⟨hc, (m2 c).mp hcF⟩)
        rw [List.idxOf_append, if_pos hl]
        exact List.idxOf_lt_length_of_mem hl
    have b := brg_le xs S
    have side : cutN xs (brg xs S) = run → (sideF xs S es = none ↔ ((∀ d, depB4 S 0 es = some d → ((xs.length : Int) - (brg xs S).2) ≤ d) ∨ ∀ d, depB4 S 0 es = some d → ((brg xs S).1 : Int) ≤ d)) := fun hc => by
      have hM : M = run := by rw [← hcut, hc]
      have h0 : (brg xs S).2 ≠ 0 := by
        rw [hbrg, if_neg (by rw [hM]; exact hr0)]
        show A.length + M.length ≠ 0
        rw [hM]
        omega
      unfold sideF
      cases hd : depB4 S 0 es with
      | none => exact ⟨fun _ => .inl (fun d h => nomatch h), fun _ => rfl⟩
      | some d =>
        show (if (brg xs S).2 = 0 then none else if d < min (brg xs S).1 (xs.length - (brg xs S).2) then some ((brg xs S).1, xs.length - (brg xs S).2, d) else none) = none ↔ _
        rw [if_neg h0]
        by_cases q : d < min (brg xs S).1 (xs.length - (brg xs S).2)
        · rw [if_pos q]
          refine ⟨(fun z => nomatch z), fun z => ?_⟩
          rcases z with z | z
          · have := z d rfl
            omega
          · have := z d rfl
            omega
        · rw [if_neg q]
          refine ⟨fun _ => ?_, fun _ => rfl⟩
          by_cases q2 : (brg xs S).1 ≤ d
          · exact .inr fun d' hd' => by have := Option.some.inj hd'; omega
          · exact .inl fun d' hd' => by have := Option.some.inj hd'; omega
    rw [s1, s2, dec]
    constructor
    · rintro ⟨h1, h2, h3⟩
      rcases (side h1).mp h3 with w | w
      · exact .inl ⟨c1, h1, f1, h2, w⟩
      · exact .inr ⟨c2, h1, f2, h2, w⟩
    · rintro (⟨_, h1, _, h2, w⟩ | ⟨_, h1, _, h2, w⟩)
      · exact ⟨h1, h2, (side h1).mpr (.inl w)⟩
      · exact ⟨h1, h2, (side h1).mpr (.inr w)⟩
end Ln


set_option Elab.async false
set_option linter.all false
set_option maxRecDepth 100000
set_option maxHeartbeats 4000000
namespace Ln
open PySem PySem.Spec PyProof.Rows L2
/-! ### sorted(xs), texts, any number of them -/
section
variable {prog : Program} {w : World} {A : Around} {s : Shared}
def txtOf : Value → Str
  | .str x _ => x
  | _ => ""
def ltTxt (v u : Value) : Bool := decide ((txtOf v).cps.toList < (txtOf u).cps.toList)
theorem swo_txt : SrtO.Swo ltTxt := by
  refine ⟨fun x y h => ?_, fun x y z h1 h2 => ?_⟩
  · exact decide_eq_false fun z => List.lt_asymm (of_decide_eq_true h) z
  · have a := of_decide_eq_false h1
    have b := of_decide_eq_false h2
    exact decide_eq_false fun q => a (List.lt_of_le_of_lt (List.not_lt.mp b) q)
theorem strs_mem : ∀ {vs : List Value} {ns : List Str}, StrsAre vs ns → ∀ v ∈ vs, ∃ x t, v = Value.str x t
  | _, _, .nil, v, h => absurd h (by simp)
  | _, _, .cons n t r, v, h => by
    rcases List.mem_cons.mp h with e | q
    · exact ⟨n, t, e⟩
    · exact strs_mem r v q
theorem strs_txt : ∀ {vs : List Value}, (∀ v ∈ vs, ∃ x t, v = Value.str x t) → StrsAre vs (vs.map txtOf)
  | [], _ => .nil
  | v :: vs, h => by
    obtain ⟨x, t, rfl⟩ := h v List.mem_cons_self
    exact .cons x t (strs_txt fun u hu => h u (List.mem_cons_of_mem _ hu))
theorem txt_strs : ∀ {vs : List Value} {ns : List Str}, StrsAre vs ns → vs.map txtOf = ns
  | _, _, .nil => rfl
  | _, _, .cons n t r => congrArg (n :: ·) (txt_strs r)
theorem strs_sortable {a : Addr} {vs : List Value} {ns : List Str} (hI : StrsAre vs ns) (h2 : 2 ≤ vs.length) : SrtO.SortableO prog w A s a vs ltTxt := by
  intro h' _
  refine ⟨oneType', fun Q E hq => ?_, fun p q hm hm' => ?_⟩
  · match vs, hI, h2 with
    | v1 :: v2 :: rest, hI, _ =>
      rw [keyKind_strs hI]
      exact wpAny_pure hq
    | [], _, h => exact absurd h (by decide)
    | [v], _, h => exact absurd h (by simp)
  · obtain ⟨x, t, e⟩ := strs_mem hI _ hm
    obtain ⟨y, u, e'⟩ := strs_mem hI _ hm'
    show wpAny (model prog w) A (keyLt' oneType' p.1 q.1) (fun r s' => s' = _ ∧ r = ltTxt p.1 q.1) (fun _ _ => False) _
    rw [e, e', keyLt'_oneType]
    exact oneLt_str ⟨rfl, rfl⟩
end
/-- no text behind is less -/
def upS (ys : List Str) : Prop := ys.Pairwise fun x y => ¬ y.cps.toList < x.cps.toList
def rSortedT (K : PySem.W.Frag) : List V → Hp → VK → Prop := fun vs H Q => ∃ (a : Addr) (xs : List Str), vs = [V.ref a] ∧ SqL K H a (xs.map V.str) ∧ ∀ (ys : List Str) (p : Addr), ys.Perm xs → upS ys → H p = none → Q (.ref p) (upd H p (.lst (ys.map V.str)))
theorem cr_sortedTx {X : Cx} : CallR X (.builtin "sorted") (rSortedT X.K) := by
  intro pins s σ H vs us Q I r h
  obtain ⟨a, ns, rfl, hs, q⟩ := h
  obtain ⟨its, rv, hl, hz⟩ := I.list hs
  rw [Vals.ref1 r]
  have hi := rv.strs
  refine SrtO.sorted_ord swo_txt hl.isList (by rw [← rv.length]; exact hz) (fun h2 h₁ a' _ _ => strs_sortable hi h2) fun out h1 h2 => ?_
  have k1 : StrsAre out (out.map txtOf) := strs_txt fun v hv => strs_mem hi v (h2.perm.mem_iff.mp hv)
  have k2 : (out.map txtOf).Perm ns := by
    have q := h2.perm.map txtOf
    rw [txt_strs hi] at q
    exact q
  have k3 : upS (out.map txtOf) := List.pairwise_map.mpr (h1.imp fun {x y} h => of_decide_eq_false h)
  obtain ⟨ep, hp⟩ := PyProof.Rows.sortedAll_at s.heap its out.toArray
  have hn : ((out.map txtOf).map V.str).length ≤ sizeLine := by
    rw [List.length_map, k2.length_eq]
    rw [List.length_map] at hz
    exact hz
  exact ⟨.ref _, upd H (s.heap.objs.size + 1) (.lst ((out.map txtOf).map V.str)), I.laid (t' := s.toks) (fun _ _ => PyProof.Rows.sortedAll_old) (Nat.le_succ _) ⟨hn, out, ep, vals_of_strs k1, hp⟩, rfl, q _ _ k2 k3 (I.hok.fresh (Nat.le_succ _))⟩
theorem upS_eq : ∀ {xs ys : List Str}, xs.Perm ys → upS xs → upS ys → xs = ys := by
  intro xs ys h h1 h2
  refine List.Perm.eq_of_pairwise ?_ h1 h2 h
  intro a b _ _ h3 h4
  have e := List.le_antisymm (List.not_lt.mp h4) (List.not_lt.mp h3)
  cases a
  cases b
  exact (congrArg Str.mk (Array.toList_inj.mp e)).symm
end Ln


set_option Elab.async false
set_option linter.all false
set_option maxRecDepth 100000
set_option maxHeartbeats 4000000
namespace Ln
open PySem PySem.Spec PyProof.Rows L2
/-! ### a set of texts that can be sorted -/
def keyS (e : Int × Value) : Str := txtOf e.2
def GoodS (w : World) (e : Int × Value) : Prop := ∃ (x : Str) (tk : Tok), e.2 = Value.str x tk ∧ e.1 = hashStr w x
structure TabS (w : World) (xs : Array (Int × Value)) (tb : SetTable) (S : Str → Bool) (n : Nat) : Prop where
  gd : ∀ e ∈ xs.toList, GoodS w e
  nd : (xs.toList.map keyS).Nodup
  mm : ∀ z, S z = true ↔ z ∈ xs.toList.map keyS
  bb : xs.size < scanBound
  ff : tb.fits xs.size = true
  nn : xs.size = n
  rr : Ris tb.place.toList
  ll : w.params.followText "set-order" = true ∨ tb.led = true
def SetS (w : World) (h : Heap) (a : Addr) (S : Str → Bool) (n : Nat) : Prop := ∃ (ob : Obj) (xs : Array (Int × Value)) (ep : Nat) (tb : SetTable), h.get? a = some ob ∧ ob.ExactSet ∧ ob.data = .set xs ep tb ∧ TabS w xs tb S n
section
variable {P : Program} {w : World} {h h' : Heap} {a : Addr} {S S' : Str → Bool} {n : Nat} {xs : Array (Int × Value)} {tb : SetTable}
theorem SetS.at (R : SetS w h a S n) (k : ∀ o, h.get? a = some o → h'.get? a = some o) : SetS w h' a S n := by
  obtain ⟨ob, xs, ep, tb, e, q⟩ := R
  exact ⟨ob, xs, ep, tb, k ob e, q⟩
theorem SetS.cg (R : SetS w h a S n) (e : ∀ k, S' k = S k) : SetS w h a S' n := by
  have : S' = S := funext e
  subst this
  exact R
theorem TabS.el (T : TabS w xs tb S n) : ElemsOf (strKind P w) xs.toList := fun e he => by
  obtain ⟨x, tk, e1, e2⟩ := T.gd e he
  exact ⟨⟨x, by rw [e1]; show (x == x) = true; exact beq_self_eq_true x, e2⟩, by rw [e1]; rfl⟩
theorem TabS.is (T : TabS w xs tb S n) {e : Int × Value} (he : e ∈ xs.toList) (z : Str) : (strKind P w).is z e.2 = true ↔ keyS e = z := by
  obtain ⟨x, tk, e1, _⟩ := T.gd e he
  unfold keyS
  rw [e1]
  show (x == z) = true ↔ x = z
  exact beq_iff_eq
end
section
variable {P : Program} {w : World} {A : Around} {E : Value → Shared → Prop} {s : Shared} {a : Addr} {S : Str → Bool} {n : Nat}
theorem setS_store {g : Bool → Sem Unit} (hg : ∀ (b : Bool) (s1 : Shared) (Q1 : Unit → Shared → Prop), Q1 () s1 → wpAny (model P w) A (g b) Q1 E s1)
    {ob : Obj} {xs ys : Array (Int × Value)} {ep : Nat} {tb tc : SetTable} {T : Str → Bool} {m : Nat} (hob : s.heap.get? a = some ob) (hx : ob.ExactSet) (hdt : ob.data = .set xs ep tb) (U : TabS w ys tc T m) {dum : Bool} {R : Option Bool → Shared → Prop}
    (hR : ∀ h1, Heap.SameBut a s.heap h1 → SetS w h1 a T m → R (some true) { s with heap := h1 }) :
    wpAny (model P w) A (do
        storeSet a ys tc
        if (!dum && tc.tooFull) = true then do
            g (relayAll tc ys (SetTable.grown ys.size)).2.2
            storeSet a (relayAll tc ys (SetTable.grown ys.size)).1 (relayAll tc ys (SetTable.grown ys.size)).2.1
            pure (some true)
          else pure (some true)) R E s := by
  refine wpAny_bind (wpAny_storeSet_of hob hdt ?_ (fits_of_scanBound U.bb))
  have q1 := store_at (es' := ys) (t' := tc) hob hdt
  have sb := Heap.SameBut.update s.heap a (Obj.putSet ys tc)
  split
  · have pm := relayAll_perm tc ys (SetTable.grown ys.size); have f3 := relayAll_fits tc ys (SetTable.grown ys.size)
    have r3 := relayAll_ris tc ys (SetTable.grown ys.size); have l3 := relayAll_led tc ys (SetTable.grown ys.size)
    generalize relayAll tc ys (SetTable.grown ys.size) = Z at pm f3 r3 l3 ⊢
    obtain ⟨zs, td, gv⟩ := Z
    dsimp only at pm f3 r3 l3 ⊢
    have hz : zs.size = ys.size := by rw [← Array.length_toList, pm.length_eq, Array.length_toList]
    have bz : zs.size < scanBound := by rw [hz]; exact U.bb
    refine wpAny_bind (hg _ _ _ (wpAny_bind (wpAny_storeSet_of q1 rfl ?_ (fits_of_scanBound bz))))
    have q2 := store_at (es' := zs) (t' := td) q1 rfl
    refine wpAny_pure (hR _ (sb.trans (Heap.SameBut.update _ a _)) ⟨_, zs, _, td, q2, hx, rfl, ?_⟩)
    exact ⟨fun e he => U.gd e (pm.mem_iff.mp he), (pm.map keyS).nodup_iff.mpr U.nd, fun z => (U.mm z).trans (pm.map keyS).mem_iff.symm, bz, f3, hz.trans U.nn, r3, U.ll.imp id fun z => by rw [l3]; exact z⟩
  · exact wpAny_pure (hR _ sb ⟨_, ys, _, tc, q1, hx, rfl, U⟩)
theorem setS_add {x : Str} {tk : Tok} {Q : Bool → Shared → Prop} (R : SetS w s.heap a S n) (room : n + 1 < scanBound)
    (hQ : ∀ h1, Heap.SameBut a s.heap h1 → SetS w h1 a (fun z => S z || decide (z = x)) (if S x = true then n else n + 1) → Q (!S x) { s with heap := h1 }) :
    wpAny (model P w) A (setAddHashed a (.str x tk) ((strKind P w).hash x)) Q E s := by
  obtain ⟨ob, xs, ep, tb, hob, hx, hdt, T⟩ := R
  have key : (strKind P w).is x (.str x tk) = true := by show (x == x) = true; exact beq_self_eq_true x
  have scn : (Value.str x tk).scannable = true := rfl
  have els : ElemsOf (strKind P w) xs.toList := T.el
  unfold setAddHashed; unfold setAddHashedIn
  refine wpAny_holding (wpAny_bind (wpAny_setState_of hob hdt T.ff ?_)); dsimp only
  rw [byScan_of scn T.bb els]; simp only [↓reduceIte]; unfold setAddByScan
  refine wpAny_bind (wpAny_bind (wpAny_rule (wpAny_bind (wpAny_setScan_of key hob hdt T.ff els ?_))))
  cases hfi : List.findIdx? (fun e => (strKind P w).is x e.2) xs.toList with
  | some j =>
    dsimp only
    obtain ⟨hj, pj, _⟩ := List.findIdx?_eq_some_iff_getElem.mp hfi
    have hm : xs.toList[j] ∈ xs.toList := List.getElem_mem hj
    have yes : S x = true := (T.mm x).2 (List.mem_map.mpr ⟨_, hm, (T.is (P := P) hm x).mp pj⟩)
    refine wpAny_pure (wpAny_pure ?_)
    have q := hQ s.heap (Heap.SameBut.refl a s.heap)
    rw [yes, if_pos rfl] at q
    refine q ⟨ob, xs, ep, tb, hob, hx, hdt, ⟨T.gd, T.nd, fun z => ?_, T.bb, T.ff, T.nn, T.rr, T.ll⟩⟩
    rw [Bool.or_eq_true, decide_eq_true_eq, ← T.mm z]
    exact ⟨fun w => w.elim id fun e => by rw [e]; exact yes, .inl⟩
  | none =>
    dsimp only
    have fresh : x ∉ xs.toList.map keyS := fun z => by
      obtain ⟨e, he, q⟩ := List.mem_map.mp z
      have c := List.findIdx?_eq_none_iff.mp hfi e he
      rw [(T.is (P := P) he x).mpr q] at c
      cases c
    have no : S x = false := by
      cases q : S x with
      | false => rfl
      | true => exact absurd ((T.mm x).1 q) fresh
    have gw : ∀ (b : Bool) {s1 : Shared} {Q1 : Unit → Shared → Prop}, Q1 () s1 → wpAny (model P w) A (match b with | true => rule "set.scan.the-table-gave-way" | false => pure ()) Q1 E s1 :=
      fun b s1 Q1 q => by cases b <;> first | exact wpAny_pure q | exact wpAny_rule q
    have pm := layNew_perm tb xs ((strKind P w).hash x) (.str x tk); have f1 := layNew_fits tb xs ((strKind P w).hash x) (.str x tk)
    have r1 := layNew_ris tb xs ((strKind P w).hash x) (.str x tk) T.rr; have l1 := layNew_led tb xs ((strKind P w).hash x) (.str x tk)
    generalize layNew tb xs ((strKind P w).hash x) (.str x tk) = Z at pm f1 r1 l1 ⊢
    obtain ⟨ys, tc, dum, gv⟩ := Z
    dsimp only at pm f1 r1 l1 ⊢
    rw [Array.toList_push] at pm
    have pc : ys.toList.Perm (((strKind P w).hash x, Value.str x tk) :: xs.toList) := pm.trans (List.perm_append_singleton _ _)
    have pk : (ys.toList.map keyS).Perm (x :: xs.toList.map keyS) := pc.map keyS
    have hz : ys.size = n + 1 := by rw [← Array.length_toList, pc.length_eq, List.length_cons, Array.length_toList, T.nn]
    have mk : ∀ td : SetTable, td.fits ys.size = true → Ris td.place.toList → (w.params.followText "set-order" = true ∨ td.led = true) → TabS w ys td (fun z => S z || decide (z = x)) (n + 1) := fun td a1 a2 a3 => by
      refine ⟨fun e he => ?_, pk.nodup_iff.mpr (List.nodup_cons.mpr ⟨fresh, T.nd⟩), fun z => ?_, by rw [hz]; exact room, a1, hz, a2, a3⟩
      · rcases List.mem_cons.mp (pc.mem_iff.mp he) with z | z
        · rw [z]
          exact ⟨x, tk, rfl, rfl⟩
        · exact T.gd e z
      · rw [Bool.or_eq_true, decide_eq_true_eq, T.mm z, pk.mem_iff, List.mem_cons]
        exact Or.comm
    have led : w.params.followText "set-order" = true ∨ tc.led = true := T.ll.imp id fun z => by rw [l1]; exact z
    have fin : ∀ h1, Heap.SameBut a s.heap h1 → SetS w h1 a (fun z => S z || decide (z = x)) (n + 1) → Q true { s with heap := h1 } := fun h1 sb r => by
      have q := hQ h1 sb
      rw [no, if_neg Bool.false_ne_true] at q
      exact q r
    refine wpAny_bind (gw _ ?_)
    split
    · refine wpAny_bind ?_
      rw [hashByValue_scannable 8 scn]
      refine wpAny_pure (setS_store ?_ hob hx hdt (mk _ ?_ ?_ ?_) ?_)
      · intro b s1 Q1 q; cases b <;> first | exact wpAny_pure q | exact wpAny_rule q
      · first | (split <;> first | exact f1 | exact SetTable.fits_plain_off f1) | exact f1
      · first | (split <;> exact r1) | exact r1
      · first | (split <;> exact led) | exact led
      · intro h1 sb r; dsimp only; exact wpAny_pure (fin h1 sb r)
    · refine wpAny_bind (wpAny_pure ?_)
      simp only [↓reduceIte]
      refine setS_store ?_ hob hx hdt (mk tc f1 r1 led) ?_
      · intro b s1 Q1 q; cases b <;> first | exact wpAny_pure q | exact wpAny_rule q
      · intro h1 sb r; dsimp only; exact wpAny_pure (fin h1 sb r)
end
end Ln


set_option Elab.async false
set_option linter.all false
set_option maxRecDepth 100000
set_option maxHeartbeats 4000000
namespace Ln
open PySem PySem.Spec PyProof.Rows L2
def UpS (w : World) (h : Heap) (a : Addr) (ns : List Str) (i : Nat) : Prop := ∃ m, SetS w h a (fun k => decide (k ∈ ns.take i)) m ∧ m ≤ i
theorem upS_step {w : World} {h' : Heap} {a : Addr} {ns : List Str} {i m : Nat} {k : Str} (hk : ns[i]? = some k) (hm : m ≤ i)
    (hs : SetS w h' a (fun j => decide (j ∈ ns.take i) || decide (j = k)) (if decide (k ∈ ns.take i) = true then m else m + 1)) : UpS w h' a ns (i + 1) := by
  refine ⟨_, hs.cg fun j => ?_, ?_⟩
  · rw [List.take_add_one, hk]
    show decide (j ∈ ns.take i ++ [k]) = _
    by_cases h1 : j ∈ ns.take i <;> by_cases h2 : j = k <;> simp [h1, h2]
  · split <;> omega
section
variable {P : Program} {w : World} {A : Around} {R : Result → Shared → Prop} {it : Addr} {fp wr : List Addr} {G : Array GenState → Array GenState → Prop} {n : Nat} {Pv : Nat → Value → Prop} {St : Nat → Shared → Prop}
theorem loop_txts (W : WalksS P w A.in1 it fp wr G n Pv St) (S : Addr) (hSf : S ∉ fp) (ns : List Str) (hval : ∀ (i : Nat) (v : Value), Pv i v → ∃ (k : Str) (tk : Tok), ns[i]? = some k ∧ v = .str k tk) (hb : n + 1 < scanBound) :
    ∀ (d i : Nat) (s : Shared), n - i = d → i ≤ n → St i s → UpS w s.heap S ns i →
      (∀ s', Moved (S :: wr) G s s' → UpS w s'.heap S ns n → R (.ok (.ret .none)) s') →
      codeAny (model P w) A (.builtin "set.update.loop" ⟨[.ref S, .ref it], []⟩) R s := by
  have nwr : S ∉ wr := fun z => hSf (W.sub _ z)
  have more : ∀ b ∈ wr, b ∈ S :: wr := fun b z => List.mem_cons_of_mem S z
  intro d
  induction d with
  | zero =>
    intro i s hd hi st ⟨m, hS, hm⟩ hR
    obtain rfl : i = n := by omega
    refine codeAny_builtin PyProof.Rows.F.entry_set_update_loop ?_
    rw [Around.under_plainId (PyProof.Rows.F.plain_set_update_loop) _]
    show wpAny (model P w) A.in1 (pyNext (.ref it) >>= _) _ _ s
    refine wpAny_bind (W.done s _ _ st fun s1 hmv => ?_)
    exact wpAny_pure (hR s1 (hmv.mono more) ⟨m, hS.at fun o e => hmv.heap S o nwr e, hm⟩)
  | succ d ih =>
    intro i s hd hi st ⟨m, hS, hm⟩ hR
    have hlt : i < n := by omega
    refine codeAny_builtin PyProof.Rows.F.entry_set_update_loop ?_
    rw [Around.under_plainId (PyProof.Rows.F.plain_set_update_loop) _]
    show wpAny (model P w) A.in1 (pyNext (.ref it) >>= _) _ _ s
    refine wpAny_bind (W.item i s _ _ hlt st fun v s1 hv st1 hmv => ?_)
    obtain ⟨k, tk, hk, rfl⟩ := hval i v hv
    have hS1 := hS.at fun o e => hmv.heap S o nwr e
    show wpAny (model P w) A.in1 (holding [.str k tk] (setAdd S (.str k tk)) >>= _) _ _ s1
    refine wpAny_bind (wpAny_holding ?_)
    unfold setAdd
    refine wpAny_holding (wpAny_bind ((strKind P w).pyHash (k := k) (show (k == k) = true from beq_self_eq_true k) ?_))
    refine setS_add (s := { s1 with toks := s1.toks + 1 }) hS1 (by omega) fun h2 sb hS2 => ?_
    refine wpAny_pure ⟨plainId_quiet (PyProof.Rows.F.plain_set_update_loop) _, ih (i + 1) _ (by omega) hlt (W.frame _ s1 _ _ st1 (Nat.le_succ _) fun b hbf o e => ?_) (upS_step hk hm hS2) fun s3 hm3 hS3 => ?_⟩
    · exact (sb.2 b fun z => hSf (z ▸ hbf)).trans e
    · refine hR s3 (Moved.trans W.gtrans ((hmv.mono more).then_heap (Nat.le_succ _) fun b o hbw e => ?_) hm3) hS3
      exact (sb.2 b fun z => hbw (by rw [z]; exact List.mem_cons_self)).trans e
end
theorem setS_fresh {h : Heap} (w : World) : SetS w (h.push (sObjL w)) h.objs.size (fun _ => false) 0 :=
  ⟨_, #[], 0, _, Heap.get?_push_size _ rfl, ⟨rfl, rfl, rfl⟩, rfl, ⟨fun e he => by simp at he, by simp, fun k => by simp, by decide, by rfl, rfl, List.Pairwise.nil, by
    show _ ∨ (!w.params.followText "set-order") = true
    cases w.params.followText "set-order" with
    | false => exact .inr rfl
    | true => exact .inl rfl⟩⟩
section
variable {P : Program} {w : World} {A : Around} {E : Value → Shared → Prop} {s : Shared}
theorem call_set_txts {l : Addr} {items : Array Value} {ns : List Str} {Q : Value → Shared → Prop}
    (hh : A.handled = none) (hl : s.heap.IsList l items) (hi : ∀ (i : Nat) (v : Value), items[i]? = some v → ∃ (k : Str) (tk : Tok), ns[i]? = some k ∧ v = .str k tk) (hb : items.size + 1 < scanBound)
    (h : ∀ (h' : Heap) (tk : Nat), UpS w h' s.heap.objs.size ns items.size → (∀ b o, b < s.heap.objs.size → s.heap.get? b = some o → h'.get? b = some o) → Q (.ref s.heap.objs.size) { s with heap := h', toks := tk }) :
    wpAny (model P w) A (call (.type "set") [.ref l]) Q E s := by
  obtain ⟨mro1, mro2, hmro⟩ := PySem.F.called_set.mro
  have made := PySem.F.called_set.made
  have subs := PySem.F.called_set.sub
  refine wpAny_call (codeAny_of_tree ?_)
  show wpAny (model P w) _ (callAny (.type "set") _) _ _ _
  refine wpAny_pure ⟨Code.quiet_builtin _ (by decide +kernel), codeAny_builtin (PySem.F.entry_type_call) ?_⟩
  rw [Around.under_plain (weight_type_call_type "set" [Value.ref l] []) rfl]
  have notT := PySem.F.called_set.notType
  have canC := PySem.F.called_set.canCreate
  have chk := PySem.F.typeCall_set_1 (Value.ref l)
  repeat (any_goals (first | assumption | wp_step))
  refine codeAny_mono (code_set_led1 (.ref l) (E := E) (Q₁ := fun ob s1 => ob = .ref s.heap.objs.size ∧ s1 = { s with heap := s.heap.push (sObjL w) }) ⟨rfl, rfl⟩) fun r s1 hr => ?_
  match r, hr with
  | .error e, hr => exact hr
  | .ok .next, hr => exact hr.elim
  | .ok .brk, hr => exact hr.elim
  | .ok .cont, hr => exact hr.elim
  | .ok (.ret ob), hr =>
    obtain ⟨rfl, rfl⟩ := hr
    have hS : (s.heap.push (sObjL w)).get? s.heap.objs.size = some (sObjL w) := Heap.get?_push_size _ rfl
    have tyS : Shared.TypeIs { s with heap := s.heap.push (sObjL w) } (.ref s.heap.objs.size) "set" := ⟨_, hS, rfl⟩
    have lkI := PySem.F.called_set.init.lookup
    have bdI := PySem.F.called_set.init.bind (.ref s.heap.objs.size)
    repeat (any_goals (first | assumption | wp_step))
    refine codeAny_mono (codeAny_call_builtin (R := wants (fun r s2 => r = .none ∧ ∃ h' tk, s2 = { s with heap := h', toks := tk } ∧ UpS w h' s.heap.objs.size ns items.size ∧ (∀ b o, b < s.heap.objs.size → s.heap.get? b = some o → h'.get? b = some o)) E)
      (PySem.F.called_set.init.plain) (PySem.F.entry_set_init) (check_set_init_1 tyS ?_)) fun r2 s2 hr2 => ?_
    · obtain ⟨ob, hob, hcl, nl, hdl⟩ := hl
      obtain ⟨oc, od, oda, osl⟩ := ob
      simp only at hcl hdl
      subst hcl
      subst hdl
      have hob1 : (s.heap.push (sObjL w)).get? l = some { cls := .type "list", dict := od, data := .seq items nl, slots := osl } := Heap.get?_push_of_some _ hob
      have n1 := PySem.F.sub_list_set
      have n2 := PySem.F.sub_list_frozenset
      have n3 : (Value.type "list" == Value.type "dict") = false := by decide
      have tup1 : (s.heap.push (sObjL w)).IsList l items := ⟨_, hob1, rfl, nl, rfl⟩
      unfold Builtin.«set.__init__» noKeywords Builtin.Frozenset.updateFrom
      generalize hPI : pyIter = PI
      wp_walk
      subst hPI
      refine wpAny_pyIter_list tup1 (wpAny_bind (wpAny_runValue ?_))
      have lS : l < s.heap.objs.size := Heap.lt_size hob
      have hne : l ≠ (s.heap.push (sObjL w)).objs.size := by
        rw [Heap.size_push]
        exact Nat.ne_of_lt (Nat.lt_succ_of_lt lS)
      have nS : s.heap.objs.size ∉ [(s.heap.push (sObjL w)).objs.size, l] := by
        rw [Heap.size_push]
        intro z
        rcases List.mem_cons.mp z with z | z
        · exact absurd z (Nat.ne_of_lt (Nat.lt_succ_self _))
        · exact absurd (List.mem_singleton.mp z) (Nat.ne_of_gt lS)
      refine loop_txts ((Walks.list (show A.in1.in1.in1.handled = none by simp [hh]) _ l hne items).toS) s.heap.objs.size nS ns hi hb (items.size - 0) 0 _ (by omega) (Nat.zero_le _) ⟨⟨_, Heap.get?_push_size _ rfl, rfl, rfl⟩, tup1.push _⟩ ?hS0 ?hR
      case hS0 =>
        refine ⟨0, ?_, Nat.le_refl _⟩
        have e0 := (setS_fresh (h := s.heap) w).at (h' := (s.heap.push (sObjL w)).push { cls := .type "list_iterator", data := .fields #[.ref l, .int 0 0] }) fun o e => Heap.get?_push_of_some _ e
        exact e0.cg fun k => by simp
      case hR =>
        intro s3 hmv hS3
        obtain ⟨h3, g3, d3, t3, o3⟩ := s3
        have eg : g3 = s.gens := hmv.gens
        have ed : d3 = s.drawn := hmv.drawn
        have eo : o3 = s.os := hmv.os
        subst eg ed eo
        show wpAny (model P w) _ _ _ _ _
        refine wpAny_pure ?_
        show wpAny (model P w) _ (ret Value.none) _ _ _
        refine wpAny_pure ⟨rfl, h3, t3, rfl, hS3, fun b o hb2 e => ?_⟩
        refine hmv.heap b o (fun z => ?_) (Heap.get?_push_of_some _ (Heap.get?_push_of_some _ e))
        rcases List.mem_cons.mp z with z | z
        · exact Nat.ne_of_lt hb2 z
        · have z := List.mem_singleton.mp z
          rw [Heap.size_push] at z
          exact Nat.ne_of_lt (Nat.lt_succ_of_lt hb2) z
    · match r2, hr2 with
      | .error e, hr2 => exact hr2
      | .ok .next, hr2 => exact hr2.elim
      | .ok .brk, hr2 => exact hr2.elim
      | .ok .cont, hr2 => exact hr2.elim
      | .ok (.ret r), hr2 =>
        obtain ⟨rfl, h3, t3, rfl, hS3, hk3⟩ := hr2
        repeat (any_goals (first | assumption | wp_step))
        exact h _ _ hS3 hk3
end

section
variable {P : Program} {w : World} {A : Around} {E : Value → Shared → Prop} {s : Shared} {a : Addr} {S : Str → Bool} {n : Nat}
theorem sorted_setS {Q : Value → Shared → Prop} (R : SetS w s.heap a S n) (hh : A.handled = none) (few : n ≤ 1000)
    (hQ : ∀ (s1 : Shared) (p : Addr) (out : Array Value) (c : Nat) (ys : List Str), (∀ b o, s.heap.get? b = some o → s1.heap.get? b = some o) → s1.gens = s.gens → s1.os = s.os → s.heap.objs.size ≤ p →
      s1.heap.get? p = some (seqObj "list" out c) → StrsAre out.toList ys → upS ys → ys.Nodup → (∀ z, z ∈ ys ↔ S z = true) → ys.length = n → Q (.ref p) s1) :
    wpAny (model P w) A (call (.builtin "sorted") [.ref a]) Q E s := by
  obtain ⟨ob, xs, ep, tb, hob, hx, hdt, T⟩ := R
  refine Calls.call_function_entry kind_sorted plain_sorted entry_sorted (args_sorted1 _) ?_; unfold Builtin.«sorted»
  refine wpAny_bind (m := checkCount "sorted" 1 1 _) (wpAny_pure (wpAny_bind (collect_set (A := A.in1) hh ⟨ob, hob, hx.1, hdt⟩ T.ff T.bb T.rr T.ll fun s1 vs k1 hz g1 o1 pm => ?_)))
  have vl : vs.length = n := by rw [pm.length_eq, List.length_map, Array.length_toList]; exact T.nn
  have hv : ∀ v ∈ vs, ∃ x t, v = Value.str x t := fun v hv => by
    obtain ⟨e, he, q⟩ := List.mem_map.mp (pm.mem_iff.mp hv)
    obtain ⟨x, tk, e1, _⟩ := T.gd e he
    exact ⟨x, tk, by rw [← q]; exact e1⟩
  have hI : StrsAre vs (vs.map txtOf) := strs_txt hv
  have pk : (vs.map txtOf).Perm (xs.toList.map keyS) := by
    have q := pm.map txtOf
    rw [List.map_map] at q
    exact q
  refine wpAny_bind (wpAny_newList ?_ (by rw [vl, sizeLine_eq]; omega))
  have at1 : (s1.heap.push (seqObj "list" vs.toArray 0)).get? s1.heap.objs.size = some (seqObj "list" vs.toArray 0) := Heap.get?_push_size _ rfl
  refine wpAny_bind (wpAny_holding (wpAny_call_entry slot_list_sort ⟨_, at1, rfl⟩ entry_list_sort (SrtO.list_sort_ord swo_txt at1 (by rw [vl, sizeLine_eq]; omega) (fun h2 => strs_sortable hI h2) fun out h1 h2 => ⟨_, rfl, ?_⟩) (args_list_sort _)))
  obtain ⟨c, hc⟩ := sortedHeap_at (vs := vs) (out := out.toArray) at1
  have k2 : (out.map txtOf).Perm (xs.toList.map keyS) := (h2.perm.map txtOf).trans pk
  have k4 : StrsAre out (out.map txtOf) := strs_txt fun v q => hv v (h2.perm.mem_iff.mp q)
  refine wpAny_pure ⟨_, rfl, hQ _ s1.heap.objs.size out.toArray c (out.map txtOf) (fun b u e => ?_) g1 o1 hz hc (by simpa using k4) (List.pairwise_map.mpr (h1.imp fun {x y} h => of_decide_eq_false h)) (k2.nodup_iff.mpr T.nd) (fun z => by rw [k2.mem_iff, ← T.mm z]) ?_⟩
  · have q := k1 b u e
    have lt := Heap.lt_size q
    show (sortedHeap (s1.heap.push (seqObj "list" vs.toArray 0)) s1.heap.objs.size vs out.toArray).get? b = some u
    rw [sortedHeap_old (Nat.ne_of_lt lt) (by rw [size_push']; exact Nat.lt_succ_of_lt lt)]; exact Heap.get?_push_of_some _ q
  · rw [k2.length_eq, List.length_map, Array.length_toList]; exact T.nn
end
/-- the set of texts at a -/
def SetSO (w : World) (a : Addr) (S : Str → Bool) (n : Nat) : HO := .ext fun h => SetS w h a S n
/-- set(xs), xs a list of texts -/
def rSetS (K : PySem.W.Frag) (w : World) : List V → Hp → VK → Prop := fun xs H Q => ∃ (l : Addr) (ns : List Str), xs = [V.ref l] ∧ SqL K H l (ns.map V.str) ∧ ns.length ≤ 1000 ∧ ∀ (a : Addr) (n : Nat), n ≤ ns.length → H a = none → Q (.ref a) (upd H a (SetSO w a (fun k => decide (k ∈ ns)) n))
def rSortedSS (w : World) : List V → Hp → VK → Prop := fun vs H Q => ∃ (a : Addr) (S : Str → Bool) (n : Nat), vs = [V.ref a] ∧ H a = some (SetSO w a S n) ∧ n ≤ 1000 ∧
  ∀ (ys : List Str) (p : Addr), upS ys → ys.Nodup → (∀ z, z ∈ ys ↔ S z = true) → ys.length = n → H p = none → Q (.ref p) (upd H p (.lst (ys.map V.str)))
section
variable {X : Cx}
theorem setSO_new {w : World} {P : Program} {H : Hp} {h : Heap} {a : Addr} {S : Str → Bool} {n : Nat} (R : SetS w h a S n) : ObjOk P w H h a (SetSO w a S n) := by
  obtain ⟨o, xs, ep, tb, ho, q⟩ := R
  exact ⟨⟨o, xs, ep, tb, ho, q⟩, ⟨o, ho⟩, fun h1 h2 p k => SetS.at p k⟩
theorem cr_setS (hc : X.calm = true) : CallR X (.type "set") (rSetS X.K X.w) := by
  intro pins s σ H xs us Q I r h
  obtain ⟨l, ns, rfl, hl, few, q⟩ := h
  rw [Vals.ref1 r]
  obtain ⟨its, rv, pl, hz⟩ := I.list hl
  have hn : H s.heap.objs.size = none := I.hok.fresh (Nat.le_refl _)
  have hsz : its.toArray.size = ns.length := by rw [List.size_toArray, ← rv.length, List.length_map]
  refine call_set_txts (P := X.prog) (w := X.w) (ns := ns) (I.ok.hd hc) pl.isList (fun i v hv => ?_) (by rw [hsz]; unfold scanBound; omega) fun h' tk R k => ?_
  · have hv : its[i]? = some v := by simpa using hv
    have hlt := (List.getElem?_eq_some_iff.mp hv).1
    have hlt2 : i < ns.length := by rw [← hsz]; simpa using hlt
    obtain ⟨u, hu, ru⟩ := rv.get (i := i) (x := .str ns[i]) (by rw [List.getElem?_map, List.getElem?_eq_getElem hlt2]; rfl)
    rw [hv] at hu
    cases hu
    obtain ⟨tk, rfl⟩ := ru
    exact ⟨ns[i], tk, List.getElem?_eq_getElem hlt2, rfl⟩
  · obtain ⟨m, R, hm⟩ := R
    rw [hsz, List.take_length] at R
    exact ⟨.ref s.heap.objs.size, _, I.laid (t' := tk) (fun b o e => k b o (Heap.lt_size e) e) (Nat.le_refl _) (setSO_new R), rfl, q _ m (by omega) hn⟩
theorem cr_sortedSS (hc : X.calm = true) : CallR X (.builtin "sorted") (rSortedSS X.w) := by
  intro pins s σ H vs us Q I r h
  obtain ⟨a, S, n, rfl, ha, few, q⟩ := h
  have R : SetS X.w s.heap a S n := (I.hok a _ ha).1
  rw [Vals.ref1 r]
  refine sorted_setS R (I.ok.hd hc) few fun s' p out c ys k g o hp hg hi hs hd hm hl => ?_
  have hlen : (ys.map V.str).length ≤ sizeLine := by rw [List.length_map, hl, sizeLine_eq]; omega
  have hn : H p = none := I.hok.fresh hp
  have J : Inv X pins σ (upd H p (.lst (ys.map V.str))) { s with heap := s'.heap, gens := s'.gens, drawn := s'.drawn, toks := s'.toks } :=
    I.call (ch := []) (Un.laid k hp hn) (I.hok.laid k hp ⟨hlen, out.toList, c, vals_of_strs hi, hg⟩) (by rw [g]; exact I.bare) (fun _ z => nomatch z)
  have e : s' = { s with heap := s'.heap, gens := s'.gens, drawn := s'.drawn, toks := s'.toks } := by
    cases s'; cases s; cases o; rfl
  rw [e]
  exact ⟨.ref p, _, J, rfl, q ys p hs hd hm hl hn⟩
end
end Ln


set_option Elab.async false
set_option linter.all false
set_option maxRecDepth 100000
set_option maxHeartbeats 4000000
namespace Ln
open PySem PySem.Spec PyProof.Rows L2 GxR
theorem scCounts : FnScope ["initial", "entries", "found", "entry"] ["initial", "entries"] (defScope sCounts) := ⟨rfl, rfl, rfl, by decide +kernel, rfl, by decide +kernel, by decide +kernel⟩
section
variable {P : Program} {w : World} {K : PySem.W.Frag} {mg : Str → Option Value} {base : Heap} {Ps : List Addr}
def spCounts (K : PySem.W.Frag) : Sp := fun vs H Q _ => ∃ (a l : Addr) (xs : List Str) (as : List Addr) (es : List Ev), vs = [.ref a, .ref l] ∧ TupD H a (xs.map V.str) ∧ H l = some (.lst (as.map V.ref)) ∧ EvT H as es ∧ es.length ≤ 400 ∧
  ∀ (H' : Hp) (p : Addr), L2.Same H H' → H p = none → H' p = some (.lst ((szs xs.length es).map V.int)) → Q (.ref p) H'
theorem ok_counts {f : Addr} {fd : FuncData} (F : Fun K "_law_counts" "_law_counts" sCounts f fd) (B : Bi mg) : FnOk P w K mg base CX0 1 f fd ["initial", "entries"] (spCounts K) := by
  refine F.ok scCounts (fun vs H Q E h => ?_) (fun cdv A outer s H vs Q E hr h => ?_)
  · obtain ⟨a, l, xs, as, es, rfl, _⟩ := h
    rfl
  · obtain ⟨a, l, xs, as, es, rfl, hA, hL, hE, few, q⟩ := h
    refine ⟨_, pss_cons (ps_set (i := 2) scCounts.nd rfl (.inl rfl) (pe_lst (pa_cons (pe_callB call_len_seq (by rfl) B.len PySem.boot_len (pa_cons (pv 0) pa_nil)) pa_nil)))
      (pss_cons (ps_for PassesOwn.never rfl (pi_list (pv 1)) (pg_name (i := 3) scCounts.nd rfl (.inl rfl))
        (pss_one (ps_expr (pe_bm PySem.F.plainAttrs_list PySem.F.slot_list_append PySem.F.type_list_append mt_append (pv 2) (pa_cons (pe_op op_add (pe_ix ix_list (pv 2) (pe_un un_neg pe_int) (fun _ _ => rfl)) (pe_ifExp (pt_cmpR op_eq (pe_ix ix_tup (pv 3) pe_int (fun _ _ => rfl)) pe_str (nomark _)) pe_int (pe_un un_neg pe_int))) pa_nil)))))
      (pss_one (ps_ret (pv 2)))), ?_⟩
    refine ⟨.ref a, rfl, a, _, rfl, .inr hA.sq, by show 1 ≤ sizeLine; decide, fun o ho => ?_⟩
    have sm2 : L2.Same H (L2.upd H o (.lst [V.int ((xs.map V.str).length : Nat)])) := sm_new sm_refl ho
    have hlen := Paired.length hE
    refine ⟨.ref l, rfl, l, rfl, ⟨_, SqL.of (sm2 _ _ hL)⟩, for_list (K := K) (a := l) (xs := as.map V.ref) (fun i σ H' => ∃ v3 : Option V, σ = [some (.ref a), some (.ref l), some (.ref o), v3] ∧ L2.Same H H' ∧ i ≤ es.length ∧ H' o = some (.lst (((szs xs.length es).take (i + 1)).map V.int))) ?_ ?_ ?_ ?_⟩
    · refine ⟨none, rfl, sm2, Nat.zero_le _, ?_⟩
      rw [upd_same, List.take_add_one, szs_head, List.length_map]
      rfl
    · rintro i σ H' _ ⟨_, _, sm, _⟩
      exact SqL.of (sm _ _ hL)
    · rintro i y σ H' hi ⟨v3, rfl, sm, hie, ho'⟩
      have hlt : i < es.length := by
        have h1 := (List.getElem?_eq_some_iff.mp hi).1
        rw [List.length_map] at h1
        omega
      have hev : es[i]? = some es[i] := List.getElem?_eq_getElem hlt
      obtain ⟨b, hb, hbt0⟩ := pair_at hE i _ hev
      have hbt : SqT K H' b (es[i]).vals := SqT.of (sm _ _ hbt0)
      have hy : y = .ref b := by
        rw [List.getElem?_map, hb] at hi
        exact (Option.some.inj hi).symm
      subst hy
      have hz : i < (szs xs.length es).length := by rw [szs_len]; omega
      have hk : (szs xs.length es)[i]? = some (szs xs.length es)[i] := List.getElem?_eq_getElem hz
      have hlast : ((szs xs.length es).take (i + 1)).map V.int = ((szs xs.length es).take i).map V.int ++ [V.int (szs xs.length es)[i]] := by
        rw [List.take_add_one, hk, List.map_append]
        rfl
      have hstep := szs_step _ es i _ _ hev hk
      have fin : ∀ d : Int, d = (es[i]).dn → L2.upd H' o (.lst (((szs xs.length es).take (i + 1)).map V.int ++ [V.int ((szs xs.length es)[i] + d)])) o = some (.lst (((szs xs.length es).take (i + 1 + 1)).map V.int)) := fun d e => by
        rw [upd_same, List.take_add_one (i := i + 1), hstep, List.map_append, e]
        rfl
      have room : (((szs xs.length es).take (i + 1)).map V.int).length < sizeLine := by
        rw [List.length_map, List.length_take]
        exact Nat.lt_of_le_of_lt (Nat.min_le_left _ _) (small1000 (by omega))
      have lastAt : atI (((szs xs.length es).take (i + 1)).map V.int) (-1) = some (V.int (szs xs.length es)[i]) := by
        rw [hlast]
        exact atI_last _ _
      refine ⟨.ref o, rfl, .inl ⟨rfl, _, .inl (.inl ho')⟩, .ref o, rfl, 1, rfl, o, _, -1, _, rfl, rfl, .inl (.inl ho'), lastAt, ?_⟩
      cases hE2 : es[i] with
      | inn c =>
        rw [hE2] at hbt
        refine ⟨.ref b, rfl, b, _, 0, .str "in", rfl, rfl, hbt, atI_nat (j := 0) rfl, rfl, _, rfl, ?_⟩
        rw [decide_eq_true (rfl : V.str "in" = V.str "in")]
        refine iteT ⟨_, _, rfl, rfl, o, _, _, rfl, rfl, ho', room, ?_⟩
        exact ⟨_, rfl, sm_upd sm ho, hlt, fin 1 (by rw [hE2]; rfl)⟩
      | out =>
        rw [hE2] at hbt
        refine ⟨.ref b, rfl, b, _, 0, .str "out", rfl, rfl, hbt, atI_nat (j := 0) rfl, rfl, _, rfl, ?_⟩
        rw [decide_eq_false (fun z => ne_oi (V.str.inj z))]
        refine iteF ⟨1, rfl, _, _, rfl, rfl, o, _, _, rfl, rfl, ho', room, ?_⟩
        exact ⟨_, rfl, sm_upd sm ho, hlt, fin (-1) (by rw [hE2]; rfl)⟩
    · rintro σ H' ⟨v3, rfl, sm, hie, ho'⟩
      refine ⟨.ref o, rfl, q H' o sm ho ?_⟩
      rw [ho', List.length_map, hlen, List.take_of_length_le (by rw [szs_len]; exact Nat.le_refl _)]
end
end Ln


set_option Elab.async false
set_option linter.all false
set_option maxRecDepth 100000
set_option maxHeartbeats 8000000
namespace Ln
open PySem PySem.Spec PyProof.Rows L2 GxR
theorem scRea14 : FnScope ["initial", "entries", "line", "folk", "counts_here", "run", "low", "here", "inside", "there", "places", "k", "stay", "name"] ["initial", "entries", "line", "folk"] (defScope sReason) := ⟨rfl, rfl, rfl, by decide +kernel, rfl, by decide +kernel, by decide +kernel⟩
theorem sqT_same14 {K : PySem.W.Frag} {H H' : Hp} {a : Addr} {xs : List V} (h : SqT K H a xs) (k : L2.Same H H') : SqT K H' a xs := by
  rcases h with (e | ⟨ob, e⟩) | e
  · exact .inl (.inl (k _ _ e))
  · exact .inl (.inr ⟨ob, k _ _ e⟩)
  · exact .inr e
theorem filt_any (xs : List Str) (p : Str → Bool) (i : Nat) (c : Str) (h : xs[i]? = some c) : (xs.take (i + 1)).filter p = (xs.take i).filter p ++ if p c = true then [c] else [] := by
  rw [List.take_add_one, h, List.filter_append]
  show _ ++ [c].filter p = _
  cases hp : p c <;> simp [List.filter, hp]
theorem cutF {K : PySem.W.Frag} {H : Hp} {a : Addr} {xs : List Str} {c : Str} {n : Nat} {Q : VK} (hA : SqT K H a (xs.map V.str)) (q : ∀ H' z, L2.Same H H' → SqT K H' z ((from_ xs c n).map V.str) → Q (.ref z) H') : rSlA K (.ref a) (some ((xs.idxOf c : Nat) : Int)) (some (((xs.idxOf c : Nat) : Int) + ((n : Nat) : Int))) H Q := by
  have hle : xs.idxOf c ≤ xs.length := List.idxOf_le_length
  have e0 : ((xs.idxOf c : Nat) : Int) + ((n : Nat) : Int) = ((xs.idxOf c + n : Nat) : Int) := by omega
  have hcut : cutV (xs.map V.str) (some ((xs.idxOf c : Nat) : Int)) (some ((xs.idxOf c + n : Nat) : Int)) = (from_ xs c n).map V.str := by
    unfold cutV from_
    rw [HT.sIx_nat, HT.sIx_nat, List.length_map, Nat.min_eq_left hle, List.map_take, List.map_drop, List.take_eq_take_iff, List.length_drop, List.length_map]
    omega
  rw [e0]
  refine ⟨a, _, rfl, hA, fun hw => ?_, fun _ z hz => ?_⟩
  · refine q H a sm_refl ?_
    rw [HT.sIx_nat, HT.sIx_nat, List.length_map, Nat.min_eq_left hle] at hw
    have e : from_ xs c n = xs := by
      unfold from_
      rw [hw.1, List.drop_zero]
      exact List.take_of_length_le (by omega)
    rw [e]
    exact hA
  · rw [hcut]
    exact q _ z (sm_new sm_refl hz) (SqT.of upd_same)
section
variable {P : Program} {w : World} {K : PySem.W.Frag} {mg : Str → Option Value} {base : Heap} {Ps : List Addr}
def spRea14 (K : PySem.W.Frag) : Sp := fun vs H Q _ => ∃ (a l f k : Addr) (xs : List Str) (as : List Addr) (es : List Ev) (F : List Str), vs = [.ref a, .ref l, .ref f, .ref k] ∧ TupD H a (xs.map V.str) ∧ H l = some (.lst (as.map V.ref)) ∧ EvT H as es ∧ es.length ≤ 400 ∧ TupD H f (F.map V.str) ∧ H k = some (.lst ((xs ++ arrs es).map V.str)) ∧ xs.length ≤ 400 ∧ F.length ≤ 400 ∧ F.Nodup ∧ (xs ++ arrs es).Nodup ∧ (∀ x ∈ F, carB x = true) ∧ (∀ x ∈ xs ++ arrs es, carB x = true) ∧
  ∀ H' v, L2.Same H H' → WhyV H H' v (whyT (why xs es F)) → Q v H'
theorem ok_rea14 {f0 fC fS : Addr} {fd fdC fdS : FuncData} (F0 : Fun K "_law_reason" "_law_reason" sReason f0 fd) (B : Bi mg) (B2 : Bl mg)
    (GC : FnOk P w K mg base CX0 1 fC fdC ["initial", "entries"] (spCounts K)) (mgC : mg "_law_counts" = some (.ref fC)) (kC : PySem.W.keepIn K (.ref fC) = true) (bC : Binds K fdC ["initial", "entries"] [])
    (GS : FnOk P w K mg base CX0 1 fS fdS ["initial", "entries", "line", "counts_here"] (spSwC K)) (mgS : mg "_law_switch" = some (.ref fS)) (kS : PySem.W.keepIn K (.ref fS) = true) (bS : Binds K fdS ["initial", "entries", "line", "counts_here"] []) : FnOk P w K mg base CX0 2 f0 fd ["initial", "entries", "line", "folk"] (spRea14 K) := by
  refine F0.ok scRea14 (fun vs H Q E h => ?_) (fun cdv A outer s H vs Q E hr h => ?_)
  · obtain ⟨a, l, f, k, xs, as, es, F, rfl, _⟩ := h
    rfl
  · obtain ⟨a, l, f, k, xs, as, es, F, rfl, hA, hL, hE, few, hF, hK, fewx, fewF, hFn, hn, hcar, hcx, q⟩ := h
    have hu : A.units + 3 + 64 < cLine := hr.units
    have hlen := Paired.length hE
    have hxn := (List.nodup_append.mp hn).1
    refine ⟨_, (pss_cons (ps_set (i := 4) scRea14.nd rfl (.inl rfl) (pe_call GC hr (by rfl) mgC kC bC .nil pass0 (pa_cons (pv 0) (pa_cons (pv 1) pa_nil))))
      (pss_cons (ps_if (PW.pt (pw_or (pt_cmpR op_ne (pe_callB call_len_seq (by rfl) B.len PySem.boot_len (pa_cons (pv 2) pa_nil)) (pe_ix ix_list (pv 4) (pe_un un_neg pe_int) (fun _ _ => rfl)) (nomark _)) (pw_or1 (pt_cmpR (op_neD hu) (pe_lc (own := [("name", 13)]) (g := gName 13) (tt := (tTest (tOp (rIn K true) (tVar 13) (tVar 3)))) (te := (tVar 13)) (by rfl) scRea14.nd (pi_tup (pv 2)) (blkOk_by (own := [("name", 13)]) (N := ["initial", "entries", "line", "folk", "counts_here", "run", "low", "here", "inside", "there", "places", "k", "stay", "name"]) (sc := defScope sReason) (by decide +kernel)) (fun _ _ _ _ _ => (pg_name (i := 13) scRea14.nd rfl (Or.inl rfl))) (fun _ _ _ _ _ => pts_one (pt_cmpR op_notIn_seq (pv 13) (pv 3) (by rfl))) (fun _ _ _ _ _ => (pv 13))) (pe_lst pa_nil) (nomark _)))))
        (pss_one (ps_ret (pe_tup (pa_cons pe_str pa_nil))))
        pss_nil)
      (pss_cons (ps_setLc (i := 5) (own := [("name", 13)]) (g := gName 13) (tt := (tTest (tOp (rIn K false) (tVar 13) (tVar 0)))) (te := (tVar 13)) (by rfl) scRea14.nd rfl rfl (sw_true rfl rfl rfl (by decide +kernel)) (pi_tup (pv 2)) (blkOk_by (own := [("name", 13)]) (N := ["initial", "entries", "line", "folk", "counts_here", "run", "low", "here", "inside", "there", "places", "k", "stay", "name"]) (sc := defScope sReason) (by decide +kernel)) (fun _ _ _ _ _ => (pg_name (i := 13) scRea14.nd rfl (Or.inl rfl))) (fun _ _ _ _ _ => pts_one (pt_cmpR op_in_seq (pv 13) (pv 0) (by rfl))) (fun _ _ _ _ _ => (pv 13)))
      (pss_cons (ps_if (pt_cmpR (op_neD hu) (pv 5) (pe_lst pa_nil) (nomark _))
        (pss_cons (ps_par (i := 6) (j := 7) (by rfl) scRea14.nd rfl rfl (by decide) rfl rfl (pa_cons (pe_bmT PySem.F.plainAttrs_tuple PySem.F.slot_tuple_index PySem.F.type_tuple_index mt_tup_index (pv 0) (pa_cons (pe_ix ix_list (pv 5) pe_int (fun _ _ => rfl)) pa_nil)) (pa_cons (pe_bmT PySem.F.plainAttrs_tuple PySem.F.slot_tuple_index PySem.F.type_tuple_index mt_tup_index (pv 2) (pa_cons (pe_ix ix_list (pv 5) pe_int (fun _ _ => rfl)) pa_nil)) pa_nil)) (by rfl))
        (pss_cons (ps_set (i := 8) scRea14.nd rfl (.inl rfl) (pe_slice sl_tupA (pv 0) (po_some (pv 6)) (po_some (pe_op op_add (pv 6) (pe_callB call_len_seq (by rfl) B.len PySem.boot_len (pa_cons (pv 5) pa_nil))))))
        (pss_cons (ps_set (i := 9) scRea14.nd rfl (.inl rfl) (pe_slice sl_tupA (pv 2) (po_some (pv 7)) (po_some (pe_op op_add (pv 7) (pe_callB call_len_seq (by rfl) B.len PySem.boot_len (pa_cons (pv 5) pa_nil))))))
        (pss_one (ps_if (PW.pt (pw_or (pt_cmpR (op_neD hu) (pv 8) (pe_callTy call_tuple_ofD (by rfl) B.tup (by decide +kernel) (pa_cons (pv 5) pa_nil)) (nomark _)) (pw_or1 (pt_cmpR (op_neD hu) (pv 9) (pe_callTy call_tuple_ofD (by rfl) B.tup (by decide +kernel) (pa_cons (pv 5) pa_nil)) (nomark _)))))
          (pss_one (ps_ret (pe_tup (pa_cons pe_str pa_nil))))
          pss_nil)))))
        pss_nil)
      (pss_cons (ps_setLc (i := 10) (own := [("name", 13)]) (g := gName 13) (tt := tYes) (te := tBM K "list" (rIndex K) (tVar 3) (tCons (tVar 13) tNil)) (by rfl) scRea14.nd rfl rfl (sw_true rfl rfl rfl (by decide +kernel)) (pi_tup (pv 2)) (blkOk_by (own := [("name", 13)]) (N := ["initial", "entries", "line", "folk", "counts_here", "run", "low", "here", "inside", "there", "places", "k", "stay", "name"]) (sc := defScope sReason) (by decide +kernel)) (fun _ _ _ _ _ => (pg_name (i := 13) scRea14.nd rfl (Or.inl rfl))) (fun _ _ _ _ _ => pts_nil) (fun _ _ _ _ _ => (pe_bm PySem.F.plainAttrs_list PySem.F.slot_list_index PySem.F.type_list_index mt_index (pv 3) (pa_cons (pv 13) pa_nil))))
      (pss_cons (ps_for PassesOwn.never rfl (pi_range2 (by rfl) B2.rng (pa_cons pe_int (pa_cons (pe_op op_sub (pe_callB call_len_seq (by rfl) B.len PySem.boot_len (pa_cons (pv 2) pa_nil)) pe_int) pa_nil))) (pg_name (i := 11) scRea14.nd rfl (.inl rfl))
        (pss_one (ps_if (pt_chain op_lt op_gt (pe_ix ix_list (pv 10) (pe_op op_sub (pv 11) pe_int) (fun _ _ => rfl)) (pe_ix ix_list (pv 10) (pv 11) (fun _ _ => rfl)) (pe_ix ix_list (pv 10) (pe_op op_add (pv 11) pe_int) (fun _ _ => rfl)))
          (pss_one (ps_ret (pe_tup (pa_cons pe_str (pa_cons (pv 11) pa_nil)))))
          pss_nil)))
      (pss_cons (ps_set (i := 12) scRea14.nd rfl (.inl rfl) (pe_callB call_len_seq (by rfl) B.len PySem.boot_len (pa_cons (pv 5) pa_nil)))
      (pss_cons (ps_for PassesOwn.never rfl (pi_range1 (by rfl) B2.rng (pa_cons (pe_op op_add (pe_callB call_len_seq (by rfl) B.len PySem.boot_len (pa_cons (pv 1) pa_nil)) pe_int) pa_nil)) (pg_name (i := 11) scRea14.nd rfl (.inl rfl))
        (pss_cons (ps_if (PW.pt (pw_and (pt_cmpR op_gt (pv 11) pe_int (nomark _)) (pw_and (pt_cmpR op_eq (pe_ix ix_tup (pe_ix ix_list (pv 1) (pe_op op_sub (pv 11) pe_int) (fun _ _ => rfl)) pe_int (fun _ _ => rfl)) pe_str (nomark _)) (pw_and1 (pt_cmpR op_in_seq (pe_ix ix_tup (pe_ix ix_list (pv 1) (pe_op op_sub (pv 11) pe_int) (fun _ _ => rfl)) pe_int (fun _ _ => rfl)) (pv 2) (by rfl))))))
          (pss_one (ps_set (i := 12) scRea14.nd rfl (.inl rfl) (pe_op op_add (pv 12) pe_int)))
          pss_nil)
        (pss_one (ps_if (pt_cmpR op_gt (pv 12) (pe_ix ix_list (pv 4) (pv 11) (fun _ _ => rfl)) (nomark _))
          (pss_one (ps_ret (pe_tup (pa_cons pe_str (pa_cons (pv 11) pa_nil)))))
          pss_nil))))
      (pss_one (ps_ret (pe_call GS hr (by rfl) mgS kS bS .nil pass0 (pa_cons (pv 0) (pa_cons (pv 1) (pa_cons (pv 2) (pa_cons (pv 4) pa_nil))))))))))))))), ?_⟩
    have new : ∀ {H1 : Hp} {p : Addr} {ys : List V}, L2.Same H H1 → H1 p = none → whyT (why xs es F) = some ys → Q (.ref p) (L2.upd H1 p (.tup ys)) := fun {H1 p ys} k hp e => q _ (.ref p) (sm_new k hp) (by rw [e]; exact ⟨p, rfl, sm_none k hp, upd_same⟩)
    generalize hkn : xs ++ arrs es = kn at hK
    -- the numbers
    refine ⟨.ref a, rfl, .ref l, rfl, a, l, xs, as, es, rfl, hA, hL, hE, few, fun H1 p k1 hp0 hp => ?_⟩
    obtain ⟨r0, hr0⟩ := szs_last xs.length es
    have lastAt : atI ((szs xs.length es).map V.int) (-1) = some (.int (endI xs.length es)) := by
      rw [hr0, List.map_append]
      exact atI_last _ _
    refine ⟨.ref f, rfl, f, _, rfl, .inr (hF.same k1).sq, .ref p, rfl, 1, rfl, p, _, -1, _, rfl, rfl, SqL.of hp, lastAt, rfl, _, rfl, ?_⟩
    rw [List.length_map]
    by_cases hz : (F.length : Int) ≠ endI xs.length es
    · rw [decide_eq_false (fun z => hz (V.int.inj z))]
      refine iteT (iteT ⟨by show 1 ≤ sizeLine; decide, fun e he => new k1 he ?_⟩)
      rw [why_size hz]
      rfl
    have hz : (F.length : Int) = endI xs.length es := Decidable.not_not.mp hz
    rw [decide_eq_true (show V.int (F.length : Nat) = V.int (endI xs.length es) by rw [hz])]
    have hF1 := hF.same k1
    refine iteF ⟨.ref f, rfl, f, rfl, ⟨_, hF1.sq⟩, fun D hDn => ?_⟩
    refine lc_tup (K := K) (a := f) (xs := F.map V.str) (fun i H' => L2.Same H1 H' ∧ H' D = some (.lst (((F.take i).filter fun c => !decide (c ∈ kn)).map V.str))) ⟨sm_new sm_refl hDn, upd_same⟩ (fun i H' _ q => (hF1.same q.1).sq) ?_ ?_
    · rintro i y H' hi ⟨sm, hD'⟩
      have hlt : i < F.length := by
        have h1 := (List.getElem?_eq_some_iff.mp hi).1
        rw [List.length_map] at h1
        omega
      have hc : F[i]? = some F[i] := List.getElem?_eq_getElem hlt
      rw [List.getElem?_map, hc] at hi
      obtain rfl := Option.some.inj hi
      have hft := filt_any F (fun c => !decide (c ∈ kn)) i _ hc
      refine ⟨rfl, _, rfl, .ref k, rfl, k, _, rfl, .inl (SqL.of (sm _ _ (k1 _ _ hK))), rfl, flat_strs kn, _, rfl, ?_⟩
      show if (!inV (.str F[i]) (kn.map V.str)) = true then _ else _
      rw [inV_strs]
      by_cases hin : F[i] ∈ kn
      · rw [decide_eq_true hin]
        rw [if_neg (by rw [decide_eq_true hin]; decide), List.append_nil] at hft
        refine iteF ⟨sm, ?_⟩
        rw [hft]
        exact hD'
      · rw [decide_eq_false hin]
        rw [if_pos (by rw [decide_eq_false hin]; rfl)] at hft
        refine iteT ⟨_, rfl, _, hD', ?_, sm_upd sm hDn, ?_⟩
        · rw [List.length_map]
          have := List.length_filter_le (fun c => !decide (c ∈ kn)) (F.take i)
          rw [List.length_take] at this
          exact small1000 (by omega)
        · rw [upd_same, hft, List.map_append]
          rfl
    rintro H2a ⟨sm2a, hD2⟩
    rw [List.length_map, List.take_length] at hD2
    refine ⟨Nat.zero_le _, fun e0 he0 => ?_⟩
    have smE0 : L2.Same H2a (L2.upd H2a e0 (.lst [])) := sm_new sm_refl he0
    refine ⟨.list ((F.filter fun c => !decide (c ∈ kn)).map PyData.str), .list [], .lst (SqL.of (smE0 _ _ hD2)) (dp_str _), .lst (SqL.of upd_same) .nil, shaped_strs _ (fun x hx => car_ok (hcar x (List.mem_filter.mp hx).1)), shaped_strs [] (fun _ h => nomatch h), _, rfl, ?_⟩
    rw [eqv_nilS]
    have k2 := sm_trans (sm_trans k1 sm2a) smE0
    have hp2 := smE0 _ _ (sm2a _ _ hp)
    generalize L2.upd H2a e0 (.lst []) = H2 at smE0 k2 hp2 ⊢
    by_cases hall0 : (F.filter fun c => !decide (c ∈ kn)) = []
    case neg =>
      rw [decide_eq_false hall0]
      refine iteT ⟨by show 1 ≤ sizeLine; decide, fun e he => new k2 he ?_⟩
      have : carsOk xs es F = false := by
        unfold carsOk
        rw [hkn]
        refine Bool.eq_false_iff.mpr fun z => hall0 ?_
        rw [Bool.and_eq_true] at z
        rw [List.filter_eq_nil_iff]
        intro x hx
        have := List.all_eq_true.mp z.2 x hx
        rw [this]
        decide
      unfold why
      rw [if_pos this]
      rfl
    rw [decide_eq_true hall0]
    have hall : ∀ c ∈ F, c ∈ kn := fun c hc => by
      have := List.filter_eq_nil_iff.mp hall0 c hc
      simpa using this
    have hcok : carsOk xs es F = true := by
      unfold carsOk
      rw [hkn, Bool.and_eq_true]
      exact ⟨decide_eq_true hz, List.all_eq_true.mpr fun x hx => decide_eq_true (hall x hx)⟩
    have w1 : why xs es F = if hasBlk xs F = false then .block else match fpk (F.map fun c => (xs ++ arrs es).idxOf c) with
        | some i => .order i
        | none => match fneg (ext0 xs F es) with
          | some t => .moment t
          | none => match swC xs es F with
            | some (b, c) => .switch b c
            | none => .ok := by
      unfold why
      rw [if_neg (by rw [hcok]; decide)]
      try rfl
    refine iteF ?_
    subst hkn
    refine ⟨.ref f, rfl, f, rfl, ⟨_, (hF.same k2).sq⟩, fun D1 hD1n => ?_⟩
    refine lc_tup (K := K) (a := f) (xs := F.map V.str) (fun i H' => L2.Same H2 H' ∧ H' D1 = some (.lst ((runF xs (F.take i)).map V.str))) ⟨sm_new sm_refl hD1n, upd_same⟩ (fun i H' _ q => ((hF.same k2).same q.1).sq) ?_ ?_
    · rintro i y H' hi ⟨sm, hD'⟩
      have hlt : i < F.length := by
        have h1 := (List.getElem?_eq_some_iff.mp hi).1
        rw [List.length_map] at h1
        omega
      have hc : F[i]? = some F[i] := List.getElem?_eq_getElem hlt
      rw [List.getElem?_map, hc] at hi
      obtain rfl := Option.some.inj hi
      have hft := filt_take F xs i _ hc
      refine ⟨rfl, _, rfl, .ref a, rfl, a, _, rfl, .inr ((hA.same k2).same sm).sq, rfl, flat_strs xs, _, rfl, ?_⟩
      show if inV (.str F[i]) (xs.map V.str) = true then _ else _
      rw [inV_strs]
      by_cases hin : F[i] ∈ xs
      · rw [decide_eq_true hin]
        rw [if_pos hin] at hft
        refine iteT ⟨_, rfl, _, hD', ?_, sm_upd sm hD1n, ?_⟩
        · rw [List.length_map]
          have := List.length_filter_le (fun c => decide (c ∈ xs)) (F.take i)
          rw [List.length_take] at this
          show (List.filter _ _).length < _
          exact small1000 (by omega)
        · rw [upd_same]
          show _ = some (HO.lst ((List.filter _ (F.take (i + 1))).map V.str))
          rw [hft, List.map_append]
          rfl
      · rw [decide_eq_false hin]
        rw [if_neg hin, List.append_nil] at hft
        refine iteF ⟨sm, ?_⟩
        show H' D1 = some (HO.lst ((List.filter _ (F.take (i + 1))).map V.str))
        rw [hft]
        exact hD'
    rintro Hr ⟨smr, hD1⟩
    rw [List.length_map, List.take_length] at hD1
    have k3 := sm_trans k2 smr
    have hp3 := smr _ _ hp2
    -- is there a run
    refine ⟨.ref D1, rfl, Nat.zero_le _, fun e he => ?_⟩
    have smE : L2.Same Hr (L2.upd Hr e (.lst [])) := sm_new sm_refl he
    have hcr : ∀ x ∈ runF xs F, carB x = true := fun x hx => hcar x (List.mem_filter.mp hx).1
    refine ⟨.list ((runF xs F).map PyData.str), .list [], .lst (SqL.of (smE _ _ hD1)) (dp_str _), .lst (SqL.of upd_same) .nil, shaped_strs _ (fun x hx => car_ok (hcr x hx)), shaped_strs [] (fun _ h => nomatch h), _, rfl, ?_⟩
    rw [eqv_nilS]
    have k4 := sm_trans k3 smE
    have hp4 := smE _ _ hp3
    have h14 := smE _ _ hD1
    generalize L2.upd Hr e (.lst []) = H4 at smE k4 hp4 h14 ⊢
    cases hrun : runF xs F with
    | nil =>
      rw [decide_eq_true rfl]
      rw [hrun] at h14
      refine iteF ?_
      have hBlk : hasBlk xs F = true := run_nil hrun
      have w2 : why xs es F = match fpk (F.map fun c => (xs ++ arrs es).idxOf c) with
          | some i => .order i
          | none => match fneg (ext0 xs F es) with
            | some t => .moment t
            | none => swWhy xs es F := by
        rw [w1, if_neg (by rw [hBlk]; decide)]
        rfl
      have hrl : ([] : List Str).length = (runF xs F).length := by rw [hrun]
      -- places
      have hN := SqL.of (K := K) (k4 _ _ hK)
      have hF4 := hF.same k4
      refine ⟨.ref f, rfl, f, rfl, ⟨_, hF4.sq⟩, fun D hDn => ?_⟩
      refine lc_tup (K := K) (a := f) (xs := F.map V.str) (fun i H' => L2.Same H4 H' ∧ H' D = some (.lst ((F.take i).map fun c => V.int ((xs ++ arrs es).idxOf c : Nat)))) ⟨sm_new sm_refl hDn, upd_same⟩ (fun i H' _ q => (hF4.same q.1).sq) ?_ ?_
      · rintro i y H' hi ⟨sm, hD'⟩
        have hlt : i < F.length := by
          have h1 := (List.getElem?_eq_some_iff.mp hi).1
          rw [List.length_map] at h1
          omega
        have hc : F[i]? = some F[i] := List.getElem?_eq_getElem hlt
        rw [List.getElem?_map, hc] at hi
        obtain rfl := Option.some.inj hi
        have hin : F[i] ∈ xs ++ arrs es := hall _ (List.getElem_mem hlt)
        have hix : (xs ++ arrs es).idxOf F[i] < (xs ++ arrs es).length := List.idxOf_lt_length_of_mem hin
        refine ⟨rfl, .ref k, rfl, .inl ⟨rfl, _, sq_sm hN sm⟩, _, rfl, k, (xs ++ arrs es).map V.str, .str F[i], (xs ++ arrs es).idxOf F[i], .str F[i], rfl, rfl, sq_sm hN sm, rfl, flat_strs (xs ++ arrs es), ?_, ?_, fun m z' hm hz => ?_, ?_⟩
        · rw [List.getElem?_map, List.getElem?_eq_getElem hix, List.getElem_idxOf]
          rfl
        · show (F[i] == F[i]) = true
          exact beq_self_eq_true _
        · rw [List.getElem?_map] at hz
          have hml : m < (xs ++ arrs es).length := by omega
          rw [List.getElem?_eq_getElem hml] at hz
          obtain rfl := Option.some.inj hz
          show ((xs ++ arrs es)[m] == F[i]) = false
          have := List.not_of_lt_findIdx (p := (· == F[i])) hm
          simpa using this
        · refine ⟨_, hD', ?_, sm_upd sm hDn, ?_⟩
          · rw [List.length_map, List.length_take]
            exact small1000 (by omega)
          · rw [upd_same, List.take_add_one, hc, List.map_append]
            rfl
      rintro H5 ⟨sm5, hD5⟩
      rw [List.length_map, List.take_length] at hD5
      have k5 := sm_trans k4 sm5
      have hp5 := sm5 _ _ hp4
      have h15 := sm5 _ _ h14
      generalize hO : (F.map fun c => (xs ++ arrs es).idxOf c) = O at w2
      have hOl : O.length = F.length := by rw [← hO, List.length_map]
      have hD2 : H5 D = some (.lst (O.map fun n => V.int (n : Nat))) := by
        rw [hD5, ← hO, List.map_map]
        rfl
      have hS2 : SqL K H5 D (O.map fun n => V.int (n : Nat)) := SqL.of hD2
      have hn2 : ((((F.map V.str).length : Nat) : Int) - 1 - 1).toNat = O.length - 2 := by rw [List.length_map]; omega
      refine ⟨.ref f, rfl, f, _, rfl, .inr (hF.same k5).sq, _, _, rfl, rfl, 1, _, rfl, ⟨by decide, by decide, by rw [List.length_map]; omega, by rw [List.length_map]; omega⟩, ?_⟩
      rw [hn2]
      have at_ : ∀ (z : Int) (j : Nat), z = (j : Nat) → j < O.length → atI (O.map fun n => V.int (n : Nat)) z = some (V.int (O.getD j 0 : Nat)) := fun z j e hj => by
        rw [e]
        refine atI_nat ?_
        rw [List.getElem?_map, List.getElem?_eq_getElem hj, List.getD_eq_getElem?_getD, List.getElem?_eq_getElem hj]
        rfl
      refine for_range (lo := 1) (n := O.length - 2) (fun i σ H' => ∃ v11 : Option V, σ = [some (.ref a), some (.ref l), some (.ref f), some (.ref k), some (.ref p), some (.ref D1), none, none, none, none, some (.ref D), v11, none, none] ∧ H' = H5 ∧ ∀ j, j < i → isPk O (1 + j) = false) ?_ ?_ ?_
      · exact ⟨none, rfl, rfl, fun j hj => absurd hj (Nat.not_lt_zero j)⟩
      · rintro i σ H' hi ⟨v11, rfl, rfl, hno⟩
        have eP : isPk O (1 + i) = (decide (((O.getD i 0 : Nat) : Int) < ((O.getD (1 + i) 0 : Nat) : Int)) && decide (((O.getD (2 + i) 0 : Nat) : Int) < ((O.getD (1 + i) 0 : Nat) : Int))) := by
          unfold isPk
          rw [show 1 + i - 1 = i by omega, show 1 + i + 1 = 2 + i by omega]
          congr 1
          · exact decide_eq_decide.mpr (by omega)
          · exact decide_eq_decide.mpr (by omega)
        have next : isPk O (1 + i) = false → ∀ j, j < i + 1 → isPk O (1 + j) = false := fun hp j hj => by
          by_cases e : j = i
          · rw [e]
            exact hp
          · exact hno j (by omega)
        refine ⟨.ref D, rfl, _, rfl, _, _, rfl, rfl, D, _, _, _, rfl, rfl, hS2, at_ _ i (by omega) (by omega), .ref D, rfl, _, rfl, D, _, _, _, rfl, rfl, hS2, at_ _ (1 + i) (by omega) (by omega), _, _, rfl, rfl, _, rfl, ?_⟩
        refine ite2 (fun h1 => ?_) (fun h1 => ?_)
        · refine ⟨.ref D, rfl, _, rfl, _, _, rfl, rfl, D, _, _, _, rfl, rfl, hS2, at_ _ (2 + i) (by omega) (by omega), _, _, rfl, rfl, _, rfl, ite2 (fun h2 => ?_) (fun h2 => ?_)⟩
          · have hpk : isPk O (1 + i) = true := by
              rw [eP, Bool.and_eq_true]
              exact ⟨h1, h2⟩
            refine ⟨_, rfl, by show 2 ≤ sizeLine; decide, fun e he => ?_⟩
            rw [show (1 + ((i : Nat) : Int)) = ((1 + i : Nat) : Int) by omega]
            refine new k5 he ?_
            rw [w2, isPk_some hno (by omega) hpk]
            rfl
          · refine ⟨_, rfl, rfl, next ?_⟩
            rw [eP, h1, Bool.true_and]
            exact Bool.eq_false_iff.mpr h2
        · refine ⟨_, rfl, iteF ⟨_, rfl, rfl, next ?_⟩⟩
          rw [eP, Bool.eq_false_iff.mpr h1, Bool.false_and]
      rintro σ Hz ⟨v11, rfl, eHz, hno⟩
      have eHz2 := eHz.symm
      subst eHz2
      rw [isPk_none hno rfl] at w2
      have w3 : why xs es F = match fneg (ext0 xs F es) with
        | some t => .moment t
        | none => swWhy xs es F := w2
      clear hno hD2 hS2 at_ w2
      -- the moments
      refine ⟨.ref D1, rfl, D1, _, rfl, .inl (SqL.of h15), ?_⟩
      rw [List.length_map, hrl]
      have extAt : ∀ {j : Nat}, j ≤ es.length → (ext0 xs F es).getD j 0 = (szs xs.length es).getD j 0 - (runF xs F).length - (lateF F 0 (es.take j)).length := fun {j} hj => by
        rw [ext_at es (xs.length) (stayN xs F) j hj, stay_run hxn hFn]
      refine ⟨.ref l, rfl, l, _, rfl, .inl (SqL.of (k5 _ _ hL)), _, _, rfl, rfl, _, rfl, by rw [List.length_map, hlen]; omega, by rw [List.length_map, hlen]; omega, for_range (lo := 0) (n := (((((as.map V.ref).length : Nat) : Int) + 1)).toNat) (fun i σ H' => ∃ (v11 : Option V) (st : Int), σ = [some (.ref a), some (.ref l), some (.ref f), some (.ref k), some (.ref p), some (.ref D1), none, none, none, none, some (.ref D), v11, some (.int st), none] ∧ L2.Same H5 H' ∧ st = (runF xs F).length + (lateF F 0 (es.take (i - 1))).length ∧ ∀ j, j < i → ¬ (ext0 xs F es).getD j 0 < 0) ?_ ?_ ?_⟩
      · exact ⟨_, _, rfl, sm_refl, by rw [show 0 - 1 = 0 from rfl, List.take_zero]; show _ = _ + ((0 : Nat) : Int); omega, fun j hj => absurd hj (Nat.not_lt_zero j)⟩
      · rintro i σ H' hi ⟨v11, st, rfl, sm, hst, hno⟩
        rw [List.length_map, hlen] at hi
        have hie : i ≤ es.length := by omega
        have sm' := sm_trans k5 sm
        have atC : atI ((szs xs.length es).map V.int) (0 + ((i : Nat) : Int)) = some (.int ((szs xs.length es).getD i 0)) := by
          rw [Int.zero_add]
          exact at_int (by rw [szs_len]; omega)
        cases i with
        | zero =>
          refine ⟨_, rfl, _, _, rfl, rfl, _, rfl, ?_⟩
          rw [decide_eq_false (by omega)]
          refine iteF (iteF ?_)
          have hst : st = (runF xs F).length + (lateF F 0 (es.take 0)).length := hst
          refine ⟨_, rfl, .ref p, rfl, _, rfl, p, _, _, _, rfl, rfl, SqL.of (sm _ _ hp5), atC, _, _, rfl, rfl, _, rfl, ?_⟩
          refine ite2 (fun h1 => ?_) (fun h1 => ?_)
          · have h1 := of_decide_eq_true h1
            refine ⟨_, rfl, by show 2 ≤ sizeLine; decide, fun e he => ?_⟩
            rw [show (0 + ((0 : Nat) : Int)) = ((0 : Nat) : Int) by omega]
            refine new (sm_trans k5 sm) he ?_
            rw [w3, fneg_some (k := 0) (by rw [ext_len]; omega) (by rw [extAt (by omega)]; omega) hno]
            rfl
          · have h1 := of_decide_eq_false (Bool.eq_false_iff.mpr h1)
            refine ⟨_, _, rfl, sm, by rw [show 0 + 1 - 1 = 0 from rfl]; omega, fun j2 hj2 => ?_⟩
            by_cases e : j2 = 0
            · rw [e, extAt (by omega)]
              omega
            · exact hno j2 (by omega)

        | succ j =>
          have hlt : j < es.length := by omega
          have hev : es[j]? = some es[j] := List.getElem?_eq_getElem hlt
          obtain ⟨b, hb, hbt0⟩ := pair_at hE j _ hev
          have hbt : SqT K H' b (es[j]).vals := SqT.of (sm' _ _ hbt0)
          have hl' := sm' _ _ hL
          have hF' := (hF.same sm').sq (K := K)
          have at0 : atI (as.map V.ref) (0 + ((j + 1 : Nat) : Int) - 1) = some (.ref b) := by
            rw [show (0 + ((j + 1 : Nat) : Int) - 1) = ((j : Nat) : Int) by omega]
            exact atI_nat (by rw [List.getElem?_map, hb]; rfl)
          refine ⟨_, rfl, _, _, rfl, rfl, _, rfl, ?_⟩
          rw [decide_eq_true (by omega)]
          refine iteT ?_
          have hst : st = (runF xs F).length + (lateF F 0 (es.take j)).length := hst
          generalize hev2 : es[j] = ev at hbt
          rw [hev2] at hev
          cases ev with
          | out =>
            refine ⟨.ref l, rfl, _, rfl, _, _, rfl, rfl, l, _, _, .ref b, rfl, rfl, SqL.of hl', at0, b, _, 0, .str "out", rfl, rfl, hbt, atI_nat (j := 0) rfl, rfl, _, rfl, ?_⟩
            rw [decide_eq_false (fun z => ne_oi (V.str.inj z))]
            refine iteF (iteF ?_)
            have hlt2 : (lateF F 0 (es.take (j + 1))).length = (lateF F 0 (es.take j)).length := by rw [late_out hev]
            refine ⟨_, rfl, .ref p, rfl, _, rfl, p, _, _, _, rfl, rfl, SqL.of (sm _ _ hp5), atC, _, _, rfl, rfl, _, rfl, ?_⟩
            refine ite2 (fun h1 => ?_) (fun h1 => ?_)
            · have h1 := of_decide_eq_true h1
              refine ⟨_, rfl, by show 2 ≤ sizeLine; decide, fun e he => ?_⟩
              rw [show (0 + (((j + 1) : Nat) : Int)) = (((j + 1) : Nat) : Int) by omega]
              refine new (sm_trans k5 sm) he ?_
              rw [w3, fneg_some (k := (j + 1)) (by rw [ext_len]; omega) (by rw [extAt (by omega)]; omega) hno]
              rfl
            · have h1 := of_decide_eq_false (Bool.eq_false_iff.mpr h1)
              refine ⟨_, _, rfl, sm, by rw [show (j + 1) + 1 - 1 = (j + 1) from rfl]; omega, fun j2 hj2 => ?_⟩
              by_cases e : j2 = (j + 1)
              · rw [e, extAt (by omega)]
                omega
              · exact hno j2 (by omega)

          | inn c =>
            refine ⟨.ref l, rfl, _, rfl, _, _, rfl, rfl, l, _, _, .ref b, rfl, rfl, SqL.of hl', at0, b, _, 0, .str "in", rfl, rfl, hbt, atI_nat (j := 0) rfl, rfl, _, rfl, ?_⟩
            rw [decide_eq_true (show V.str "in" = V.str "in" from rfl)]
            refine iteT ⟨.ref l, rfl, _, rfl, _, _, rfl, rfl, l, _, _, .ref b, rfl, rfl, SqL.of hl', at0, b, _, 1, .str c, rfl, rfl, hbt, atI_nat (j := 1) rfl, .ref f, rfl, f, _, rfl, .inr hF', rfl, flat_strs F, _, rfl, ?_⟩
            show if inV (.str c) (F.map V.str) = true then _ else _
            rw [inV_strs]
            by_cases hin : c ∈ F
            · rw [decide_eq_true hin]
              have hlt2 : (lateF F 0 (es.take (j + 1))).length = (lateF F 0 (es.take j)).length + 1 := by rw [late_in hev, if_pos hin, List.length_append]; rfl
              refine iteT ⟨_, rfl, _, _, rfl, rfl, ?_⟩
              refine ⟨_, rfl, .ref p, rfl, _, rfl, p, _, _, _, rfl, rfl, SqL.of (sm _ _ hp5), atC, _, _, rfl, rfl, _, rfl, ?_⟩
              refine ite2 (fun h1 => ?_) (fun h1 => ?_)
              · have h1 := of_decide_eq_true h1
                refine ⟨_, rfl, by show 2 ≤ sizeLine; decide, fun e he => ?_⟩
                rw [show (0 + (((j + 1) : Nat) : Int)) = (((j + 1) : Nat) : Int) by omega]
                refine new (sm_trans k5 sm) he ?_
                rw [w3, fneg_some (k := (j + 1)) (by rw [ext_len]; omega) (by rw [extAt (by omega)]; omega) hno]
                rfl
              · have h1 := of_decide_eq_false (Bool.eq_false_iff.mpr h1)
                refine ⟨_, _, rfl, sm, by rw [show (j + 1) + 1 - 1 = (j + 1) from rfl]; omega, fun j2 hj2 => ?_⟩
                by_cases e : j2 = (j + 1)
                · rw [e, extAt (by omega)]
                  omega
                · exact hno j2 (by omega)

            · rw [decide_eq_false hin]
              have hlt2 : (lateF F 0 (es.take (j + 1))).length = (lateF F 0 (es.take j)).length := by rw [late_in hev, if_neg hin, List.append_nil]
              refine iteF ?_
              refine ⟨_, rfl, .ref p, rfl, _, rfl, p, _, _, _, rfl, rfl, SqL.of (sm _ _ hp5), atC, _, _, rfl, rfl, _, rfl, ?_⟩
              refine ite2 (fun h1 => ?_) (fun h1 => ?_)
              · have h1 := of_decide_eq_true h1
                refine ⟨_, rfl, by show 2 ≤ sizeLine; decide, fun e he => ?_⟩
                rw [show (0 + (((j + 1) : Nat) : Int)) = (((j + 1) : Nat) : Int) by omega]
                refine new (sm_trans k5 sm) he ?_
                rw [w3, fneg_some (k := (j + 1)) (by rw [ext_len]; omega) (by rw [extAt (by omega)]; omega) hno]
                rfl
              · have h1 := of_decide_eq_false (Bool.eq_false_iff.mpr h1)
                refine ⟨_, _, rfl, sm, by rw [show (j + 1) + 1 - 1 = (j + 1) from rfl]; omega, fun j2 hj2 => ?_⟩
                by_cases e : j2 = (j + 1)
                · rw [e, extAt (by omega)]
                  omega
                · exact hno j2 (by omega)

      rintro σ H' ⟨v11', st, rfl, sm, _, hno⟩
      rw [fneg_none (l := ext0 xs F es) (fun j hj => hno j (by rw [ext_len] at hj; rw [List.length_map, hlen]; omega))] at w3
      have w3 : why xs es F = swWhy xs es F := w3
      have sm' := sm_trans k5 sm
      refine ⟨.ref a, rfl, .ref l, rfl, .ref f, rfl, .ref p, rfl, a, l, f, p, xs, as, es, F, rfl, hA.same sm', sm' _ _ hL, Paired.imp hE fun _ _ q => sm' _ _ q, few, hF.same sm', sm _ _ hp5, fewx, fewF, hFn, hn, hBlk, hcar, fun J v smJ hv => ?_⟩
      refine q J v (sm_trans sm' smJ) ?_
      rw [w3]
      revert hv
      cases whyT (swWhy xs es F) with
      | none => exact id
      | some t =>
        rintro ⟨pp, e1, e2, e3⟩
        exact ⟨pp, e1, sm_none sm' e2, e3⟩

    | cons c0 M =>
      rw [decide_eq_false (List.cons_ne_nil _ _)]
      rw [hrun] at h14 hcr
      have hc0 := (run_both hrun).2 c0 List.mem_cons_self
      have hA4 := hA.same k4
      have hF4 := hF.same k4
      have hrl0 : ((c0 :: M).map V.str).length = M.length + 1 := by rw [List.length_map]; rfl
      refine iteT ⟨.ref a, rfl, ⟨a, _, rfl, hA4⟩, .ref D1, rfl, D1, _, 0, .str c0, rfl, rfl, SqL.of h14, atI_nat (j := 0) rfl, a, xs, c0, xs.idxOf c0, rfl, rfl, hA4.sq, (first_at hc0.1).1, (first_at hc0.1).2, .ref f, rfl, ⟨f, _, rfl, hF4⟩, .ref D1, rfl, D1, _, 0, .str c0, rfl, rfl, SqL.of h14, atI_nat (j := 0) rfl, f, F, c0, F.idxOf c0, rfl, rfl, hF4.sq, (first_at hc0.2).1, (first_at hc0.2).2, _, _, rfl, ?_⟩
      refine ⟨.ref a, rfl, _, rfl, _, rfl, _, rfl, .ref D1, rfl, D1, _, rfl, .inl (SqL.of h14), _, _, rfl, rfl, _, rfl, ?_⟩
      rw [hrl0]
      refine cutF hA4.sq (fun H6 z8 sm6 hz8 => ?_)
      refine ⟨.ref f, rfl, _, rfl, _, rfl, _, rfl, .ref D1, rfl, D1, _, rfl, .inl (SqL.of (sm6 _ _ h14)), _, _, rfl, rfl, _, rfl, ?_⟩
      rw [hrl0]
      refine cutF (hF4.same sm6).sq (fun H7 z9 sm7 hz9 => ?_)
      have hz8 := sqT_same14 hz8 sm7
      have k7 := sm_trans (sm_trans k4 sm6) sm7
      have h17 := sm7 _ _ (sm6 _ _ h14)
      have hp7 := sm7 _ _ (sm6 _ _ hp4)
      have carR : ∀ x ∈ c0 :: M, carB x = true := hcr
      have carA : ∀ x ∈ from_ xs c0 (M.length + 1), carB x = true := fun x hx => hcx x (List.mem_append_left _ (List.mem_of_mem_drop (List.mem_of_mem_take hx)))
      have carF : ∀ x ∈ from_ F c0 (M.length + 1), carB x = true := fun x hx => hcar x (List.mem_of_mem_drop (List.mem_of_mem_take hx))
      refine ⟨_, rfl, .ref D1, rfl, D1, _, rfl, SqL.of h17, fun t ob hob ht => ?_⟩
      have sm8 : L2.Same H7 (L2.upd H7 t (.frz ob (.tup ((c0 :: M).map V.str)))) := sm_new sm_refl ht
      have ht8 : SqT K (L2.upd H7 t (.frz ob (.tup ((c0 :: M).map V.str)))) t ((c0 :: M).map V.str) := (TupD.of (xs := (c0 :: M).map V.str) hob).sq
      generalize L2.upd H7 t (.frz ob (.tup ((c0 :: M).map V.str))) = H8 at sm8 ht8 ⊢
      have k8 := sm_trans k7 sm8
      refine ⟨.tuple ((from_ xs c0 (M.length + 1)).map PyData.str), .tuple ((c0 :: M).map PyData.str), .tup (sqT_same14 hz8 sm8) (dp_str _), .tup ht8 (dp_str _), shapedT _ carA, shapedT _ carR, _, rfl, ?_⟩
      rw [eqv_strs]
      by_cases hb1 : from_ xs c0 (M.length + 1) = c0 :: M
      case neg =>
        rw [decide_eq_false hb1]
        refine iteT (iteT ⟨by show 1 ≤ sizeLine; decide, fun e he => new k8 he ?_⟩)
        rw [w1, if_pos (Bool.eq_false_iff.mpr fun z => hb1 (blk_no hrun z).1)]
        rfl
      rw [decide_eq_true hb1]
      refine iteF ⟨_, rfl, .ref D1, rfl, D1, _, rfl, SqL.of (sm8 _ _ h17), fun t2 ob2 hob2 ht2 => ?_⟩
      have sm9 : L2.Same H8 (L2.upd H8 t2 (.frz ob2 (.tup ((c0 :: M).map V.str)))) := sm_new sm_refl ht2
      have ht9 : SqT K (L2.upd H8 t2 (.frz ob2 (.tup ((c0 :: M).map V.str)))) t2 ((c0 :: M).map V.str) := (TupD.of (xs := (c0 :: M).map V.str) hob2).sq
      have h19 := sm9 _ _ (sm8 _ _ h17)
      have hp9 := sm9 _ _ (sm8 _ _ hp7)
      have hz99 := sqT_same14 (sqT_same14 hz9 sm8) sm9
      have k9 := sm_trans k8 sm9
      generalize L2.upd H8 t2 (.frz ob2 (.tup ((c0 :: M).map V.str))) = H9 at sm9 ht9 h19 hp9 hz99 k9 ⊢
      refine ⟨.tuple ((from_ F c0 (M.length + 1)).map PyData.str), .tuple ((c0 :: M).map PyData.str), .tup hz99 (dp_str _), .tup ht9 (dp_str _), shapedT _ carF, shapedT _ carR, _, rfl, ?_⟩
      rw [eqv_strs]
      by_cases hb2 : from_ F c0 (M.length + 1) = c0 :: M
      case neg =>
        rw [decide_eq_false hb2]
        refine iteT ⟨by show 1 ≤ sizeLine; decide, fun e he => new k9 he ?_⟩
        rw [w1, if_pos (Bool.eq_false_iff.mpr fun z => hb2 (blk_no hrun z).2)]
        rfl
      rw [decide_eq_true hb2]
      refine iteF ?_
      have hBk := blk_yes hxn hFn hrun hb1 hb2
      clear k4 hp4 h14 sm6 sm7 sm8 sm9 hA4 hF4 smE
      generalize H9 = H4 at k9 hp9 h19 ⊢
      have k4 := k9
      have hp4 := hp9
      have h14 := h19
      have hBlk : hasBlk xs F = true := hBk
      have w2 : why xs es F = match fpk (F.map fun c => (xs ++ arrs es).idxOf c) with
          | some i => .order i
          | none => match fneg (ext0 xs F es) with
            | some t => .moment t
            | none => swWhy xs es F := by
        rw [w1, if_neg (by rw [hBlk]; decide)]
        rfl
      have hrl : (c0 :: M).length = (runF xs F).length := by rw [hrun]
      -- places
      have hN := SqL.of (K := K) (k4 _ _ hK)
      have hF4 := hF.same k4
      refine ⟨.ref f, rfl, f, rfl, ⟨_, hF4.sq⟩, fun D hDn => ?_⟩
      refine lc_tup (K := K) (a := f) (xs := F.map V.str) (fun i H' => L2.Same H4 H' ∧ H' D = some (.lst ((F.take i).map fun c => V.int ((xs ++ arrs es).idxOf c : Nat)))) ⟨sm_new sm_refl hDn, upd_same⟩ (fun i H' _ q => (hF4.same q.1).sq) ?_ ?_
      · rintro i y H' hi ⟨sm, hD'⟩
        have hlt : i < F.length := by
          have h1 := (List.getElem?_eq_some_iff.mp hi).1
          rw [List.length_map] at h1
          omega
        have hc : F[i]? = some F[i] := List.getElem?_eq_getElem hlt
        rw [List.getElem?_map, hc] at hi
        obtain rfl := Option.some.inj hi
        have hin : F[i] ∈ xs ++ arrs es := hall _ (List.getElem_mem hlt)
        have hix : (xs ++ arrs es).idxOf F[i] < (xs ++ arrs es).length := List.idxOf_lt_length_of_mem hin
        refine ⟨rfl, .ref k, rfl, .inl ⟨rfl, _, sq_sm hN sm⟩, _, rfl, k, (xs ++ arrs es).map V.str, .str F[i], (xs ++ arrs es).idxOf F[i], .str F[i], rfl, rfl, sq_sm hN sm, rfl, flat_strs (xs ++ arrs es), ?_, ?_, fun m z' hm hz => ?_, ?_⟩
        · rw [List.getElem?_map, List.getElem?_eq_getElem hix, List.getElem_idxOf]
          rfl
        · show (F[i] == F[i]) = true
          exact beq_self_eq_true _
        · rw [List.getElem?_map] at hz
          have hml : m < (xs ++ arrs es).length := by omega
          rw [List.getElem?_eq_getElem hml] at hz
          obtain rfl := Option.some.inj hz
          show ((xs ++ arrs es)[m] == F[i]) = false
          have := List.not_of_lt_findIdx (p := (· == F[i])) hm
          simpa using this
        · refine ⟨_, hD', ?_, sm_upd sm hDn, ?_⟩
          · rw [List.length_map, List.length_take]
            exact small1000 (by omega)
          · rw [upd_same, List.take_add_one, hc, List.map_append]
            rfl
      rintro H5 ⟨sm5, hD5⟩
      rw [List.length_map, List.take_length] at hD5
      have k5 := sm_trans k4 sm5
      have hp5 := sm5 _ _ hp4
      have h15 := sm5 _ _ h14
      generalize hO : (F.map fun c => (xs ++ arrs es).idxOf c) = O at w2
      have hOl : O.length = F.length := by rw [← hO, List.length_map]
      have hD2 : H5 D = some (.lst (O.map fun n => V.int (n : Nat))) := by
        rw [hD5, ← hO, List.map_map]
        rfl
      have hS2 : SqL K H5 D (O.map fun n => V.int (n : Nat)) := SqL.of hD2
      have hn2 : ((((F.map V.str).length : Nat) : Int) - 1 - 1).toNat = O.length - 2 := by rw [List.length_map]; omega
      refine ⟨.ref f, rfl, f, _, rfl, .inr (hF.same k5).sq, _, _, rfl, rfl, 1, _, rfl, ⟨by decide, by decide, by rw [List.length_map]; omega, by rw [List.length_map]; omega⟩, ?_⟩
      rw [hn2]
      have at_ : ∀ (z : Int) (j : Nat), z = (j : Nat) → j < O.length → atI (O.map fun n => V.int (n : Nat)) z = some (V.int (O.getD j 0 : Nat)) := fun z j e hj => by
        rw [e]
        refine atI_nat ?_
        rw [List.getElem?_map, List.getElem?_eq_getElem hj, List.getD_eq_getElem?_getD, List.getElem?_eq_getElem hj]
        rfl
      refine for_range (lo := 1) (n := O.length - 2) (fun i σ H' => ∃ v11 : Option V, σ = [some (.ref a), some (.ref l), some (.ref f), some (.ref k), some (.ref p), some (.ref D1), some (.int ((xs.idxOf c0 : Nat) : Int)), some (.int ((F.idxOf c0 : Nat) : Int)), some (.ref z8), some (.ref z9), some (.ref D), v11, none, none] ∧ H' = H5 ∧ ∀ j, j < i → isPk O (1 + j) = false) ?_ ?_ ?_
      · exact ⟨none, rfl, rfl, fun j hj => absurd hj (Nat.not_lt_zero j)⟩
      · rintro i σ H' hi ⟨v11, rfl, rfl, hno⟩
        have eP : isPk O (1 + i) = (decide (((O.getD i 0 : Nat) : Int) < ((O.getD (1 + i) 0 : Nat) : Int)) && decide (((O.getD (2 + i) 0 : Nat) : Int) < ((O.getD (1 + i) 0 : Nat) : Int))) := by
          unfold isPk
          rw [show 1 + i - 1 = i by omega, show 1 + i + 1 = 2 + i by omega]
          congr 1
          · exact decide_eq_decide.mpr (by omega)
          · exact decide_eq_decide.mpr (by omega)
        have next : isPk O (1 + i) = false → ∀ j, j < i + 1 → isPk O (1 + j) = false := fun hp j hj => by
          by_cases e : j = i
          · rw [e]
            exact hp
          · exact hno j (by omega)
        refine ⟨.ref D, rfl, _, rfl, _, _, rfl, rfl, D, _, _, _, rfl, rfl, hS2, at_ _ i (by omega) (by omega), .ref D, rfl, _, rfl, D, _, _, _, rfl, rfl, hS2, at_ _ (1 + i) (by omega) (by omega), _, _, rfl, rfl, _, rfl, ?_⟩
        refine ite2 (fun h1 => ?_) (fun h1 => ?_)
        · refine ⟨.ref D, rfl, _, rfl, _, _, rfl, rfl, D, _, _, _, rfl, rfl, hS2, at_ _ (2 + i) (by omega) (by omega), _, _, rfl, rfl, _, rfl, ite2 (fun h2 => ?_) (fun h2 => ?_)⟩
          · have hpk : isPk O (1 + i) = true := by
              rw [eP, Bool.and_eq_true]
              exact ⟨h1, h2⟩
            refine ⟨_, rfl, by show 2 ≤ sizeLine; decide, fun e he => ?_⟩
            rw [show (1 + ((i : Nat) : Int)) = ((1 + i : Nat) : Int) by omega]
            refine new k5 he ?_
            rw [w2, isPk_some hno (by omega) hpk]
            rfl
          · refine ⟨_, rfl, rfl, next ?_⟩
            rw [eP, h1, Bool.true_and]
            exact Bool.eq_false_iff.mpr h2
        · refine ⟨_, rfl, iteF ⟨_, rfl, rfl, next ?_⟩⟩
          rw [eP, Bool.eq_false_iff.mpr h1, Bool.false_and]
      rintro σ Hz ⟨v11, rfl, eHz, hno⟩
      have eHz2 := eHz.symm
      subst eHz2
      rw [isPk_none hno rfl] at w2
      have w3 : why xs es F = match fneg (ext0 xs F es) with
        | some t => .moment t
        | none => swWhy xs es F := w2
      clear hno hD2 hS2 at_ w2
      -- the moments
      refine ⟨.ref D1, rfl, D1, _, rfl, .inl (SqL.of h15), ?_⟩
      rw [List.length_map, hrl]
      have extAt : ∀ {j : Nat}, j ≤ es.length → (ext0 xs F es).getD j 0 = (szs xs.length es).getD j 0 - (runF xs F).length - (lateF F 0 (es.take j)).length := fun {j} hj => by
        rw [ext_at es (xs.length) (stayN xs F) j hj, stay_run hxn hFn]
      refine ⟨.ref l, rfl, l, _, rfl, .inl (SqL.of (k5 _ _ hL)), _, _, rfl, rfl, _, rfl, by rw [List.length_map, hlen]; omega, by rw [List.length_map, hlen]; omega, for_range (lo := 0) (n := (((((as.map V.ref).length : Nat) : Int) + 1)).toNat) (fun i σ H' => ∃ (v11 : Option V) (st : Int), σ = [some (.ref a), some (.ref l), some (.ref f), some (.ref k), some (.ref p), some (.ref D1), some (.int ((xs.idxOf c0 : Nat) : Int)), some (.int ((F.idxOf c0 : Nat) : Int)), some (.ref z8), some (.ref z9), some (.ref D), v11, some (.int st), none] ∧ L2.Same H5 H' ∧ st = (runF xs F).length + (lateF F 0 (es.take (i - 1))).length ∧ ∀ j, j < i → ¬ (ext0 xs F es).getD j 0 < 0) ?_ ?_ ?_⟩
      · exact ⟨_, _, rfl, sm_refl, by rw [show 0 - 1 = 0 from rfl, List.take_zero]; show _ = _ + ((0 : Nat) : Int); omega, fun j hj => absurd hj (Nat.not_lt_zero j)⟩
      · rintro i σ H' hi ⟨v11, st, rfl, sm, hst, hno⟩
        rw [List.length_map, hlen] at hi
        have hie : i ≤ es.length := by omega
        have sm' := sm_trans k5 sm
        have atC : atI ((szs xs.length es).map V.int) (0 + ((i : Nat) : Int)) = some (.int ((szs xs.length es).getD i 0)) := by
          rw [Int.zero_add]
          exact at_int (by rw [szs_len]; omega)
        cases i with
        | zero =>
          refine ⟨_, rfl, _, _, rfl, rfl, _, rfl, ?_⟩
          rw [decide_eq_false (by omega)]
          refine iteF (iteF ?_)
          have hst : st = (runF xs F).length + (lateF F 0 (es.take 0)).length := hst
          refine ⟨_, rfl, .ref p, rfl, _, rfl, p, _, _, _, rfl, rfl, SqL.of (sm _ _ hp5), atC, _, _, rfl, rfl, _, rfl, ?_⟩
          refine ite2 (fun h1 => ?_) (fun h1 => ?_)
          · have h1 := of_decide_eq_true h1
            refine ⟨_, rfl, by show 2 ≤ sizeLine; decide, fun e he => ?_⟩
            rw [show (0 + ((0 : Nat) : Int)) = ((0 : Nat) : Int) by omega]
            refine new (sm_trans k5 sm) he ?_
            rw [w3, fneg_some (k := 0) (by rw [ext_len]; omega) (by rw [extAt (by omega)]; omega) hno]
            rfl
          · have h1 := of_decide_eq_false (Bool.eq_false_iff.mpr h1)
            refine ⟨_, _, rfl, sm, by rw [show 0 + 1 - 1 = 0 from rfl]; omega, fun j2 hj2 => ?_⟩
            by_cases e : j2 = 0
            · rw [e, extAt (by omega)]
              omega
            · exact hno j2 (by omega)

        | succ j =>
          have hlt : j < es.length := by omega
          have hev : es[j]? = some es[j] := List.getElem?_eq_getElem hlt
          obtain ⟨b, hb, hbt0⟩ := pair_at hE j _ hev
          have hbt : SqT K H' b (es[j]).vals := SqT.of (sm' _ _ hbt0)
          have hl' := sm' _ _ hL
          have hF' := (hF.same sm').sq (K := K)
          have at0 : atI (as.map V.ref) (0 + ((j + 1 : Nat) : Int) - 1) = some (.ref b) := by
            rw [show (0 + ((j + 1 : Nat) : Int) - 1) = ((j : Nat) : Int) by omega]
            exact atI_nat (by rw [List.getElem?_map, hb]; rfl)
          refine ⟨_, rfl, _, _, rfl, rfl, _, rfl, ?_⟩
          rw [decide_eq_true (by omega)]
          refine iteT ?_
          have hst : st = (runF xs F).length + (lateF F 0 (es.take j)).length := hst
          generalize hev2 : es[j] = ev at hbt
          rw [hev2] at hev
          cases ev with
          | out =>
            refine ⟨.ref l, rfl, _, rfl, _, _, rfl, rfl, l, _, _, .ref b, rfl, rfl, SqL.of hl', at0, b, _, 0, .str "out", rfl, rfl, hbt, atI_nat (j := 0) rfl, rfl, _, rfl, ?_⟩
            rw [decide_eq_false (fun z => ne_oi (V.str.inj z))]
            refine iteF (iteF ?_)
            have hlt2 : (lateF F 0 (es.take (j + 1))).length = (lateF F 0 (es.take j)).length := by rw [late_out hev]
            refine ⟨_, rfl, .ref p, rfl, _, rfl, p, _, _, _, rfl, rfl, SqL.of (sm _ _ hp5), atC, _, _, rfl, rfl, _, rfl, ?_⟩
            refine ite2 (fun h1 => ?_) (fun h1 => ?_)
            · have h1 := of_decide_eq_true h1
              refine ⟨_, rfl, by show 2 ≤ sizeLine; decide, fun e he => ?_⟩
              rw [show (0 + (((j + 1) : Nat) : Int)) = (((j + 1) : Nat) : Int) by omega]
              refine new (sm_trans k5 sm) he ?_
              rw [w3, fneg_some (k := (j + 1)) (by rw [ext_len]; omega) (by rw [extAt (by omega)]; omega) hno]
              rfl
            · have h1 := of_decide_eq_false (Bool.eq_false_iff.mpr h1)
              refine ⟨_, _, rfl, sm, by rw [show (j + 1) + 1 - 1 = (j + 1) from rfl]; omega, fun j2 hj2 => ?_⟩
              by_cases e : j2 = (j + 1)
              · rw [e, extAt (by omega)]
                omega
              · exact hno j2 (by omega)

          | inn c =>
            refine ⟨.ref l, rfl, _, rfl, _, _, rfl, rfl, l, _, _, .ref b, rfl, rfl, SqL.of hl', at0, b, _, 0, .str "in", rfl, rfl, hbt, atI_nat (j := 0) rfl, rfl, _, rfl, ?_⟩
            rw [decide_eq_true (show V.str "in" = V.str "in" from rfl)]
            refine iteT ⟨.ref l, rfl, _, rfl, _, _, rfl, rfl, l, _, _, .ref b, rfl, rfl, SqL.of hl', at0, b, _, 1, .str c, rfl, rfl, hbt, atI_nat (j := 1) rfl, .ref f, rfl, f, _, rfl, .inr hF', rfl, flat_strs F, _, rfl, ?_⟩
            show if inV (.str c) (F.map V.str) = true then _ else _
            rw [inV_strs]
            by_cases hin : c ∈ F
            · rw [decide_eq_true hin]
              have hlt2 : (lateF F 0 (es.take (j + 1))).length = (lateF F 0 (es.take j)).length + 1 := by rw [late_in hev, if_pos hin, List.length_append]; rfl
              refine iteT ⟨_, rfl, _, _, rfl, rfl, ?_⟩
              refine ⟨_, rfl, .ref p, rfl, _, rfl, p, _, _, _, rfl, rfl, SqL.of (sm _ _ hp5), atC, _, _, rfl, rfl, _, rfl, ?_⟩
              refine ite2 (fun h1 => ?_) (fun h1 => ?_)
              · have h1 := of_decide_eq_true h1
                refine ⟨_, rfl, by show 2 ≤ sizeLine; decide, fun e he => ?_⟩
                rw [show (0 + (((j + 1) : Nat) : Int)) = (((j + 1) : Nat) : Int) by omega]
                refine new (sm_trans k5 sm) he ?_
                rw [w3, fneg_some (k := (j + 1)) (by rw [ext_len]; omega) (by rw [extAt (by omega)]; omega) hno]
                rfl
              · have h1 := of_decide_eq_false (Bool.eq_false_iff.mpr h1)
                refine ⟨_, _, rfl, sm, by rw [show (j + 1) + 1 - 1 = (j + 1) from rfl]; omega, fun j2 hj2 => ?_⟩
                by_cases e : j2 = (j + 1)
                · rw [e, extAt (by omega)]
                  omega
                · exact hno j2 (by omega)

            · rw [decide_eq_false hin]
              have hlt2 : (lateF F 0 (es.take (j + 1))).length = (lateF F 0 (es.take j)).length := by rw [late_in hev, if_neg hin, List.append_nil]
              refine iteF ?_
              refine ⟨_, rfl, .ref p, rfl, _, rfl, p, _, _, _, rfl, rfl, SqL.of (sm _ _ hp5), atC, _, _, rfl, rfl, _, rfl, ?_⟩
              refine ite2 (fun h1 => ?_) (fun h1 => ?_)
              · have h1 := of_decide_eq_true h1
                refine ⟨_, rfl, by show 2 ≤ sizeLine; decide, fun e he => ?_⟩
                rw [show (0 + (((j + 1) : Nat) : Int)) = (((j + 1) : Nat) : Int) by omega]
                refine new (sm_trans k5 sm) he ?_
                rw [w3, fneg_some (k := (j + 1)) (by rw [ext_len]; omega) (by rw [extAt (by omega)]; omega) hno]
                rfl
              · have h1 := of_decide_eq_false (Bool.eq_false_iff.mpr h1)
                refine ⟨_, _, rfl, sm, by rw [show (j + 1) + 1 - 1 = (j + 1) from rfl]; omega, fun j2 hj2 => ?_⟩
                by_cases e : j2 = (j + 1)
                · rw [e, extAt (by omega)]
                  omega
                · exact hno j2 (by omega)

      rintro σ H' ⟨v11', st, rfl, sm, _, hno⟩
      rw [fneg_none (l := ext0 xs F es) (fun j hj => hno j (by rw [ext_len] at hj; rw [List.length_map, hlen]; omega))] at w3
      have w3 : why xs es F = swWhy xs es F := w3
      have sm' := sm_trans k5 sm
      refine ⟨.ref a, rfl, .ref l, rfl, .ref f, rfl, .ref p, rfl, a, l, f, p, xs, as, es, F, rfl, hA.same sm', sm' _ _ hL, Paired.imp hE fun _ _ q => sm' _ _ q, few, hF.same sm', sm _ _ hp5, fewx, fewF, hFn, hn, hBlk, hcar, fun J v smJ hv => ?_⟩
      refine q J v (sm_trans sm' smJ) ?_
      rw [w3]
      revert hv
      cases whyT (swWhy xs es F) with
      | none => exact id
      | some t =>
        rintro ⟨pp, e1, e2, e3⟩
        exact ⟨pp, e1, sm_none sm' e2, e3⟩


end
end Ln


set_option Elab.async false
set_option linter.all false
set_option maxRecDepth 100000
set_option maxHeartbeats 4000000
namespace Ln
open PySem PySem.Spec PyProof.Rows L2 GxR
/-- a lane after one event -/
def mvF (xs : List Str) (e : Ev) (left : Bool) : List Str := match e with
  | .inn c => if left = true then c :: xs else xs ++ [c]
  | .out => if left = true then xs.drop 1 else xs.take (xs.length - 1)
theorem mv_mvF {xs : List Str} {e : Ev} {left : Bool} (h : e = .out → xs ≠ []) : Mv xs e (mvF xs e left) := by
  cases e with
  | inn c =>
    cases left with
    | true => exact .inL c xs
    | false => exact .inR c xs
  | out =>
    have h := h rfl
    cases left with
    | true =>
      cases xs with
      | nil => exact absurd rfl h
      | cons x r => exact .outL x r
    | false =>
      show Mv xs .out (xs.take (xs.length - 1))
      rw [← List.dropLast_eq_take]
      have e := (List.dropLast_concat_getLast h).symm
      generalize xs.dropLast = r at e ⊢
      rw [e]
      exact .outR _ r
theorem cut_lastV {xs : List V} (h : 0 < xs.length) : cutV xs none (some (-1)) = xs.take (xs.length - 1) := by
  unfold cutV
  rw [HT.sIx_none, List.drop_zero, Nat.sub_zero, show HT.sIx xs.length xs.length (some (-1)) = xs.length - 1 by
    show (if (-1 : Int) < 0 then ((-1 : Int) + (xs.length : Int)).toNat else min (-1 : Int).toNat xs.length) = _
    rw [if_pos (by decide)]
    omega]
/-! ### what the law keeps -/
/-- an object of the module's own -/
def KAlt (K : PySem.W.Frag) (a : Addr) (xs : List V) : Prop := ∃ (o : Obj) (its : Array Value) (n : Nat), K.lookup a = some o ∧ o.cls = .type "list" ∧ o.dict = none ∧ o.data = .seq its n ∧ its.size ≤ sizeLine ∧ Vals xs its.toList
def Off (K : PySem.W.Frag) (a b : Addr) (xs : List V) : Prop := a ≠ b ∨ KAlt K a xs
section
variable {K : PySem.W.Frag} {Ps : List Addr} {H H1 : Hp} {a b t : Addr} {o : HO} {xs z : List V}
theorem off_new (h : SqL K H a xs) (hb : H b = none) : Off K a b xs := by
  rcases h with (e | ⟨ob, e⟩) | e
  · exact .inl (ne_of_none e hb)
  · exact .inl (ne_of_none e hb)
  · exact .inr e
theorem sq_off (h : SqL K H a xs) (n : Off K a b xs) : SqL K (upd H b o) a xs := by
  rcases n with n | e
  · rcases h with (e | ⟨ob, e⟩) | e
    · exact .inl (.inl (by rw [upd_ne n]; exact e))
    · exact .inl (.inr ⟨ob, by rw [upd_ne n]; exact e⟩)
    · exact .inr e
  · exact .inr e
theorem tabs_updL (hT : Tabs Ps H) (hb : H b = some (.lst z)) : Tabs Ps (upd H b o) := fun q hq => by
  obtain ⟨ps, e, t⟩ := hT q hq
  have n : q ≠ b := fun z => by
    rw [z, hb] at e
    cases e
  exact ⟨ps, by rw [upd_ne n]; exact e, t⟩
theorem tabs_new (hT : Tabs Ps H) (hb : H b = none) : Tabs Ps (upd H b o) := fun q hq => by
  obtain ⟨ps, e, t⟩ := hT q hq
  exact ⟨ps, by rw [upd_ne (ne_of_none e hb)]; exact e, t⟩
theorem tabs_same (hT : Tabs Ps H) (k : L2.Same H H1) : Tabs Ps H1 := fun q hq => by
  obtain ⟨ps, e, t⟩ := hT q hq
  exact ⟨ps, k _ _ e, t⟩
theorem tup_updL (h : TupD H t xs) (hb : H b = some (.lst z)) : TupD (upd H b o) t xs := by
  obtain ⟨ob, d, e⟩ := h
  refine ⟨ob, d, ?_⟩
  rw [upd_ne fun q => by rw [q, hb] at e; cases e]
  exact e
theorem sq_same (h : SqL K H a xs) (k : L2.Same H H1) : SqL K H1 a xs := by
  rcases h with (e | ⟨ob, e⟩) | e
  · exact .inl (.inl (k _ _ e))
  · exact .inl (.inr ⟨ob, k _ _ e⟩)
  · exact .inr e
end
theorem EvT.updL {as : List Addr} {es : List Ev} {H : Hp} {b : Addr} {z : List V} {u : HO} (h : EvT H as es) (hb : H b = some (.lst z)) : EvT (upd H b u) as es := h.kt (KT.upd fun xs e => by rw [hb] at e; cases e)
/-! ### the history's lanes -/
theorem cnt_take : ∀ (es : List Ev) (n m j : Nat), cnt n es = some m → j ≤ es.length → ∃ k, cnt n (es.take j) = some k ∧ (k : Int) = endI n (es.take j) ∧ (es[j]? = some .out → 0 < k)
  | [], n, m, j, _, hj => by
    have : j = 0 := by simpa using hj
    subst this
    exact ⟨n, rfl, rfl, fun h => by simp at h⟩
  | .inn c :: r, n, m, 0, _, _ => ⟨n, rfl, rfl, fun h => by simp at h⟩
  | .out :: r, n, m, 0, h, _ => by
    refine ⟨n, rfl, rfl, fun _ => ?_⟩
    by_cases q : 0 < n
    · exact q
    · have h : (if 0 < n then cnt (n - 1) r else none) = some m := h
      rw [if_neg q] at h
      cases h
  | .inn c :: r, n, m, j + 1, h, hj => by
    obtain ⟨k, h1, h2, h3⟩ := cnt_take r (n + 1) m j h (by simpa using hj)
    exact ⟨k, h1, by rw [h2]; rfl, fun e => h3 (by simpa using e)⟩
  | .out :: r, n, m, j + 1, h, hj => by
    have h : (if 0 < n then cnt (n - 1) r else none) = some m := h
    by_cases q : 0 < n
    · rw [if_pos q] at h
      obtain ⟨k, h1, h2, h3⟩ := cnt_take r (n - 1) m j h (by simpa using hj)
      refine ⟨k, ?_, ?_, fun e => h3 (by simpa using e)⟩
      · show (if 0 < n then cnt (n - 1) (r.take j) else none) = some k
        rw [if_pos q, h1]
      · rw [h2]
        show endI ((n - 1 : Nat) : Int) (r.take j) = endI ((n : Int) - 1) (r.take j)
        rw [show ((n - 1 : Nat) : Int) = (n : Int) - 1 by omega]
    · rw [if_neg q] at h
      cases h
structure Good (xs : List Str) (es : List Ev) (m : Nat) : Prop where
  nd : (xs ++ arrs es).Nodup
  cars : ∀ x ∈ xs ++ arrs es, carB x = true
  ct : cnt xs.length es = some m
  few1 : xs.length ≤ 100
  few2 : es.length ≤ 200
section
variable {xs L : List Str} {es : List Ev} {m j : Nat}
theorem arrs_take (es : List Ev) (j : Nat) : (arrs (es.take j)).Sublist (arrs es) := by
  have : arrs es = arrs (es.take j) ++ arrs (es.drop j) := by rw [← arrs_app, List.take_append_drop]
  rw [this]
  exact List.sublist_append_left _ _
theorem Good.take (G : Good xs es m) (j : Nat) (hj : j ≤ es.length) : ∃ k, Good xs (es.take j) k := by
  obtain ⟨k, h1, _, _⟩ := cnt_take es xs.length m j G.ct hj
  have hs : (xs ++ arrs (es.take j)).Sublist (xs ++ arrs es) := (List.Sublist.refl _).append (arrs_take es j)
  exact ⟨k, G.nd.sublist hs, fun x hx => G.cars x (hs.subset hx), h1, G.few1, by rw [List.length_take]; have := G.few2; omega⟩
theorem Good.laneB (G : Good xs es m) : laneB xs = true := by
  unfold Ln.laneB
  rw [Bool.and_eq_true]
  exact ⟨List.all_eq_true.mpr fun x hx => G.cars x (List.mem_append_left _ hx), decide_eq_true (List.nodup_append.mp G.nd).1⟩
theorem Good.logB (G : Good xs es m) : logB xs xs.length es = true :=
  logB_of es xs xs.length m G.ct (fun c hc => ⟨G.cars c (List.mem_append_right _ hc), fun z => (List.nodup_append.mp G.nd).2.2 c z c hc rfl⟩) (List.nodup_append.mp G.nd).2.1
theorem Good.lane (G : Good xs es m) (h : Run xs es L) : Ln.laneB L = true := by
  unfold Ln.laneB
  rw [Bool.and_eq_true]
  exact ⟨List.all_eq_true.mpr fun x hx => G.cars x (h.mem x hx), decide_eq_true (h.nodup G.nd)⟩
theorem endI_le : ∀ (n : Int) (es : List Ev), endI n es ≤ n + es.length
  | n, [] => by show n ≤ n + ((0 : Nat) : Int); omega
  | n, .inn _ :: r => by
    have := endI_le (n + 1) r
    rw [List.length_cons]
    show endI (n + 1) r ≤ _
    omega
  | n, .out :: r => by
    have := endI_le (n - 1) r
    rw [List.length_cons]
    show endI (n - 1) r ≤ _
    omega
theorem Good.few (G : Good xs es m) (h : Run xs es L) : L.length ≤ 300 := by
  have h1 := h.len
  have h2 := endI_le xs.length es
  have := G.few1
  have := G.few2
  omega
theorem Good.laneAt {K : PySem.W.Frag} {H : Hp} {p : Addr} (G : Good xs es m) (h : Run xs es L) (hp : TupD H p (L.map V.str)) : LaneAt K H p L :=
  ⟨hp.sq, by have := G.few h; omega, fun x hx => car_sz (carsOf (G.lane h) x hx)⟩
theorem Good.startAt {K : PySem.W.Frag} {H : Hp} {p : Addr} (G : Good xs es m) (hp : TupD H p (xs.map V.str)) : LaneAt K H p xs :=
  ⟨hp.sq, by have := G.few1; omega, fun x hx => car_sz (carsOf G.laneB x hx)⟩
theorem Good.logAt {K : PySem.W.Frag} {H : Hp} {l : Addr} {as : List Addr} (G : Good xs es m) (hl : H l = some (.lst (as.map V.ref))) (hv : EvT H as es) : LogAt K H l as es :=
  ⟨SqL.of hl, Paired.imp hv fun _ _ q => SqT.of q, by have := G.few2; omega, fun c hc => car_sz (G.cars c (List.mem_append_right _ (mem_arrs hc)))⟩
end
/-! ### a call by keywords alone -/
section
variable {X : Cx} {CX : CXT} {k : Nat} {f : Addr} {fd : FuncData} {ps ks : List Str} {sp : Sp} {E : XK} {x : Str} {p pos : Pos} {kws : List Keyword} {tk : TA} {g : List Value → List Value → List Value} {gV : List V → List V → List V}
theorem pe_callK0 (F : FnOk X.prog X.w X.K X.mg X.base CX k f fd ps sp) (hr : Room k X.A) (hg : Gl X x) (hm : X.mg x = some (.ref f)) (hk : PySem.W.keepIn X.K (.ref f) = true) (hb : KBinds X.K fd ps ks g gV) (hx : Passes CX X E) (hkw : PK X kws tk)
    (hall : (backToKw pos (keywordEach kws X.env)).all (·.1.isSome) = true := by rfl) (hks : (backToKw pos (keywordEach kws X.env)).filterMap (·.1) = ks := by rfl) (hdb : (x == ("__debug__" : Str)) = false := by decide)
    (hpl : ((backTo pos (starEach [] X.env)).any (·.1) || (backToKw pos (keywordEach kws X.env)).any (·.1.isNone)) = false := by rfl) :
    PE X (.Call (.Name x p) [] kws pos) (tCallK sp gV E tNil tk) := by
  refine ⟨fun pins s σ H Q I h => wpAny_Call_Name_kw (ld_glob I hg hm ?_ hdb)⟩
  refine PySem.W.callWith_KW0 (h₀ := X.base) I.ok.mod.kin hk hall (thn (hkw.run pos pins s σ H _ I h) fun ws s2 ⟨zs, H2, I2, rz, q2⟩ => ⟨I2.kIn, ?_⟩) hpl
  rw [hks]
  exact run_fnk (us := []) F hr hb hx I2 .nil rz q2
end
def id3 {α : Type} : List α → List α → List α
  | [], [x, y, z] => [x, y, z]
  | _, _ => []
end Ln


set_option Elab.async false
set_option linter.all false
set_option maxRecDepth 100000
set_option maxHeartbeats 4000000
namespace Ln
open PySem PySem.Spec PyProof.Rows L2 GxR
theorem scLived : FnScope ["bag", "initial", "entries", "line", "lean", "entry", "left"] ["bag", "initial", "entries"] (defScope sLived) := ⟨rfl, rfl, rfl, by decide +kernel, rfl, by decide +kernel, by decide +kernel⟩
section
variable {s a : Addr} {H H' : Hp} {xs l : List V} {as : List Addr} {es : List Ev}
theorem Ch.tupD (k : Ch s H H') (h : TupD H a xs) (hs : H s = some (.lst l)) : TupD H' a xs := by
  obtain ⟨ob, d, e⟩ := h
  exact ⟨ob, d, k _ _ e fun z => by rw [z, hs] at e; cases e⟩
theorem Ch.evT (k : Ch s H H') (h : EvT H as es) (hs : H s = some (.lst l)) : EvT H' as es := Paired.imp h fun b e q => k _ _ q fun z => by rw [z, hs] at q; cases q
theorem Ch.sm {H2 : Hp} (k : Ch s H H') (m : L2.Same H' H2) : Ch s H H2 := fun b o e n => m _ _ (k b o e n)
end
theorem take_run' {es : List Ev} {j : Nat} {e : Ev} (h : es[j]? = some e) : es.take (j + 1) = es.take j ++ [e] := by
  rw [List.take_add_one, h]
  rfl
section
variable {P : Program} {w : World} {K : PySem.W.Frag} {mg : Str → Option Value} {base : Heap} {Ps : List Addr}
def spLived (K : PySem.W.Frag) : Sp := fun vs H Q _ => ∃ (s0 t o : Addr) (l : List V) (n : Nat) (xs : List Str) (as : List Addr) (es : List Ev) (m : Nat), vs = [.ref s0, .ref t, .ref o] ∧ H s0 = some (.lst l) ∧ SrcV n l ∧ n + 300 ≤ 1000000 ∧ TupD H t (xs.map V.str) ∧ H o = some (.lst (as.map V.ref)) ∧ s0 ≠ o ∧ EvT H as es ∧ Good xs es m ∧
  ∀ (H' : Hp) (p : Addr) (L : List Str) (l' : List V), Ch s0 H H' → H' s0 = some (.lst l') → SrcV (n + 201) l' → TupD H' p (L.map V.str) → Run xs es L → Q (.ref p) H'
theorem ok_lived {f fT : Addr} {fd fdT : FuncData} (F : Fun K "_law_lived" "_law_lived" sLived f fd)
    (GT : FnOk P w K mg base CX0 1 fT fdT ["bag", "limit"] spTake) (mgT : mg "_law_take" = some (.ref fT)) (kT : PySem.W.keepIn K (.ref fT) = true) (bT : Binds K fdT ["bag", "limit"] []) : FnOk P w K mg base CX0 2 f fd ["bag", "initial", "entries"] (spLived K) := by
  refine F.ok scLived (fun vs H Q E h => ?_) (fun cdv A outer s H vs Q E hr h => ?_)
  · obtain ⟨s0, t, o, l, n, xs, as, es, m, rfl, _⟩ := h
    rfl
  · obtain ⟨s0, t, o, l, n, xs, as, es, m, rfl, hs, hl, hn, hT, hO, dso, hE, G, q⟩ := h
    refine ⟨_, pss_cons (ps_set (i := 3) scLived.nd rfl (.inl rfl) (pv 1))
      (pss_cons (ps_set (i := 4) scLived.nd rfl (.inl rfl) (pe_op op_add pe_int (pe_call GT hr (by rfl) mgT kT bT .nil pass0 (pa_cons (pv 0) (pa_cons pe_int pa_nil)))))
      (pss_cons (ps_for PassesOwn.never rfl (pi_list (pv 2)) (pg_name (i := 5) scLived.nd rfl (.inl rfl))
        (pss_cons (ps_set (i := 6) scLived.nd rfl (.inl rfl) (pe_cmpR op_lt (pe_call GT hr (by rfl) mgT kT bT .nil pass0 (pa_cons (pv 0) (pa_cons pe_int pa_nil))) (pv 4) (nomark _)))
        (pss_one (ps_if (pt_cmpR op_eq (pe_ix ix_tup (pv 5) pe_int (fun _ _ => rfl)) pe_str (nomark _))
          (pss_one (ps_set (i := 3) scLived.nd rfl (.inl rfl) (pe_ifExp (pt_val (pv 6)) (pe_op op_catD (pe_tupD (pa_cons (pe_ix ix_tup (pv 5) pe_int (fun _ _ => rfl)) pa_nil)) (pv 3)) (pe_op op_catD (pv 3) (pe_tupD (pa_cons (pe_ix ix_tup (pv 5) pe_int (fun _ _ => rfl)) pa_nil))))))
          (pss_one (ps_set (i := 3) scLived.nd rfl (.inl rfl) (pe_ifExp (pt_val (pv 6)) (pe_slice sl_tupD (pv 3) (po_some pe_int) po_none) (pe_slice sl_tupD (pv 3) po_none (po_some (pe_un un_neg pe_int))))))))))
      (pss_one (ps_ret (pv 3))))), ?_⟩
    have few2 := G.few2
    have hlen := Paired.length hE
    refine ⟨_, rfl, ?_⟩
    refine ⟨.ref s0, rfl, s0, l, n, 3, rfl, hs, hl, by omega, by decide, by decide, fun l2 r2 hl2 _ _ => ⟨_, _, rfl, rfl, ?_⟩⟩
    have ch1 : Ch s0 H (upd H s0 (.lst l2)) := Ch.src
    refine ⟨.ref o, rfl, o, rfl, ⟨_, SqL.of (ch1 _ _ hO dso.symm)⟩, for_list (K := K) (a := o) (xs := as.map V.ref) (fun j σ H' => ∃ (p : Addr) (L : List Str) (l' : List V) (v5 v6 : Option V), σ = [some (.ref s0), some (.ref t), some (.ref o), some (.ref p), some (.int (1 + r2)), v5, v6] ∧
      Ch s0 H H' ∧ H' s0 = some (.lst l') ∧ SrcV (n + 1 + j) l' ∧ j ≤ es.length ∧ TupD H' p (L.map V.str) ∧ Run xs (es.take j) L) ?_ ?_ ?_ ?_⟩
    · exact ⟨t, xs, l2, none, none, rfl, ch1, upd_same, hl2, Nat.zero_le _, ch1.tupD hT hs, .nil _⟩
    · rintro j σ H' _ ⟨_, _, _, _, _, _, ch, _⟩
      exact SqL.of (ch _ _ hO dso.symm)
    · rintro j x σ H' hj ⟨p, L, l', v5, v6, rfl, ch, hs', hl', hje, hp, hrun⟩
      have hlt : j < es.length := by
        have h1 := (List.getElem?_eq_some_iff.mp hj).1
        rw [List.length_map] at h1
        omega
      have hev : es[j]? = some es[j] := List.getElem?_eq_getElem hlt
      obtain ⟨b, hb, hbt⟩ := pair_at (ch.evT hE hs) j _ hev
      have hx : x = .ref b := by
        rw [List.getElem?_map, hb] at hj
        exact (Option.some.inj hj).symm
      subst hx
      have hne : es[j] = .out → L ≠ [] := fun e z => by
        obtain ⟨k, _, h2, h3⟩ := cnt_take es xs.length m j G.ct hje
        have h4 := h3 (by rw [hev, e])
        have h5 := hrun.len
        rw [← h2, z] at h5
        have h5 : ((0 : Nat) : Int) = (k : Int) := h5
        omega
      obtain ⟨mj, Gj⟩ := G.take j hje
      have Lfew := Gj.few hrun
      refine ⟨.ref s0, rfl, s0, l', n + 1 + j, 4, rfl, hs', hl', by omega, by decide, by decide, fun l3 r3 hl3 _ _ => ⟨_, rfl, _, _, rfl, rfl, ?_⟩⟩
      have ch3 : Ch s0 H (upd H' s0 (.lst l3)) := ch.trans Ch.src
      have hs3 : (upd H' s0 (.lst l3)) s0 = some (.lst l3) := upd_same
      have hp3 : TupD (upd H' s0 (.lst l3)) p (L.map V.str) := tup_updL hp hs'
      have hbt3 : (upd H' s0 (.lst l3)) b = some (.tup (es[j]).vals) := by
        rw [upd_ne (fun z => by rw [z, hs'] at hbt; cases hbt)]
        exact hbt
      generalize upd H' s0 (.lst l3) = H3 at ch3 hs3 hp3 hbt3 ⊢
      have step : ∀ (H4 : Hp) (p4 : Addr) (left : Bool), L2.Same H3 H4 → TupD H4 p4 ((mvF L es[j] left).map V.str) → Ch s0 H H4 ∧ H4 s0 = some (.lst l3) ∧ SrcV (n + 1 + (j + 1)) l3 ∧ j + 1 ≤ es.length ∧ TupD H4 p4 ((mvF L es[j] left).map V.str) ∧ Run xs (es.take (j + 1)) (mvF L es[j] left) := fun H4 p4 left sm h4 => by
        refine ⟨ch3.sm sm, sm _ _ hs3, hl3, hlt, h4, ?_⟩
        rw [take_run' hev]
        exact hrun.snoc (mv_mvF hne)
      obtain ⟨left, hlf⟩ : ∃ left, decide (r3 < 1 + r2) = left := ⟨_, rfl⟩
      have hlf : V.bl (decide (r3 < 1 + r2)) = V.bl left := by rw [hlf]
      have hx0 : es[j] = .out → 0 < (L.map V.str).length := fun e => by
        rw [List.length_map]
        exact List.length_pos_iff.mpr (hne e)
      cases he : es[j] with
      | inn c =>
        rw [he] at hbt3 step
        refine ⟨.ref b, rfl, b, _, 0, .str "in", rfl, rfl, SqT.of hbt3, atI_nat (j := 0) rfl, rfl, _, rfl, ?_⟩
        rw [decide_eq_true (rfl : V.str "in" = V.str "in")]
        refine iteT ⟨_, rfl, left, hlf, ?_⟩
        cases left with
        | true =>
          refine iteT ⟨.ref b, rfl, b, _, 1, .str c, rfl, rfl, SqT.of hbt3, atI_nat (j := 1) rfl, by show 1 ≤ sizeLine; decide, fun p5 ob hob hp5 => ?_⟩
          have sm5 : L2.Same H3 (L2.upd H3 p5 (.frz ob (.tup [.str c]))) := sm_new sm_refl hp5
          refine ⟨.ref p, rfl, cat_l (TupD.of hob) (hp3.same sm5) Lfew fun H6 p6 sm6 h6 => ?_⟩
          obtain ⟨a1, a2, a3, a4, a5, a6⟩ := step H6 p6 true (sm_trans sm5 sm6) h6
          exact ⟨p6, _, l3, _, _, rfl, a1, a2, a3, a4, a5, a6⟩
        | false =>
          refine iteF ⟨.ref p, rfl, .ref b, rfl, b, _, 1, .str c, rfl, rfl, SqT.of hbt3, atI_nat (j := 1) rfl, by show 1 ≤ sizeLine; decide, fun p5 ob hob hp5 => ?_⟩
          have sm5 : L2.Same H3 (L2.upd H3 p5 (.frz ob (.tup [.str c]))) := sm_new sm_refl hp5
          refine cat_r (TupD.of hob) (hp3.same sm5) Lfew fun H6 p6 sm6 h6 => ?_
          obtain ⟨a1, a2, a3, a4, a5, a6⟩ := step H6 p6 false (sm_trans sm5 sm6) h6
          exact ⟨p6, _, l3, _, _, rfl, a1, a2, a3, a4, a5, a6⟩
      | out =>
        have hx := hx0 he
        rw [he] at hbt3 step
        refine ⟨.ref b, rfl, b, _, 0, .str "out", rfl, rfl, SqT.of hbt3, atI_nat (j := 0) rfl, rfl, _, rfl, ?_⟩
        rw [decide_eq_false (fun z => ne_oi (V.str.inj z))]
        refine iteF ⟨_, rfl, left, hlf, ?_⟩
        cases left with
        | true =>
          refine iteT ⟨.ref p, rfl, 1, rfl, p, _, rfl, hp3.sq, fun hw => ?_, fun p5 ob hob hp5 => ?_⟩
          · have h1 := hw.1
            rw [show ((1 : Int)) = ((1 : Nat) : Int) from rfl, HT.sIx_nat, Nat.min_eq_left hx] at h1
            cases h1
          · have h6 := TupD.of (H := H3) (p := p5) (xs := cutV (L.map V.str) (some 1) none) hob
            obtain ⟨a1, a2, a3, a4, a5, a6⟩ := step _ p5 true (sm_new sm_refl hp5) (by
              show TupD _ _ ((L.drop 1).map V.str)
              have e : cutV (L.map V.str) (some 1) none = (L.drop 1).map V.str := by rw [cut_one hx, List.map_drop]
              rw [← e]
              exact h6)
            exact ⟨p5, _, l3, _, _, rfl, a1, a2, a3, a4, a5, a6⟩
        | false =>
          refine iteF ⟨.ref p, rfl, 1, rfl, -1, rfl, p, _, rfl, hp3.sq, fun hw => ?_, fun p5 ob hob hp5 => ?_⟩
          · have h1 := hw.2
            have e : HT.sIx (L.map V.str).length (L.map V.str).length (some (-1)) = (L.map V.str).length - 1 := by
              show (if (-1 : Int) < 0 then ((-1 : Int) + ((L.map V.str).length : Int)).toNat else min (-1 : Int).toNat (L.map V.str).length) = _
              rw [if_pos (by decide)]
              omega
            rw [e] at h1
            omega
          · have h6 := TupD.of (H := H3) (p := p5) (xs := cutV (L.map V.str) none (some (-1))) hob
            obtain ⟨a1, a2, a3, a4, a5, a6⟩ := step _ p5 false (sm_new sm_refl hp5) (by
              show TupD _ _ ((L.take (L.length - 1)).map V.str)
              have e : cutV (L.map V.str) none (some (-1)) = (L.take (L.length - 1)).map V.str := by rw [cut_lastV hx, List.map_take, List.length_map]
              rw [← e]
              exact h6)
            exact ⟨p5, _, l3, _, _, rfl, a1, a2, a3, a4, a5, a6⟩
    · rintro σ H' ⟨p, L, l', v5, v6, rfl, ch, hs', hl', hje, hp, hrun⟩
      rw [List.length_map, hlen, List.take_length] at hrun
      exact ⟨.ref p, rfl, q H' p L l' ch hs' (hl'.mono (by rw [List.length_map]; omega)) hp hrun⟩
end
end Ln


set_option Elab.async false
set_option linter.all false
set_option maxRecDepth 100000
set_option maxHeartbeats 8000000
namespace Ln
open PySem PySem.Spec PyProof.Rows L2 GxR
theorem scBent : FnScope ["bag", "line", "folk", "kind", "found", "here", "there", "other"] ["bag", "line", "folk"] (defScope sBent) := ⟨rfl, rfl, rfl, by decide +kernel, rfl, by decide +kernel, by decide +kernel⟩
/-- two cars exchanged -/
def swp (L : List Str) (i j : Nat) : List Str := (L.set i (L.getD j "")).set j (L.getD i "")
theorem swp_get {L : List Str} {i j k : Nat} (hi : i < L.length) (hj : j < L.length) (hk : k < (swp L i j).length) : ∃ p, ∃ hp : p < L.length, (swp L i j)[k] = L[p] ∧ p = if j = k then i else if i = k then j else k := by
  have hk' : k < L.length := by
    unfold swp at hk
    rw [List.length_set, List.length_set] at hk
    exact hk
  have key : (swp L i j)[k]? = L[if j = k then i else if i = k then j else k]? := by
    unfold swp
    rw [List.getElem?_set]
    by_cases h1 : j = k
    · rw [if_pos h1, if_pos h1, List.length_set, if_pos hj, List.getD_eq_getElem?_getD, List.getElem?_eq_getElem hi]
      rfl
    · rw [if_neg h1, if_neg h1, List.getElem?_set]
      by_cases h2 : i = k
      · rw [if_pos h2, if_pos h2, if_pos hi, List.getD_eq_getElem?_getD, List.getElem?_eq_getElem hj]
        rfl
      · rw [if_neg h2, if_neg h2]
  have hp : (if j = k then i else if i = k then j else k) < L.length := by
    split
    · exact hi
    · split
      · exact hj
      · exact hk'
  refine ⟨_, hp, ?_, rfl⟩
  rw [List.getElem?_eq_getElem hk, List.getElem?_eq_getElem hp] at key
  exact Option.some.inj key
theorem swp_nodup {L : List Str} {i j : Nat} (h : L.Nodup) (hi : i < L.length) (hj : j < L.length) : (swp L i j).Nodup := by
  rw [List.nodup_iff_pairwise_ne, List.pairwise_iff_getElem]
  intro a b ha hb hab e
  obtain ⟨p, hp, e1, q1⟩ := swp_get hi hj ha
  obtain ⟨q, hq, e2, q2⟩ := swp_get hi hj hb
  rw [e1, e2] at e
  have := (List.nodup_iff_pairwise_ne.mp h)
  have inj : p = q := by
    rcases Nat.lt_trichotomy p q with w | w | w
    · exact absurd e (List.pairwise_iff_getElem.mp this p q hp hq w)
    · exact w
    · exact absurd e.symm (List.pairwise_iff_getElem.mp this q p hq hp w)
  split at q1 <;> split at q2 <;> (try split at q1) <;> (try split at q2) <;> omega
theorem swp_mem {L : List Str} {i j : Nat} (hi : i < L.length) (hj : j < L.length) : ∀ x ∈ swp L i j, x ∈ L := fun x hx => by
  obtain ⟨k, hk, rfl⟩ := List.getElem_of_mem hx
  obtain ⟨p, hp, e, _⟩ := swp_get hi hj hk
  rw [e]
  exact List.getElem_mem hp
theorem set_nodup {L : List Str} {i : Nat} {x : Str} (h : L.Nodup) (hi : i < L.length) (hx : x ∉ L ∨ x = L[i]) : (L.set i x).Nodup := by
  rcases hx with hx | rfl
  · rw [List.nodup_iff_pairwise_ne, List.pairwise_iff_getElem] at h ⊢
    intro a b ha hb hab e
    rw [List.length_set] at ha hb
    rw [List.getElem_set, List.getElem_set] at e
    split at e
    · split at e
      · omega
      · exact hx (by rw [e]; exact List.getElem_mem hb)
    · split at e
      · exact hx (by rw [← e]; exact List.getElem_mem ha)
      · exact h a b ha hb hab e
  · rw [List.set_getElem_self]
    exact h
theorem set_mem {L : List Str} {i : Nat} {x : Str} : ∀ y ∈ L.set i x, y ∈ L ∨ y = x := fun y hy => List.mem_or_eq_of_mem_set hy
theorem ixN_nat {n j : Nat} (h : j < n) : ixN n ((j : Nat) : Int) = some j := by
  unfold ixN
  rw [if_pos (by omega), if_pos (by omega)]
  rfl
theorem cut_d1 (xs : List V) : cutV xs (some 1) none = xs.drop 1 := by
  cases xs with
  | nil => rfl
  | cons x r => exact cut_one (by rw [List.length_cons]; omega)
theorem cut_t1 (xs : List V) : cutV xs none (some 1) = xs.take 1 := cut_pre (c := 1)
theorem cut_l1 (xs : List V) : cutV xs none (some (-1)) = xs.take (xs.length - 1) := by
  cases xs with
  | nil => rfl
  | cons x r => exact cut_lastV (by rw [List.length_cons]; omega)
section
variable {P : Program} {w : World} {K : PySem.W.Frag} {mg : Str → Option Value} {base : Heap} {Ps : List Addr}
def spBent (K : PySem.W.Frag) : Sp := fun vs H Q _ => ∃ (s0 f k : Addr) (l : List V) (n : Nat) (F kn : List Str), vs = [.ref s0, .ref f, .ref k] ∧ H s0 = some (.lst l) ∧ SrcV n l ∧ n + 300 ≤ 1000000 ∧ TupD H f (F.map V.str) ∧ H k = some (.lst (kn.map V.str)) ∧ s0 ≠ k ∧ F.Nodup ∧ F.length ≤ 300 ∧ kn.length ≤ 400 ∧
  (∀ x ∈ F, carB x = true) ∧ (∀ x ∈ kn, carB x = true) ∧ (F ≠ [] → kn ≠ []) ∧
  ∀ (H' : Hp) (p : Addr) (L : List Str) (l' : List V), Ch s0 H H' → H' s0 = some (.lst l') → SrcV (n + 5) l' → TupD H' p (L.map V.str) → L.Nodup → L.length ≤ 300 → (∀ x ∈ L, carB x = true) → Q (.ref p) H'
theorem ok_bent {f fT : Addr} {fd fdT : FuncData} (F : Fun K "_law_bent" "_law_bent" sBent f fd) (B : Bi mg)
    (GT : FnOk P w K mg base CX0 1 fT fdT ["bag", "limit"] spTake) (mgT : mg "_law_take" = some (.ref fT)) (kT : PySem.W.keepIn K (.ref fT) = true) (bT : Binds K fdT ["bag", "limit"] []) : FnOk P w K mg base CX0 2 f fd ["bag", "line", "folk"] (spBent K) := by
  refine F.ok scBent (fun vs H Q E h => ?_) (fun cdv A outer s H vs Q E hr h => ?_)
  · obtain ⟨s0, f, k, l, n, F, kn, rfl, _⟩ := h
    rfl
  · obtain ⟨s0, f, k, l, n, F, kn, rfl, hs, hl, hn, hF, hK, dsk, hnd, few, fewk, hc1, hc2, hne, q⟩ := h
    have hu : A.units + 3 + 64 < cLine := hr.units
    refine ⟨_, pss_cons (ps_set (i := 3) scBent.nd rfl (.inl rfl) (pe_call GT hr (by rfl) mgT kT bT .nil pass0 (pa_cons (pv 0) (pa_cons pe_int pa_nil))))
      (pss_cons (ps_set (i := 4) scBent.nd rfl (.inl rfl) (pe_callTy call_list_of (by rfl) B.lst (by decide +kernel) (pa_cons (pv 1) pa_nil)))
      (pss_cons (ps_if (PW.pt (pw_and (pt_cmpR op_lt (pv 3) pe_int (nomark _)) (pw_and1 (pt_cmpR op_gt (pe_callB call_len_seq (by rfl) B.len PySem.boot_len (pa_cons (pv 4) pa_nil)) pe_int (nomark _)))))
        (pss_cons (ps_set (i := 5) scBent.nd rfl (.inl rfl) (pe_call GT hr (by rfl) mgT kT bT .nil pass0 (pa_cons (pv 0) (pa_cons (pe_callB call_len_seq (by rfl) B.len PySem.boot_len (pa_cons (pv 4) pa_nil)) pa_nil))))
        (pss_cons (ps_set (i := 6) scBent.nd rfl (.inl rfl) (pe_ix ix_list (pe_lst (pa_cons (pe_call GT hr (by rfl) mgT kT bT .nil pass0 (pa_cons (pv 0) (pa_cons (pe_callB call_len_seq (by rfl) B.len PySem.boot_len (pa_cons (pv 4) pa_nil)) pa_nil))) (pa_cons (pe_op op_mod (pe_op op_add (pv 5) pe_int) (pe_callB call_len_seq (by rfl) B.len PySem.boot_len (pa_cons (pv 4) pa_nil))) pa_nil))) (pv 3) (fun _ _ => rfl)))
        (pss_one (ps_asg (pe_tup (pa_cons (pe_ix ix_list (pv 4) (pv 6) (fun _ _ => rfl)) (pa_cons (pe_ix ix_list (pv 4) (pv 5) (fun _ _ => rfl)) pa_nil))) (pg_tup (by rfl) (pgs_cons (pg_sub (pv 4) (pv 5) set_list) (pgs_cons (pg_sub (pv 4) (pv 6) set_list) pgs_nil))))))) pss_nil)
      (pss_cons (ps_if (pt_cmpR op_eq (pv 3) pe_int (nomark _)) (pss_one (ps_set (i := 4) scBent.nd rfl (.inl rfl) (pe_revL (pv 4)))) pss_nil)
      (pss_cons (ps_if (pt_cmpR op_eq (pv 3) pe_int (nomark _)) (pss_one (ps_set (i := 4) scBent.nd rfl (.inl rfl) (pe_op op_cat (pe_slice sl_list (pv 4) (po_some pe_int) po_none) (pe_slice sl_list (pv 4) po_none (po_some pe_int))))) pss_nil)
      (pss_cons (ps_if (PW.pt (pw_and (pt_cmpR op_eq (pv 3) pe_int (nomark _)) (pw_and1 (pt_cmpR (op_neD hu) (pv 4) (pe_lst pa_nil) (nomark _)))))
        (pss_cons (ps_set (i := 5) scBent.nd rfl (.inl rfl) (pe_call GT hr (by rfl) mgT kT bT .nil pass0 (pa_cons (pv 0) (pa_cons (pe_callB call_len_seq (by rfl) B.len PySem.boot_len (pa_cons (pv 4) pa_nil)) pa_nil))))
        (pss_cons (ps_set (i := 7) scBent.nd rfl (.inl rfl) (pe_ix ix_list (pv 2) (pe_call GT hr (by rfl) mgT kT bT .nil pass0 (pa_cons (pv 0) (pa_cons (pe_callB call_len_seq (by rfl) B.len PySem.boot_len (pa_cons (pv 2) pa_nil)) pa_nil))) (fun _ _ => rfl)))
        (pss_one (ps_asg (pe_ifExp (pt_cmpR op_notIn_seq (pv 7) (pv 4) (by rfl)) (pv 7) (pe_ix ix_list (pv 4) (pv 5) (fun _ _ => rfl))) (pg_sub (pv 4) (pv 5) set_list))))) pss_nil)
      (pss_cons (ps_if (pt_cmpR op_eq (pv 3) pe_int (nomark _)) (pss_one (ps_set (i := 4) scBent.nd rfl (.inl rfl) (pe_slice sl_list (pv 4) po_none (po_some (pe_un un_neg pe_int))))) pss_nil)
      (pss_one (ps_ret (pe_callTy call_tuple_ofD (by rfl) B.tup (by decide +kernel) (pa_cons (pv 4) pa_nil)))))))))), ?_⟩
    refine ⟨.ref s0, rfl, s0, l, n, 7, rfl, hs, hl, by omega, by decide, by decide, fun l2 r2 hl2 h20 h27 => ?_⟩
    have ch1 : Ch s0 H (upd H s0 (.lst l2)) := Ch.src
    have hs1 : (upd H s0 (.lst l2)) s0 = some (.lst l2) := upd_same
    have hF1 := ch1.tupD hF hs
    generalize upd H s0 (.lst l2) = H1 at ch1 hs1 hF1 ⊢
    refine ⟨.ref f, rfl, f, _, rfl, .inr hF1.sq, fun g hg => ?_⟩
    have hg0 : H g = none := ch1.free hs ⟨_, hs1⟩ hg
    have ch2 : Ch s0 H (upd H1 g (.lst (F.map V.str))) := ch1.new hg0
    have hgs : s0 ≠ g := ne_of_none hs1 hg
    have hkg : k ≠ g := ne_of_none hK hg0
    have hs2 : (upd H1 g (.lst (F.map V.str))) s0 = some (.lst l2) := by rw [upd_ne hgs]; exact hs1
    have hg2 : (upd H1 g (.lst (F.map V.str))) g = some (.lst (F.map V.str)) := upd_same
    generalize upd H1 g (.lst (F.map V.str)) = H2 at ch2 hs2 hg2 ⊢
    have fin : ∀ (H' : Hp) (p : Addr) (L : List Str) (l' : List V) (j : Nat), Ch s0 H H' → H' s0 = some (.lst l') → SrcV (n + j) l' → j ≤ 5 → H' p = some (.lst (L.map V.str)) → L.Nodup → L.length ≤ 300 → (∀ x ∈ L, carB x = true) →
        ∃ p' ys, [V.ref p] = [V.ref p'] ∧ SqL K H' p' ys ∧ ∀ (t : Addr) (ob : Obj), ob.dict = none → H' t = none → Q (.ref t) (upd H' t (.frz ob (.tup ys))) := fun H' p L l' j ch hs' hl' hj hp h1 h2 h3 =>
      ⟨p, _, rfl, SqL.of hp, fun t ob hob ht => q _ t L l' (ch.new (ch.free hs ⟨_, hs'⟩ ht)) (by rw [upd_ne (ne_of_none hs' ht)]; exact hs') (hl'.mono (by omega)) (TupD.of hob) h1 h2 h3⟩
    have cases7 : r2 = 0 ∨ r2 = 1 ∨ r2 = 2 ∨ r2 = 3 ∨ r2 = 4 ∨ r2 = 5 ∨ r2 = 6 := by omega
    rcases cases7 with rfl | rfl | rfl | rfl | rfl | rfl | rfl
    · -- exchanged
      refine ⟨_, rfl, _, _, rfl, rfl, _, rfl, ?_⟩
      rw [decide_eq_true (by decide)]
      refine iteT ⟨.ref g, rfl, g, _, rfl, .inl (SqL.of hg2), _, _, rfl, rfl, _, rfl, ?_⟩
      by_cases h1 : (1 : Int) < ((F.map V.str).length : Nat)
      case neg =>
        rw [decide_eq_false h1]
        refine iteF ?_
        refine ⟨_, rfl, rfl, _, rfl, ?_⟩
        rw [decide_eq_false (fun z => absurd (V.int.inj z) (by decide))]
        refine iteF ?_
        refine ⟨_, rfl, rfl, _, rfl, ?_⟩
        rw [decide_eq_false (fun z => absurd (V.int.inj z) (by decide))]
        refine iteF ?_
        refine ⟨_, rfl, rfl, _, rfl, ?_⟩
        rw [decide_eq_false (fun z => absurd (V.int.inj z) (by decide))]
        refine iteF (iteF ?_)
        refine ⟨_, rfl, rfl, _, rfl, ?_⟩
        rw [decide_eq_false (fun z => absurd (V.int.inj z) (by decide))]
        refine iteF ?_
        exact ⟨.ref g, rfl, fin _ g F l2 1 ch2 hs2 hl2 (by decide) hg2 hnd few hc1⟩
      rw [decide_eq_true h1]
      rw [List.length_map] at h1
      refine iteT ⟨.ref s0, rfl, .ref g, rfl, g, _, rfl, .inl (SqL.of hg2), ?_⟩
      refine ⟨s0, l2, n + 1, _, rfl, hs2, hl2, by omega, by rw [List.length_map]; omega, by rw [List.length_map]; omega, fun l3 r3 hl3 h0 h2 => ?_⟩
      rw [List.length_map] at h2
      obtain ⟨i, rfl⟩ : ∃ i : Nat, r3 = (i : Int) := ⟨r3.toNat, by omega⟩
      have hi : i < F.length := by omega
      have ch4 : Ch s0 H (upd H2 s0 (.lst l3)) := ch2.trans Ch.src
      have hs4 : (upd H2 s0 (.lst l3)) s0 = some (.lst l3) := upd_same
      have hg4 : (upd H2 s0 (.lst l3)) g = some (.lst (F.map V.str)) := by rw [upd_ne hgs.symm]; exact hg2
      generalize upd H2 s0 (.lst l3) = H4 at ch4 hs4 hg4 ⊢
      refine ⟨.ref s0, rfl, .ref g, rfl, g, _, rfl, .inl (SqL.of hg4), ?_⟩
      refine ⟨s0, l3, n + 1 + 1, _, rfl, hs4, hl3, by omega, by rw [List.length_map]; omega, by rw [List.length_map]; omega, fun l4 r4 hl4 h3 h4 => ?_⟩
      rw [List.length_map] at h4
      have ch5 : Ch s0 H (upd H4 s0 (.lst l4)) := ch4.trans Ch.src
      have hs5 : (upd H4 s0 (.lst l4)) s0 = some (.lst l4) := upd_same
      have hg5 : (upd H4 s0 (.lst l4)) g = some (.lst (F.map V.str)) := by rw [upd_ne hgs.symm]; exact hg4
      generalize upd H4 s0 (.lst l4) = H5 at ch5 hs5 hg5 ⊢
      refine ⟨_, rfl, _, _, rfl, rfl, .ref g, rfl, g, _, rfl, .inl (SqL.of hg5), _, _, rfl, rfl, (by rw [List.length_map]; show (0 : Int) < (F.length : Nat); omega), by show 2 ≤ sizeLine; decide, fun e he => ?_⟩
      obtain ⟨j, hj, hat⟩ : ∃ j : Nat, j < F.length ∧ atI [V.int r4, .int (((i : Nat) + 1 : Int) % ((F.map V.str).length : Nat))] 0 = some (.int ((j : Nat) : Int)) := by
        refine ⟨r4.toNat, by omega, ?_⟩
        rw [show ((r4.toNat : Nat) : Int) = r4 by omega]
        exact atI_nat (j := 0) rfl
      have smE : L2.Same H5 (upd H5 e (.lst [.int r4, .int (((i : Nat) + 1 : Int) % ((F.map V.str).length : Nat))])) := sm_new sm_refl he
      refine ⟨_, rfl, e, _, 0, _, rfl, rfl, SqL.of upd_same, hat, ?_⟩
      have ch6 := ch5.sm smE
      have hs6 := smE _ _ hs5
      have hg6 := smE _ _ hg5
      generalize upd H5 e (.lst [.int r4, .int (((i : Nat) + 1 : Int) % ((F.map V.str).length : Nat))]) = H6 at ch6 hs6 hg6 ⊢
      refine ⟨.ref g, rfl, _, rfl, g, _, ((j : Nat) : Int), .str F[j], rfl, rfl, SqL.of hg6, atI_nat (by rw [List.getElem?_map, List.getElem?_eq_getElem hj]; rfl), .ref g, rfl, _, rfl, g, _, ((i : Nat) : Int), .str F[i], rfl, rfl, SqL.of hg6, atI_nat (by rw [List.getElem?_map, List.getElem?_eq_getElem hi]; rfl), by show 2 ≤ sizeLine; decide, fun p hp => ?_⟩
      have smP : L2.Same H6 (upd H6 p (.tup [.str F[j], .str F[i]])) := sm_new sm_refl hp
      have ch7 := ch6.sm smP
      have hs7 := smP _ _ hs6
      have hg7 := smP _ _ hg6
      refine ⟨p, _, rfl, SqT.of upd_same, rfl, _, _, rfl, .ref g, rfl, _, rfl, g, _, ((i : Nat) : Int), i, rfl, rfl, hg7, ixN_nat (by rw [List.length_map]; exact hi), ?_⟩
      generalize upd H6 p (.tup [.str F[j], .str F[i]]) = H7 at ch7 hs7 hg7 ⊢
      refine ⟨_, _, rfl, .ref g, rfl, _, rfl, g, _, ((j : Nat) : Int), j, rfl, rfl, upd_same, ixN_nat (by rw [List.length_set, List.length_map]; exact hj), ?_⟩
      refine ⟨rfl, ?_⟩
      have hsw : ((F.map V.str).set i (.str F[j])).set j (.str F[i]) = (swp F i j).map V.str := by
        unfold swp
        rw [List.map_set, List.map_set, List.getD_eq_getElem?_getD, List.getD_eq_getElem?_getD, List.getElem?_eq_getElem hj, List.getElem?_eq_getElem hi]
        rfl
      refine ⟨_, rfl, rfl, _, rfl, ?_⟩
      rw [decide_eq_false (fun z => absurd (V.int.inj z) (by decide))]
      refine iteF ?_
      refine ⟨_, rfl, rfl, _, rfl, ?_⟩
      rw [decide_eq_false (fun z => absurd (V.int.inj z) (by decide))]
      refine iteF ?_
      refine ⟨_, rfl, rfl, _, rfl, ?_⟩
      rw [decide_eq_false (fun z => absurd (V.int.inj z) (by decide))]
      refine iteF (iteF ?_)
      refine ⟨_, rfl, rfl, _, rfl, ?_⟩
      rw [decide_eq_false (fun z => absurd (V.int.inj z) (by decide))]
      refine iteF ?_
      exact ⟨.ref g, rfl, fin _ g (swp F i j) l4 3 ((ch7.new hg0).new hg0) (by rw [upd_ne hgs, upd_ne hgs]; exact hs7) hl4 (by decide) (by rw [upd_same, hsw]) (swp_nodup hnd hi hj) (by unfold swp; rw [List.length_set, List.length_set]; exact few) fun x hx => hc1 x (swp_mem hi hj x hx)⟩
    · -- exchanged
      refine ⟨_, rfl, _, _, rfl, rfl, _, rfl, ?_⟩
      rw [decide_eq_true (by decide)]
      refine iteT ⟨.ref g, rfl, g, _, rfl, .inl (SqL.of hg2), _, _, rfl, rfl, _, rfl, ?_⟩
      by_cases h1 : (1 : Int) < ((F.map V.str).length : Nat)
      case neg =>
        rw [decide_eq_false h1]
        refine iteF ?_
        refine ⟨_, rfl, rfl, _, rfl, ?_⟩
        rw [decide_eq_false (fun z => absurd (V.int.inj z) (by decide))]
        refine iteF ?_
        refine ⟨_, rfl, rfl, _, rfl, ?_⟩
        rw [decide_eq_false (fun z => absurd (V.int.inj z) (by decide))]
        refine iteF ?_
        refine ⟨_, rfl, rfl, _, rfl, ?_⟩
        rw [decide_eq_false (fun z => absurd (V.int.inj z) (by decide))]
        refine iteF (iteF ?_)
        refine ⟨_, rfl, rfl, _, rfl, ?_⟩
        rw [decide_eq_false (fun z => absurd (V.int.inj z) (by decide))]
        refine iteF ?_
        exact ⟨.ref g, rfl, fin _ g F l2 1 ch2 hs2 hl2 (by decide) hg2 hnd few hc1⟩
      rw [decide_eq_true h1]
      rw [List.length_map] at h1
      refine iteT ⟨.ref s0, rfl, .ref g, rfl, g, _, rfl, .inl (SqL.of hg2), ?_⟩
      refine ⟨s0, l2, n + 1, _, rfl, hs2, hl2, by omega, by rw [List.length_map]; omega, by rw [List.length_map]; omega, fun l3 r3 hl3 h0 h2 => ?_⟩
      rw [List.length_map] at h2
      obtain ⟨i, rfl⟩ : ∃ i : Nat, r3 = (i : Int) := ⟨r3.toNat, by omega⟩
      have hi : i < F.length := by omega
      have ch4 : Ch s0 H (upd H2 s0 (.lst l3)) := ch2.trans Ch.src
      have hs4 : (upd H2 s0 (.lst l3)) s0 = some (.lst l3) := upd_same
      have hg4 : (upd H2 s0 (.lst l3)) g = some (.lst (F.map V.str)) := by rw [upd_ne hgs.symm]; exact hg2
      generalize upd H2 s0 (.lst l3) = H4 at ch4 hs4 hg4 ⊢
      refine ⟨.ref s0, rfl, .ref g, rfl, g, _, rfl, .inl (SqL.of hg4), ?_⟩
      refine ⟨s0, l3, n + 1 + 1, _, rfl, hs4, hl3, by omega, by rw [List.length_map]; omega, by rw [List.length_map]; omega, fun l4 r4 hl4 h3 h4 => ?_⟩
      rw [List.length_map] at h4
      have ch5 : Ch s0 H (upd H4 s0 (.lst l4)) := ch4.trans Ch.src
      have hs5 : (upd H4 s0 (.lst l4)) s0 = some (.lst l4) := upd_same
      have hg5 : (upd H4 s0 (.lst l4)) g = some (.lst (F.map V.str)) := by rw [upd_ne hgs.symm]; exact hg4
      generalize upd H4 s0 (.lst l4) = H5 at ch5 hs5 hg5 ⊢
      refine ⟨_, rfl, _, _, rfl, rfl, .ref g, rfl, g, _, rfl, .inl (SqL.of hg5), _, _, rfl, rfl, (by rw [List.length_map]; show (0 : Int) < (F.length : Nat); omega), by show 2 ≤ sizeLine; decide, fun e he => ?_⟩
      obtain ⟨j, hj, hat⟩ : ∃ j : Nat, j < F.length ∧ atI [V.int r4, .int (((i : Nat) + 1 : Int) % ((F.map V.str).length : Nat))] 1 = some (.int ((j : Nat) : Int)) := by
        have hm0 : (0 : Int) ≤ ((i : Nat) + 1 : Int) % ((F.map V.str).length : Nat) := Int.emod_nonneg _ (by rw [List.length_map]; omega)
        have hm1 : ((i : Nat) + 1 : Int) % ((F.map V.str).length : Nat) < ((F.map V.str).length : Nat) := Int.emod_lt_of_pos _ (by rw [List.length_map]; omega)
        refine ⟨(((i : Nat) + 1 : Int) % ((F.map V.str).length : Nat)).toNat, ?_, ?_⟩
        · have h5 := hm1
          rw [List.length_map] at h5
          rw [List.length_map] at hm0 ⊢
          omega
        · rw [show (((((i : Nat) + 1 : Int) % ((F.map V.str).length : Nat)).toNat : Nat) : Int) = ((i : Nat) + 1 : Int) % ((F.map V.str).length : Nat) by omega]
          exact atI_nat (j := 1) rfl
      have smE : L2.Same H5 (upd H5 e (.lst [.int r4, .int (((i : Nat) + 1 : Int) % ((F.map V.str).length : Nat))])) := sm_new sm_refl he
      refine ⟨_, rfl, e, _, 1, _, rfl, rfl, SqL.of upd_same, hat, ?_⟩
      have ch6 := ch5.sm smE
      have hs6 := smE _ _ hs5
      have hg6 := smE _ _ hg5
      generalize upd H5 e (.lst [.int r4, .int (((i : Nat) + 1 : Int) % ((F.map V.str).length : Nat))]) = H6 at ch6 hs6 hg6 ⊢
      refine ⟨.ref g, rfl, _, rfl, g, _, ((j : Nat) : Int), .str F[j], rfl, rfl, SqL.of hg6, atI_nat (by rw [List.getElem?_map, List.getElem?_eq_getElem hj]; rfl), .ref g, rfl, _, rfl, g, _, ((i : Nat) : Int), .str F[i], rfl, rfl, SqL.of hg6, atI_nat (by rw [List.getElem?_map, List.getElem?_eq_getElem hi]; rfl), by show 2 ≤ sizeLine; decide, fun p hp => ?_⟩
      have smP : L2.Same H6 (upd H6 p (.tup [.str F[j], .str F[i]])) := sm_new sm_refl hp
      have ch7 := ch6.sm smP
      have hs7 := smP _ _ hs6
      have hg7 := smP _ _ hg6
      refine ⟨p, _, rfl, SqT.of upd_same, rfl, _, _, rfl, .ref g, rfl, _, rfl, g, _, ((i : Nat) : Int), i, rfl, rfl, hg7, ixN_nat (by rw [List.length_map]; exact hi), ?_⟩
      generalize upd H6 p (.tup [.str F[j], .str F[i]]) = H7 at ch7 hs7 hg7 ⊢
      refine ⟨_, _, rfl, .ref g, rfl, _, rfl, g, _, ((j : Nat) : Int), j, rfl, rfl, upd_same, ixN_nat (by rw [List.length_set, List.length_map]; exact hj), ?_⟩
      refine ⟨rfl, ?_⟩
      have hsw : ((F.map V.str).set i (.str F[j])).set j (.str F[i]) = (swp F i j).map V.str := by
        unfold swp
        rw [List.map_set, List.map_set, List.getD_eq_getElem?_getD, List.getD_eq_getElem?_getD, List.getElem?_eq_getElem hj, List.getElem?_eq_getElem hi]
        rfl
      refine ⟨_, rfl, rfl, _, rfl, ?_⟩
      rw [decide_eq_false (fun z => absurd (V.int.inj z) (by decide))]
      refine iteF ?_
      refine ⟨_, rfl, rfl, _, rfl, ?_⟩
      rw [decide_eq_false (fun z => absurd (V.int.inj z) (by decide))]
      refine iteF ?_
      refine ⟨_, rfl, rfl, _, rfl, ?_⟩
      rw [decide_eq_false (fun z => absurd (V.int.inj z) (by decide))]
      refine iteF (iteF ?_)
      refine ⟨_, rfl, rfl, _, rfl, ?_⟩
      rw [decide_eq_false (fun z => absurd (V.int.inj z) (by decide))]
      refine iteF ?_
      exact ⟨.ref g, rfl, fin _ g (swp F i j) l4 3 ((ch7.new hg0).new hg0) (by rw [upd_ne hgs, upd_ne hgs]; exact hs7) hl4 (by decide) (by rw [upd_same, hsw]) (swp_nodup hnd hi hj) (by unfold swp; rw [List.length_set, List.length_set]; exact few) fun x hx => hc1 x (swp_mem hi hj x hx)⟩
    · -- reversed
      refine ⟨_, rfl, _, _, rfl, rfl, _, rfl, ?_⟩
      rw [decide_eq_false (by decide)]
      refine iteF (iteF ?_)
      refine ⟨_, rfl, rfl, _, rfl, ?_⟩
      rw [decide_eq_true rfl]
      refine iteT ?_
      refine ⟨.ref g, rfl, g, _, rfl, SqL.of hg2, fun p hp => ?_⟩
      have ch3 : Ch s0 H (upd H2 p (.lst (F.map V.str).reverse)) := ch2.new (ch2.free hs ⟨_, hs2⟩ hp)
      refine ⟨_, rfl, rfl, _, rfl, ?_⟩
      rw [decide_eq_false (fun z => absurd (V.int.inj z) (by decide))]
      refine iteF ?_
      refine ⟨_, rfl, rfl, _, rfl, ?_⟩
      rw [decide_eq_false (fun z => absurd (V.int.inj z) (by decide))]
      refine iteF (iteF ?_)
      refine ⟨_, rfl, rfl, _, rfl, ?_⟩
      rw [decide_eq_false (fun z => absurd (V.int.inj z) (by decide))]
      refine iteF ?_
      refine ⟨.ref p, rfl, fin _ p F.reverse l2 1 ch3 (by rw [upd_ne (ne_of_none hs2 hp)]; exact hs2) hl2 (by decide) (by rw [upd_same, List.map_reverse]) ((List.reverse_perm F).nodup_iff.mpr hnd) (by rw [List.length_reverse]; exact few) fun x hx => hc1 x (List.mem_reverse.mp hx)⟩
    · -- rotated
      refine ⟨_, rfl, _, _, rfl, rfl, _, rfl, ?_⟩
      rw [decide_eq_false (by decide)]
      refine iteF (iteF ?_)
      refine ⟨_, rfl, rfl, _, rfl, ?_⟩
      rw [decide_eq_false (fun z => absurd (V.int.inj z) (by decide))]
      refine iteF ?_
      refine ⟨_, rfl, rfl, _, rfl, ?_⟩
      rw [decide_eq_true rfl]
      refine iteT ?_
      refine ⟨.ref g, rfl, 1, rfl, g, _, rfl, SqL.of hg2, fun p hp => ?_⟩
      rw [cut_d1]
      have sm3 : L2.Same H2 (upd H2 p (.lst ((F.map V.str).drop 1))) := sm_new sm_refl hp
      have hp3 : (upd H2 p (.lst ((F.map V.str).drop 1))) p = some (.lst ((F.map V.str).drop 1)) := upd_same
      generalize upd H2 p (.lst ((F.map V.str).drop 1)) = H3 at sm3 hp3 ⊢
      refine ⟨.ref g, rfl, 1, rfl, g, _, rfl, SqL.of (sm3 _ _ hg2), fun p2 hp2 => ?_⟩
      rw [cut_t1]
      have sm4 : L2.Same H3 (upd H3 p2 (.lst ((F.map V.str).take 1))) := sm_new sm_refl hp2
      have hp4 : (upd H3 p2 (.lst ((F.map V.str).take 1))) p2 = some (.lst ((F.map V.str).take 1)) := upd_same
      generalize upd H3 p2 (.lst ((F.map V.str).take 1)) = H4 at sm4 hp4 ⊢
      refine ⟨p, p2, _, _, rfl, rfl, sm4 _ _ hp3, hp4, ?_, fun p5 hp5 => ?_⟩
      · rw [List.length_drop, List.length_take, List.length_map]
        exact Nat.le_of_lt (small1000 (by omega))
      have sm5 : L2.Same H4 (upd H4 p5 (.lst ((F.map V.str).drop 1 ++ (F.map V.str).take 1))) := sm_new sm_refl hp5
      have sm25 := sm_trans sm3 (sm_trans sm4 sm5)
      have hpm : (F.drop 1 ++ F.take 1).Perm F := by
        have := List.perm_append_comm (l₁ := F.drop 1) (l₂ := F.take 1)
        rw [List.take_append_drop] at this
        exact this
      refine ⟨_, rfl, rfl, _, rfl, ?_⟩
      rw [decide_eq_false (fun z => absurd (V.int.inj z) (by decide))]
      refine iteF (iteF ?_)
      refine ⟨_, rfl, rfl, _, rfl, ?_⟩
      rw [decide_eq_false (fun z => absurd (V.int.inj z) (by decide))]
      refine iteF ?_
      refine ⟨.ref p5, rfl, fin _ p5 (F.drop 1 ++ F.take 1) l2 1 (ch2.sm sm25) (sm25 _ _ hs2) hl2 (by decide) (by rw [upd_same, List.map_append, List.map_drop, List.map_take]) (hpm.nodup_iff.mpr hnd) (by rw [hpm.length_eq]; exact few) fun x hx => hc1 x (hpm.mem_iff.mp hx)⟩
    · -- one replaced
      refine ⟨_, rfl, _, _, rfl, rfl, _, rfl, ?_⟩
      rw [decide_eq_false (by decide)]
      refine iteF (iteF ?_)
      refine ⟨_, rfl, rfl, _, rfl, ?_⟩
      rw [decide_eq_false (fun z => absurd (V.int.inj z) (by decide))]
      refine iteF ?_
      refine ⟨_, rfl, rfl, _, rfl, ?_⟩
      rw [decide_eq_false (fun z => absurd (V.int.inj z) (by decide))]
      refine iteF ?_
      refine ⟨_, rfl, rfl, _, rfl, ?_⟩
      rw [decide_eq_true rfl]
      refine iteT ⟨.ref g, rfl, Nat.zero_le _, fun e he => ?_⟩
      have smE : L2.Same H2 (upd H2 e (.lst [])) := sm_new sm_refl he
      refine ⟨.list (F.map PyData.str), .list [], .lst (SqL.of (smE _ _ hg2)) (dp_str _), .lst (SqL.of upd_same) .nil, shaped_strs _ (fun x hx => car_ok (hc1 x hx)), shaped_strs [] (fun _ h => nomatch h), _, rfl, ?_⟩
      rw [eqv_nilS]
      have ch3 := ch2.sm smE
      have hs3 := smE _ _ hs2
      have hg3 := smE _ _ hg2
      generalize upd H2 e (.lst []) = H3 at ch3 hs3 hg3 ⊢
      by_cases hF0 : F = []
      · rw [decide_eq_true hF0]
        refine iteF ?_
        refine ⟨_, rfl, rfl, _, rfl, ?_⟩
        rw [decide_eq_false (fun z => absurd (V.int.inj z) (by decide))]
        refine iteF ?_
        exact ⟨.ref g, rfl, fin _ g F l2 1 ch3 hs3 hl2 (by decide) hg3 hnd few hc1⟩
      · rw [decide_eq_false hF0]
        have hpos : 0 < F.length := List.length_pos_iff.mpr hF0
        have hposk : 0 < kn.length := List.length_pos_iff.mpr (hne hF0)
        refine iteT ⟨.ref s0, rfl, .ref g, rfl, g, _, rfl, .inl (SqL.of hg3), ?_⟩
        refine ⟨s0, l2, n + 1, _, rfl, hs3, hl2, by omega, by rw [List.length_map]; omega, by rw [List.length_map]; omega, fun l3 r3 hl3 h0 h1 => ?_⟩
        rw [List.length_map] at h1
        obtain ⟨i, rfl⟩ : ∃ i : Nat, r3 = (i : Int) := ⟨r3.toNat, by omega⟩
        have hi : i < F.length := by omega
        have ch4 : Ch s0 H (upd H3 s0 (.lst l3)) := ch3.trans Ch.src
        have hs4 : (upd H3 s0 (.lst l3)) s0 = some (.lst l3) := upd_same
        have hg4 : (upd H3 s0 (.lst l3)) g = some (.lst (F.map V.str)) := by rw [upd_ne hgs.symm]; exact hg3
        generalize upd H3 s0 (.lst l3) = H4 at ch4 hs4 hg4 ⊢
        have hk4 : H4 k = some (.lst (kn.map V.str)) := ch4 _ _ hK dsk.symm
        refine ⟨.ref k, rfl, .ref s0, rfl, .ref k, rfl, k, _, rfl, .inl (SqL.of hk4), ?_⟩
        refine ⟨s0, l3, n + 1 + 1, _, rfl, hs4, hl3, by omega, by rw [List.length_map]; omega, by rw [List.length_map]; omega, fun l4 r4 hl4 h2 h3 => ?_⟩
        rw [List.length_map] at h3
        obtain ⟨j, rfl⟩ : ∃ j : Nat, r4 = (j : Int) := ⟨r4.toNat, by omega⟩
        have hj : j < kn.length := by omega
        have ch5 : Ch s0 H (upd H4 s0 (.lst l4)) := ch4.trans Ch.src
        have hs5 : (upd H4 s0 (.lst l4)) s0 = some (.lst l4) := upd_same
        have hg5 : (upd H4 s0 (.lst l4)) g = some (.lst (F.map V.str)) := by rw [upd_ne hgs.symm]; exact hg4
        have hk5 : (upd H4 s0 (.lst l4)) k = some (.lst (kn.map V.str)) := by rw [upd_ne dsk.symm]; exact hk4
        generalize upd H4 s0 (.lst l4) = H5 at ch5 hs5 hg5 hk5 ⊢
        refine ⟨k, _, ((j : Nat) : Int), .str kn[j], rfl, rfl, SqL.of hk5, atI_nat (by rw [List.getElem?_map, List.getElem?_eq_getElem hj]; rfl), ?_⟩
        have put : ∀ x : Str, (x ∉ F ∨ x = F[i]) → carB x = true → Ch s0 H (upd H5 g (.lst ((F.map V.str).set i (.str x)))) ∧ (upd H5 g (.lst ((F.map V.str).set i (.str x)))) s0 = some (.lst l4) ∧ (upd H5 g (.lst ((F.map V.str).set i (.str x)))) g = some (.lst ((F.set i x).map V.str)) ∧ (F.set i x).Nodup ∧ (F.set i x).length ≤ 300 ∧ ∀ y ∈ F.set i x, carB y = true := fun x hx hcx =>
          ⟨ch5.new hg0, by rw [upd_ne hgs]; exact hs5, by rw [upd_same, List.map_set], set_nodup hnd hi hx, by rw [List.length_set]; exact few, fun y hy => by
            rcases set_mem y hy with w | w
            · exact hc1 y w
            · rw [w]; exact hcx⟩
        refine ⟨_, rfl, .ref g, rfl, g, _, rfl, .inl (SqL.of hg5), rfl, flat_strs F, _, rfl, ?_⟩
        show if (!inV (.str kn[j]) (F.map V.str)) = true then _ else _
        rw [inV_strs]
        refine ite2 (fun hz => ?_) (fun hz => ?_)
        · obtain ⟨a1, a2, a3, a4, a5, a6⟩ := put kn[j] (.inl (by simpa using hz)) (hc2 _ (List.getElem_mem hj))
          refine ⟨_, rfl, .ref g, rfl, _, rfl, g, _, ((i : Nat) : Int), i, rfl, rfl, hg5, ixN_nat (by rw [List.length_map]; exact hi), ?_⟩
          refine ⟨_, rfl, rfl, _, rfl, ?_⟩
          rw [decide_eq_false (fun z => absurd (V.int.inj z) (by decide))]
          refine iteF ?_
          exact ⟨.ref g, rfl, fin _ g _ l4 3 a1 a2 hl4 (by decide) a3 a4 a5 a6⟩
        · obtain ⟨a1, a2, a3, a4, a5, a6⟩ := put F[i] (.inr rfl) (hc1 _ (List.getElem_mem hi))
          refine ⟨.ref g, rfl, _, rfl, g, _, ((i : Nat) : Int), .str F[i], rfl, rfl, SqL.of hg5, atI_nat (by rw [List.getElem?_map, List.getElem?_eq_getElem hi]; rfl), .ref g, rfl, _, rfl, g, _, ((i : Nat) : Int), i, rfl, rfl, hg5, ixN_nat (by rw [List.length_map]; exact hi), ?_⟩
          refine ⟨_, rfl, rfl, _, rfl, ?_⟩
          rw [decide_eq_false (fun z => absurd (V.int.inj z) (by decide))]
          refine iteF ?_
          exact ⟨.ref g, rfl, fin _ g _ l4 3 a1 a2 hl4 (by decide) a3 a4 a5 a6⟩
    · -- one less
      refine ⟨_, rfl, _, _, rfl, rfl, _, rfl, ?_⟩
      rw [decide_eq_false (by decide)]
      refine iteF (iteF ?_)
      refine ⟨_, rfl, rfl, _, rfl, ?_⟩
      rw [decide_eq_false (fun z => absurd (V.int.inj z) (by decide))]
      refine iteF ?_
      refine ⟨_, rfl, rfl, _, rfl, ?_⟩
      rw [decide_eq_false (fun z => absurd (V.int.inj z) (by decide))]
      refine iteF ?_
      refine ⟨_, rfl, rfl, _, rfl, ?_⟩
      rw [decide_eq_false (fun z => absurd (V.int.inj z) (by decide))]
      refine iteF (iteF ?_)
      refine ⟨_, rfl, rfl, _, rfl, ?_⟩
      rw [decide_eq_true rfl]
      refine iteT ?_
      refine ⟨.ref g, rfl, 1, rfl, -1, rfl, g, _, rfl, SqL.of hg2, fun p hp => ?_⟩
      rw [cut_l1]
      have sm3 : L2.Same H2 (upd H2 p (.lst ((F.map V.str).take ((F.map V.str).length - 1)))) := sm_new sm_refl hp
      refine ⟨.ref p, rfl, fin _ p (F.take (F.length - 1)) l2 1 (ch2.sm sm3) (sm3 _ _ hs2) hl2 (by decide) (by rw [upd_same, List.map_take, List.length_map]) (hnd.sublist (List.take_sublist _ _)) (by rw [List.length_take]; omega) fun x hx => hc1 x (List.mem_of_mem_take hx)⟩
    · -- unchanged
      refine ⟨_, rfl, _, _, rfl, rfl, _, rfl, ?_⟩
      rw [decide_eq_false (by decide)]
      refine iteF (iteF ?_)
      refine ⟨_, rfl, rfl, _, rfl, ?_⟩
      rw [decide_eq_false (fun z => absurd (V.int.inj z) (by decide))]
      refine iteF ?_
      refine ⟨_, rfl, rfl, _, rfl, ?_⟩
      rw [decide_eq_false (fun z => absurd (V.int.inj z) (by decide))]
      refine iteF ?_
      refine ⟨_, rfl, rfl, _, rfl, ?_⟩
      rw [decide_eq_false (fun z => absurd (V.int.inj z) (by decide))]
      refine iteF (iteF ?_)
      refine ⟨_, rfl, rfl, _, rfl, ?_⟩
      rw [decide_eq_false (fun z => absurd (V.int.inj z) (by decide))]
      refine iteF ?_
      exact ⟨.ref g, rfl, fin _ g F l2 1 ch2 hs2 hl2 (by decide) hg2 hnd few hc1⟩
end
end Ln


set_option Elab.async false
set_option linter.all false
set_option maxRecDepth 100000
set_option maxHeartbeats 8000000
namespace Ln
open PySem PySem.Spec PyProof.Rows L2 GxR
theorem scSided : FnScope ["bag", "line", "folk", "initial", "found", "name"] ["bag", "line", "folk", "initial"] (defScope sSided) := ⟨rfl, rfl, rfl, by decide +kernel, rfl, by decide +kernel, by decide +kernel⟩
theorem cut_p14 {xs : List V} {c : Nat} : cutV xs none (some (c : Int)) = xs.take c := by
  unfold cutV
  rw [HT.sIx_none, List.drop_zero, Nat.sub_zero, show HT.sIx xs.length xs.length (some (c : Int)) = min c xs.length from HT.sIx_nat _ _ c]
  rw [List.take_eq_take_iff]
  omega
theorem cut_d14 {xs : List V} {c : Nat} : cutV xs (some (c : Int)) none = xs.drop c := by
  unfold cutV
  rw [show HT.sIx xs.length 0 (some (c : Int)) = min c xs.length from HT.sIx_nat _ _ c, HT.sIx_none]
  by_cases h : c ≤ xs.length
  · rw [Nat.min_eq_left h, List.take_of_length_le (by rw [List.length_drop]; omega)]
  · rw [Nat.min_eq_right (by omega), Nat.sub_self, List.take_zero, List.drop_eq_nil_of_le (by omega : xs.length ≤ c)]
section
variable {P : Program} {w : World} {K : PySem.W.Frag} {mg : Str → Option Value} {base : Heap} {Ps : List Addr}
def spSided (K : PySem.W.Frag) : Sp := fun vs H Q _ => ∃ (s0 f k a : Addr) (l : List V) (n : Nat) (F kn xs : List Str), vs = [.ref s0, .ref f, .ref k, .ref a] ∧ H s0 = some (.lst l) ∧ SrcV n l ∧ n + 500 ≤ 1000000 ∧ TupD H f (F.map V.str) ∧ H k = some (.lst (kn.map V.str)) ∧ s0 ≠ k ∧ TupD H a (xs.map V.str) ∧ F.Nodup ∧ F.length ≤ 300 ∧ kn.Nodup ∧ kn.length ≤ 300 ∧
  (∀ x ∈ F, carB x = true) ∧ (∀ x ∈ kn, carB x = true) ∧
  ∀ (H' : Hp) (p : Addr) (L : List Str) (l' : List V), Ch s0 H H' → H' s0 = some (.lst l') → SrcV (n + 302) l' → TupD H' p (L.map V.str) → L.Nodup → L.length ≤ F.length + kn.length → (∀ x ∈ L, carB x = true) → Q (.ref p) H'
theorem ok_sided {f0 fT : Addr} {fd fdT : FuncData} (F0 : Fun K "_law_sided" "_law_sided" sSided f0 fd) (B : Bi mg) (B2 : Bl mg)
    (GT : FnOk P w K mg base CX0 1 fT fdT ["bag", "limit"] spTake) (mgT : mg "_law_take" = some (.ref fT)) (kT : PySem.W.keepIn K (.ref fT) = true) (bT : Binds K fdT ["bag", "limit"] []) : FnOk P w K mg base CX0 2 f0 fd ["bag", "line", "folk", "initial"] (spSided K) := by
  refine F0.ok scSided (fun vs H Q E h => ?_) (fun cdv A outer s H vs Q E hr h => ?_)
  · obtain ⟨s0, f, k, a, l, n, F, kn, xs, rfl, _⟩ := h
    rfl
  · obtain ⟨s0, f, k, a, l, n, F, kn, xs, rfl, hs, hl, hn, hF, hK, dsk, hA, hnd, few, knd, fewk, hcF, hc2, q⟩ := h
    refine ⟨_, (pss_cons (ps_setLc (i := 4) (own := [("name", 5)]) (g := gName 5) (tt := (tTest (tOp (rIn K false) (tVar 5) (tVar 3)))) (te := (tVar 5)) (by rfl) scSided.nd rfl rfl (sw_true rfl rfl rfl (by decide +kernel)) (pi_tup (pv 1)) (blkOk_by (own := [("name", 5)]) (N := ["bag", "line", "folk", "initial", "found", "name"]) (sc := defScope sSided) (by decide +kernel)) (fun _ _ _ _ _ => (pg_name (i := 5) scSided.nd rfl (Or.inl rfl))) (fun _ _ _ _ _ => pts_one (pt_cmpR op_in_seq (pv 5) (pv 3) (by rfl))) (fun _ _ _ _ _ => (pv 5)))
      (pss_cons (ps_if (pt_cmpR op_eq (pe_call GT hr (by rfl) mgT kT bT .nil pass0 (pa_cons (pv 0) (pa_cons pe_int pa_nil))) pe_int (nomark _))
        (pss_cons (ps_set (i := 1) scSided.nd rfl (.inl rfl) (pe_ifExp (pt_cmpR op_eq (pe_call GT hr (by rfl) mgT kT bT .nil pass0 (pa_cons (pv 0) (pa_cons pe_int pa_nil))) pe_int (nomark _)) (pe_slice sl_list (pv 2) (po_some (pe_callB (call_max2 rfl) (by rfl) B2.max (by decide +kernel) (pa_cons pe_int (pa_cons (pe_op op_sub (pe_callB call_len_seq (by rfl) B.len PySem.boot_len (pa_cons (pv 2) pa_nil)) (pe_callB call_len_seq (by rfl) B.len PySem.boot_len (pa_cons (pv 1) pa_nil))) pa_nil)))) po_none) (pe_slice sl_list (pv 2) po_none (po_some (pe_callB call_len_seq (by rfl) B.len PySem.boot_len (pa_cons (pv 1) pa_nil))))))
        (pss_one (ps_setLc (i := 4) (own := [("name", 5)]) (g := gName 5) (tt := (tTest (tOp (rIn K false) (tVar 5) (tVar 3)))) (te := (tVar 5)) (by rfl) scSided.nd rfl rfl (sw_true rfl rfl rfl (by decide +kernel)) (pi_list (pv 1)) (blkOk_by (own := [("name", 5)]) (N := ["bag", "line", "folk", "initial", "found", "name"]) (sc := defScope sSided) (by decide +kernel)) (fun _ _ _ _ _ => (pg_name (i := 5) scSided.nd rfl (Or.inl rfl))) (fun _ _ _ _ _ => pts_one (pt_cmpR op_in_seq (pv 5) (pv 3) (by rfl))) (fun _ _ _ _ _ => (pv 5)))))
        pss_nil)
      (pss_cons (ps_for PassesOwn.never rfl (pi_list (pv 2)) (pg_name (i := 5) scSided.nd rfl (.inl rfl))
        (pss_one (ps_if (PW.pt (pw_and (pt_cmpR op_in_seq (pv 5) (pv 1) (by rfl)) (pw_and1 (pt_cmpR op_notIn_seq (pv 5) (pv 3) (by rfl)))))
          (pss_one (ps_set (i := 4) scSided.nd rfl (.inl rfl) (pe_ifExp (pt_cmpR op_eq (pe_call GT hr (by rfl) mgT kT bT .nil pass0 (pa_cons (pv 0) (pa_cons pe_int pa_nil))) pe_int (nomark _)) (pe_op op_cat (pe_lst (pa_cons (pv 5) pa_nil)) (pv 4)) (pe_op op_cat (pv 4) (pe_lst (pa_cons (pv 5) pa_nil))))))
          pss_nil)))
      (pss_one (ps_ret (pe_callTy call_tuple_ofD (by rfl) B.tup (by decide +kernel) (pa_cons (pv 4) pa_nil))))))), ?_⟩
    refine ⟨.ref f, rfl, f, rfl, ⟨_, hF.sq⟩, fun D hDn => ?_⟩
    refine lc_tup (K := K) (a := f) (xs := F.map V.str) (fun i H' => L2.Same H H' ∧ H' D = some (.lst ((keepL (F.take i) xs).map V.str))) ⟨sm_new sm_refl hDn, upd_same⟩ (fun i H' _ q => (hF.same q.1).sq) ?_ ?_
    · rintro i y H' hi ⟨sm, hD'⟩
      have hlt : i < F.length := by
        have h1 := (List.getElem?_eq_some_iff.mp hi).1
        rw [List.length_map] at h1
        omega
      have hc : F[i]? = some F[i] := List.getElem?_eq_getElem hlt
      rw [List.getElem?_map, hc] at hi
      obtain rfl := Option.some.inj hi
      have hft := filt_take F xs i _ hc
      refine ⟨rfl, _, rfl, .ref a, rfl, a, _, rfl, .inr ((hA).same sm).sq, rfl, flat_strs xs, _, rfl, ?_⟩
      show if inV (.str F[i]) (xs.map V.str) = true then _ else _
      rw [inV_strs]
      by_cases hin : F[i] ∈ xs
      · rw [decide_eq_true hin]
        rw [if_pos hin] at hft
        refine iteT ⟨_, rfl, _, hD', ?_, sm_upd sm hDn, ?_⟩
        · rw [List.length_map]
          have := List.length_filter_le (fun c => decide (c ∈ xs)) (F.take i)
          rw [List.length_take] at this
          show (List.filter _ _).length < _
          exact small1000 (by omega)
        · rw [upd_same]
          show _ = some (HO.lst ((List.filter _ (F.take (i + 1))).map V.str))
          rw [hft, List.map_append]
          rfl
      · rw [decide_eq_false hin]
        rw [if_neg hin, List.append_nil] at hft
        refine iteF ⟨sm, ?_⟩
        show H' D = some (HO.lst ((List.filter _ (F.take (i + 1))).map V.str))
        rw [hft]
        exact hD'

    rintro H1 ⟨sm1, hD1⟩
    rw [List.length_map, List.take_length] at hD1
    have hs1 := sm1 _ _ hs
    have ch1 : Ch s0 H H1 := fun b o e _ => sm1 _ _ e
    refine ⟨.ref s0, rfl, s0, l, n, 3, rfl, hs1, hl, by omega, by decide, by decide, fun l2 r2 hl2 _ _ => ⟨rfl, _, rfl, ?_⟩⟩
    have ch2 : Ch s0 H (upd H1 s0 (.lst l2)) := ch1.trans Ch.src
    have hs2 : (upd H1 s0 (.lst l2)) s0 = some (.lst l2) := upd_same
    have hD2 : (upd H1 s0 (.lst l2)) D = some (.lst ((keepL F xs).map V.str)) := by rw [upd_ne (ne_of_none hs hDn).symm]; exact hD1
    clear hs1 ch1
    generalize upd H1 s0 (.lst l2) = H2 at ch2 hs2 hD2 ⊢
    refine ite2 (fun hz => ?_) (fun hz => ?_)
    · refine ⟨.ref s0, rfl, s0, l2, n + 1, 2, rfl, hs2, hl2, by omega, by decide, by decide, fun l1 r3 hl1 _ _ => ⟨rfl, _, rfl, ?_⟩⟩
      have ch4 : Ch s0 H (upd H2 s0 (.lst l1)) := ch2.trans Ch.src
      have hs4 : (upd H2 s0 (.lst l1)) s0 = some (.lst l1) := upd_same
      generalize upd H2 s0 (.lst l1) = H4 at ch4 hs4 ⊢
      refine ite2 (fun hz => ?_) (fun hz => ?_)
      ·
        have hk4 := ch4 _ _ hK dsk.symm
        have hF4 := ch4.tupD hF hs
        have hA4 := ch4.tupD hA hs

        have ecut : cutV (kn.map V.str) (some (if (0 : Int) < ((kn.map V.str).length : Nat) - ((F.map V.str).length : Nat) then ((kn.map V.str).length : Nat) - ((F.map V.str).length : Nat) else 0)) none = (kn.drop (kn.length - F.length)).map V.str := by
          rw [List.length_map, List.length_map, show (if (0 : Int) < (kn.length : Nat) - (F.length : Nat) then ((kn.length : Nat) : Int) - (F.length : Nat) else 0) = (((kn.length - F.length) : Nat) : Int) by split <;> omega, cut_d14, List.map_drop]
        refine ⟨.ref k, rfl, .ref k, rfl, k, _, rfl, .inl (SqL.of hk4), .ref f, rfl, f, _, rfl, .inr hF4.sq, _, _, rfl, rfl, _, _, rfl, _, rfl, k, _, rfl, SqL.of hk4, fun u hu => ?_⟩
        rw [ecut]

        have hsu : L2.Same H4 (upd H4 u (.lst ((kn.drop (kn.length - F.length)).map V.str))) := sm_new sm_refl hu
        have hu5 : (upd H4 u (.lst ((kn.drop (kn.length - F.length)).map V.str))) u = some (.lst ((kn.drop (kn.length - F.length)).map V.str)) := upd_same
        have hfs : u ≠ s0 := (ne_of_none hs4 hu).symm
        generalize upd H4 u (.lst ((kn.drop (kn.length - F.length)).map V.str)) = H5 at hsu hu5 ⊢
        have ch5 := ch4.sm hsu
        have hs5 := hsu _ _ hs4
        have hA5 := hA4.same hsu
        have hGl : (kn.drop (kn.length - F.length)).length ≤ F.length := by rw [List.length_drop]; omega
        have hGn : (kn.drop (kn.length - F.length)).Nodup := knd.sublist (List.drop_sublist _ _)
        have hGc : ∀ x ∈ (kn.drop (kn.length - F.length)), carB x = true := fun x hx => hc2 x (List.mem_of_mem_drop hx)
        clear hD1

        refine ⟨.ref u, rfl, u, rfl, ⟨_, SqL.of hu5⟩, fun D hDn => ?_⟩
        refine lc_list (K := K) (a := u) (xs := (kn.drop (kn.length - F.length)).map V.str) (fun i H' => L2.Same H5 H' ∧ H' D = some (.lst ((keepL ((kn.drop (kn.length - F.length)).take i) xs).map V.str))) ⟨sm_new sm_refl hDn, upd_same⟩ (fun i H' _ q => SqL.of (q.1 _ _ hu5)) ?_ ?_
        · rintro i y H' hi ⟨sm, hD'⟩
          have hlt : i < (kn.drop (kn.length - F.length)).length := by
            have h1 := (List.getElem?_eq_some_iff.mp hi).1
            rw [List.length_map] at h1
            omega
          have hc : (kn.drop (kn.length - F.length))[i]? = some (kn.drop (kn.length - F.length))[i] := List.getElem?_eq_getElem hlt
          rw [List.getElem?_map, hc] at hi
          obtain rfl := Option.some.inj hi
          have hft := filt_take (kn.drop (kn.length - F.length)) xs i _ hc
          refine ⟨rfl, _, rfl, .ref a, rfl, a, _, rfl, .inr ((hA5).same sm).sq, rfl, flat_strs xs, _, rfl, ?_⟩
          show if inV (.str (kn.drop (kn.length - F.length))[i]) (xs.map V.str) = true then _ else _
          rw [inV_strs]
          by_cases hin : (kn.drop (kn.length - F.length))[i] ∈ xs
          · rw [decide_eq_true hin]
            rw [if_pos hin] at hft
            refine iteT ⟨_, rfl, _, hD', ?_, sm_upd sm hDn, ?_⟩
            · rw [List.length_map]
              have := List.length_filter_le (fun c => decide (c ∈ xs)) ((kn.drop (kn.length - F.length)).take i)
              rw [List.length_take] at this
              show (List.filter _ _).length < _
              exact small1000 (by omega)
            · rw [upd_same]
              show _ = some (HO.lst ((List.filter _ ((kn.drop (kn.length - F.length)).take (i + 1))).map V.str))
              rw [hft, List.map_append]
              rfl
          · rw [decide_eq_false hin]
            rw [if_neg hin, List.append_nil] at hft
            refine iteF ⟨sm, ?_⟩
            show H' D = some (HO.lst ((List.filter _ ((kn.drop (kn.length - F.length)).take (i + 1))).map V.str))
            rw [hft]
            exact hD'

        rintro H6 ⟨sm6, hD1⟩
        rw [List.length_map, List.take_length] at hD1
        have ch1 := ch5.sm sm6
        have hs1 := sm6 _ _ hs5
        have hu1 := sm6 _ _ hu5
        have hDs : D ≠ s0 := (ne_of_none hs5 hDn).symm
        clear sm1
        generalize H6 = H1 at ch1 hs1 hu1 hD1 sm6

        have hk1 := ch1 _ _ hK dsk.symm
        have gl : (keepL (kn.drop (kn.length - F.length)) xs).length ≤ F.length := Nat.le_trans (List.length_filter_le _ _) hGl
        refine ⟨.ref k, rfl, k, rfl, ⟨_, SqL.of hk1⟩, for_list (K := K) (a := k) (xs := kn.map V.str) (fun j σ H' => ∃ (p : Addr) (L : List Str) (l' : List V) (v6 : Option V), σ = [some (V.ref s0), some (.ref u), some (.ref k), some (.ref a), some (.ref p), v6] ∧
          p ≠ s0 ∧ Ch s0 H H' ∧ Ch s0 H1 H' ∧ H' s0 = some (.lst l') ∧ SrcV ((n + 1 + 1) + j) l' ∧ j ≤ kn.length ∧ H' p = some (.lst (L.map V.str)) ∧ L.Nodup ∧ L.length ≤ F.length + j ∧ (∀ x ∈ L, carB x = true) ∧ (∀ x ∈ L, x ∈ xs ∨ x ∈ kn.take j)) ?_ ?_ ?_ ?_⟩
        · exact ⟨D, keepL (kn.drop (kn.length - F.length)) xs, _, none, rfl, hDs, ch1, Ch.refl, hs1, hl1, Nat.zero_le _, hD1, hGn.filter _, gl, fun x hx => hGc x (List.mem_filter.mp hx).1, fun x hx => .inl (of_decide_eq_true (List.mem_filter.mp hx).2)⟩
        · rintro j σ H' _ ⟨_, _, _, _, _, _, ch, _⟩
          exact SqL.of (ch _ _ hK dsk.symm)
        · rintro j x σ H' hj ⟨p, L, l', v6, rfl, hps, ch, hch, hs', hl', hje, hp, h1, h2, h3, h4⟩
          have hlt : j < kn.length := by
            have h1 := (List.getElem?_eq_some_iff.mp hj).1
            rw [List.length_map] at h1
            omega
          have hgx : kn[j]? = some kn[j] := List.getElem?_eq_getElem hlt
          rw [List.getElem?_map, hgx] at hj
          obtain rfl := Option.some.inj hj
          have hA' := ch.tupD hA hs
          have htk : kn.take (j + 1) = kn.take j ++ [kn[j]] := by rw [List.take_add_one, hgx]; rfl
          have stay : ∃ (p' : Addr) (L' : List Str) (l'' : List V) (v6' : Option V), [some (V.ref s0), some (.ref u), some (.ref k), some (.ref a), some (.ref p), some (.str kn[j])] = [some (V.ref s0), some (.ref u), some (.ref k), some (.ref a), some (.ref p'), v6'] ∧
              p' ≠ s0 ∧ Ch s0 H H' ∧ Ch s0 H1 H' ∧ H' s0 = some (.lst l'') ∧ SrcV ((n + 1 + 1) + (j + 1)) l'' ∧ j + 1 ≤ kn.length ∧ H' p' = some (.lst (L'.map V.str)) ∧ L'.Nodup ∧ L'.length ≤ F.length + (j + 1) ∧ (∀ x ∈ L', carB x = true) ∧ (∀ x ∈ L', x ∈ xs ∨ x ∈ kn.take (j + 1)) :=
            ⟨p, L, l', _, rfl, hps, ch, hch, hs', hl'.mono (by omega), hlt, hp, h1, by omega, h3, fun x hx => (h4 x hx).imp id fun z => by rw [htk]; exact List.mem_append_left _ z⟩
          refine ⟨_, rfl, .ref u, rfl, u, _, rfl, .inl (SqL.of (hch _ _ hu1 hfs)), rfl, flat_strs (kn.drop (kn.length - F.length)), _, rfl, ?_⟩
          show if inV (.str kn[j]) ((kn.drop (kn.length - F.length)).map V.str) = true then _ else _
          rw [inV_strs]
          by_cases hin : kn[j] ∈ (kn.drop (kn.length - F.length))
          case neg =>
            rw [decide_eq_false hin]
            exact iteF (iteF stay)
          rw [decide_eq_true hin]
          refine iteT ⟨_, rfl, .ref a, rfl, a, _, rfl, .inr hA'.sq, rfl, flat_strs xs, _, rfl, ?_⟩
          show if (!inV (.str kn[j]) (xs.map V.str)) = true then _ else _
          rw [inV_strs]
          by_cases hix : kn[j] ∈ xs
          · rw [decide_eq_true hix]
            exact iteF stay
          rw [decide_eq_false hix]
          refine iteT ?_
          refine ⟨.ref s0, rfl, s0, l', (n + 1 + 1) + j, 2, rfl, hs', hl', by omega, by decide, by decide, fun l3 r3 hl3 _ _ => ⟨rfl, _, rfl, ?_⟩⟩
          have ch3 : Ch s0 H (upd H' s0 (.lst l3)) := ch.trans Ch.src
          have hch3 : Ch s0 H1 (upd H' s0 (.lst l3)) := hch.trans Ch.src
          have hs3 : (upd H' s0 (.lst l3)) s0 = some (.lst l3) := upd_same
          have hp3 : (upd H' s0 (.lst l3)) p = some (.lst (L.map V.str)) := by rw [upd_ne hps]; exact hp
          generalize upd H' s0 (.lst l3) = H3 at ch3 hch3 hs3 hp3 ⊢
          have hnL : kn[j] ∉ L := fun z => by
            rcases h4 _ z with w | w
            · exact hix w
            · have hn2 := knd.sublist (List.take_sublist (j + 1) kn)
              rw [htk] at hn2
              exact (List.nodup_append.mp hn2).2.2 _ w _ (List.mem_singleton.mpr rfl) rfl
          have done : ∀ (H6 : Hp) (p6 : Addr) (Lb : List Str), p6 ≠ s0 → L2.Same H3 H6 → H6 p6 = some (.lst (Lb.map V.str)) → (Lb = kn[j] :: L ∨ Lb = L ++ [kn[j]]) → ∃ (p' : Addr) (L' : List Str) (l'' : List V) (v6' : Option V), [some (V.ref s0), some (.ref u), some (.ref k), some (.ref a), some (.ref p6), some (.str kn[j])] = [some (V.ref s0), some (.ref u), some (.ref k), some (.ref a), some (.ref p'), v6'] ∧
              p' ≠ s0 ∧ Ch s0 H H6 ∧ Ch s0 H1 H6 ∧ H6 s0 = some (.lst l'') ∧ SrcV ((n + 1 + 1) + (j + 1)) l'' ∧ j + 1 ≤ kn.length ∧ H6 p' = some (.lst (L'.map V.str)) ∧ L'.Nodup ∧ L'.length ≤ F.length + (j + 1) ∧ (∀ x ∈ L', carB x = true) ∧ (∀ x ∈ L', x ∈ xs ∨ x ∈ kn.take (j + 1)) := fun H6 p6 Lb n6 sm h6 hL2 => by
            have hpm : Lb.Perm (kn[j] :: L) := by
              rcases hL2 with rfl | rfl
              · exact List.Perm.refl _
              · exact List.perm_append_singleton _ _
            refine ⟨p6, Lb, l3, _, rfl, n6, ch3.sm sm, hch3.sm sm, sm _ _ hs3, hl3, hlt, h6, hpm.nodup_iff.mpr (List.nodup_cons.mpr ⟨hnL, h1⟩), by rw [hpm.length_eq, List.length_cons]; omega, fun x hx => ?_, fun x hx => ?_⟩
            · rcases List.mem_cons.mp (hpm.mem_iff.mp hx) with w | w
              · rw [w]
                exact hc2 _ (List.getElem_mem hlt)
              · exact h3 x w
            · rcases List.mem_cons.mp (hpm.mem_iff.mp hx) with w | w
              · rw [w, htk]
                exact .inr (List.mem_append_right _ (List.mem_singleton.mpr rfl))
              · exact (h4 x w).imp id fun z => by rw [htk]; exact List.mem_append_left _ z
          refine ite2 (fun hz => ?_) (fun hz => ?_)
          · refine ⟨_, rfl, by show 1 ≤ sizeLine; decide, fun p5 hp5 => ?_⟩
            have sm5 : L2.Same H3 (upd H3 p5 (.lst [.str kn[j]])) := sm_new sm_refl hp5
            refine ⟨.ref p, rfl, p5, p, _, _, rfl, rfl, upd_same, sm5 _ _ hp3, ?_, fun p6 hp6 => ?_⟩
            · rw [List.length_map]
              show 1 + L.length ≤ sizeLine
              exact Nat.le_of_lt (small1000 (by omega))
            exact done _ p6 (kn[j] :: L) (ne_of_none (sm5 _ _ hs3) hp6).symm (sm_trans sm5 (sm_new sm_refl hp6)) upd_same (.inl rfl)
          · refine ⟨.ref p, rfl, _, rfl, by show 1 ≤ sizeLine; decide, fun p5 hp5 => ?_⟩
            have sm5 : L2.Same H3 (upd H3 p5 (.lst [.str kn[j]])) := sm_new sm_refl hp5
            refine ⟨p, p5, _, _, rfl, rfl, sm5 _ _ hp3, upd_same, ?_, fun p6 hp6 => ?_⟩
            · rw [List.length_map]
              show L.length + 1 ≤ sizeLine
              exact Nat.le_of_lt (small1000 (by omega))
            exact done _ p6 (L ++ [kn[j]]) (ne_of_none (sm5 _ _ hs3) hp6).symm (sm_trans sm5 (sm_new sm_refl hp6)) (by rw [upd_same, List.map_append]; rfl) (.inr rfl)
        · rintro σ H' ⟨p, L, l', v6, rfl, hps, ch, hch, hs', hl', hje, hp, h1, h2, h3, h4⟩
          rw [List.length_map] at hl' h2
          exact ⟨.ref p, rfl, p, _, rfl, SqL.of hp, fun t ob hob ht => q _ t L l' (ch.new (ch.free hs ⟨_, hs'⟩ ht)) (by rw [upd_ne (ne_of_none hs' ht)]; exact hs') (hl'.mono (by omega)) (TupD.of hob) h1 (by omega) h3⟩

      ·
        have hk4 := ch4 _ _ hK dsk.symm
        have hF4 := ch4.tupD hF hs
        have hA4 := ch4.tupD hA hs

        have ecut : cutV (kn.map V.str) none (some (((F.map V.str).length : Nat) : Int)) = (kn.take F.length).map V.str := by
          rw [List.length_map, cut_p14, List.map_take]
        refine ⟨.ref k, rfl, .ref f, rfl, f, _, rfl, .inr hF4.sq, _, rfl, k, _, rfl, SqL.of hk4, fun u hu => ?_⟩
        rw [ecut]

        have hsu : L2.Same H4 (upd H4 u (.lst ((kn.take F.length).map V.str))) := sm_new sm_refl hu
        have hu5 : (upd H4 u (.lst ((kn.take F.length).map V.str))) u = some (.lst ((kn.take F.length).map V.str)) := upd_same
        have hfs : u ≠ s0 := (ne_of_none hs4 hu).symm
        generalize upd H4 u (.lst ((kn.take F.length).map V.str)) = H5 at hsu hu5 ⊢
        have ch5 := ch4.sm hsu
        have hs5 := hsu _ _ hs4
        have hA5 := hA4.same hsu
        have hGl : (kn.take F.length).length ≤ F.length := by rw [List.length_take]; omega
        have hGn : (kn.take F.length).Nodup := knd.sublist (List.take_sublist _ _)
        have hGc : ∀ x ∈ (kn.take F.length), carB x = true := fun x hx => hc2 x (List.mem_of_mem_take hx)
        clear hD1

        refine ⟨.ref u, rfl, u, rfl, ⟨_, SqL.of hu5⟩, fun D hDn => ?_⟩
        refine lc_list (K := K) (a := u) (xs := (kn.take F.length).map V.str) (fun i H' => L2.Same H5 H' ∧ H' D = some (.lst ((keepL ((kn.take F.length).take i) xs).map V.str))) ⟨sm_new sm_refl hDn, upd_same⟩ (fun i H' _ q => SqL.of (q.1 _ _ hu5)) ?_ ?_
        · rintro i y H' hi ⟨sm, hD'⟩
          have hlt : i < (kn.take F.length).length := by
            have h1 := (List.getElem?_eq_some_iff.mp hi).1
            rw [List.length_map] at h1
            omega
          have hc : (kn.take F.length)[i]? = some (kn.take F.length)[i] := List.getElem?_eq_getElem hlt
          rw [List.getElem?_map, hc] at hi
          obtain rfl := Option.some.inj hi
          have hft := filt_take (kn.take F.length) xs i _ hc
          refine ⟨rfl, _, rfl, .ref a, rfl, a, _, rfl, .inr ((hA5).same sm).sq, rfl, flat_strs xs, _, rfl, ?_⟩
          show if inV (.str (kn.take F.length)[i]) (xs.map V.str) = true then _ else _
          rw [inV_strs]
          by_cases hin : (kn.take F.length)[i] ∈ xs
          · rw [decide_eq_true hin]
            rw [if_pos hin] at hft
            refine iteT ⟨_, rfl, _, hD', ?_, sm_upd sm hDn, ?_⟩
            · rw [List.length_map]
              have := List.length_filter_le (fun c => decide (c ∈ xs)) ((kn.take F.length).take i)
              rw [List.length_take] at this
              show (List.filter _ _).length < _
              exact small1000 (by omega)
            · rw [upd_same]
              show _ = some (HO.lst ((List.filter _ ((kn.take F.length).take (i + 1))).map V.str))
              rw [hft, List.map_append]
              rfl
          · rw [decide_eq_false hin]
            rw [if_neg hin, List.append_nil] at hft
            refine iteF ⟨sm, ?_⟩
            show H' D = some (HO.lst ((List.filter _ ((kn.take F.length).take (i + 1))).map V.str))
            rw [hft]
            exact hD'

        rintro H6 ⟨sm6, hD1⟩
        rw [List.length_map, List.take_length] at hD1
        have ch1 := ch5.sm sm6
        have hs1 := sm6 _ _ hs5
        have hu1 := sm6 _ _ hu5
        have hDs : D ≠ s0 := (ne_of_none hs5 hDn).symm
        clear sm1
        generalize H6 = H1 at ch1 hs1 hu1 hD1 sm6

        have hk1 := ch1 _ _ hK dsk.symm
        have gl : (keepL (kn.take F.length) xs).length ≤ F.length := Nat.le_trans (List.length_filter_le _ _) hGl
        refine ⟨.ref k, rfl, k, rfl, ⟨_, SqL.of hk1⟩, for_list (K := K) (a := k) (xs := kn.map V.str) (fun j σ H' => ∃ (p : Addr) (L : List Str) (l' : List V) (v6 : Option V), σ = [some (V.ref s0), some (.ref u), some (.ref k), some (.ref a), some (.ref p), v6] ∧
          p ≠ s0 ∧ Ch s0 H H' ∧ Ch s0 H1 H' ∧ H' s0 = some (.lst l') ∧ SrcV ((n + 1 + 1) + j) l' ∧ j ≤ kn.length ∧ H' p = some (.lst (L.map V.str)) ∧ L.Nodup ∧ L.length ≤ F.length + j ∧ (∀ x ∈ L, carB x = true) ∧ (∀ x ∈ L, x ∈ xs ∨ x ∈ kn.take j)) ?_ ?_ ?_ ?_⟩
        · exact ⟨D, keepL (kn.take F.length) xs, _, none, rfl, hDs, ch1, Ch.refl, hs1, hl1, Nat.zero_le _, hD1, hGn.filter _, gl, fun x hx => hGc x (List.mem_filter.mp hx).1, fun x hx => .inl (of_decide_eq_true (List.mem_filter.mp hx).2)⟩
        · rintro j σ H' _ ⟨_, _, _, _, _, _, ch, _⟩
          exact SqL.of (ch _ _ hK dsk.symm)
        · rintro j x σ H' hj ⟨p, L, l', v6, rfl, hps, ch, hch, hs', hl', hje, hp, h1, h2, h3, h4⟩
          have hlt : j < kn.length := by
            have h1 := (List.getElem?_eq_some_iff.mp hj).1
            rw [List.length_map] at h1
            omega
          have hgx : kn[j]? = some kn[j] := List.getElem?_eq_getElem hlt
          rw [List.getElem?_map, hgx] at hj
          obtain rfl := Option.some.inj hj
          have hA' := ch.tupD hA hs
          have htk : kn.take (j + 1) = kn.take j ++ [kn[j]] := by rw [List.take_add_one, hgx]; rfl
          have stay : ∃ (p' : Addr) (L' : List Str) (l'' : List V) (v6' : Option V), [some (V.ref s0), some (.ref u), some (.ref k), some (.ref a), some (.ref p), some (.str kn[j])] = [some (V.ref s0), some (.ref u), some (.ref k), some (.ref a), some (.ref p'), v6'] ∧
              p' ≠ s0 ∧ Ch s0 H H' ∧ Ch s0 H1 H' ∧ H' s0 = some (.lst l'') ∧ SrcV ((n + 1 + 1) + (j + 1)) l'' ∧ j + 1 ≤ kn.length ∧ H' p' = some (.lst (L'.map V.str)) ∧ L'.Nodup ∧ L'.length ≤ F.length + (j + 1) ∧ (∀ x ∈ L', carB x = true) ∧ (∀ x ∈ L', x ∈ xs ∨ x ∈ kn.take (j + 1)) :=
            ⟨p, L, l', _, rfl, hps, ch, hch, hs', hl'.mono (by omega), hlt, hp, h1, by omega, h3, fun x hx => (h4 x hx).imp id fun z => by rw [htk]; exact List.mem_append_left _ z⟩
          refine ⟨_, rfl, .ref u, rfl, u, _, rfl, .inl (SqL.of (hch _ _ hu1 hfs)), rfl, flat_strs (kn.take F.length), _, rfl, ?_⟩
          show if inV (.str kn[j]) ((kn.take F.length).map V.str) = true then _ else _
          rw [inV_strs]
          by_cases hin : kn[j] ∈ (kn.take F.length)
          case neg =>
            rw [decide_eq_false hin]
            exact iteF (iteF stay)
          rw [decide_eq_true hin]
          refine iteT ⟨_, rfl, .ref a, rfl, a, _, rfl, .inr hA'.sq, rfl, flat_strs xs, _, rfl, ?_⟩
          show if (!inV (.str kn[j]) (xs.map V.str)) = true then _ else _
          rw [inV_strs]
          by_cases hix : kn[j] ∈ xs
          · rw [decide_eq_true hix]
            exact iteF stay
          rw [decide_eq_false hix]
          refine iteT ?_
          refine ⟨.ref s0, rfl, s0, l', (n + 1 + 1) + j, 2, rfl, hs', hl', by omega, by decide, by decide, fun l3 r3 hl3 _ _ => ⟨rfl, _, rfl, ?_⟩⟩
          have ch3 : Ch s0 H (upd H' s0 (.lst l3)) := ch.trans Ch.src
          have hch3 : Ch s0 H1 (upd H' s0 (.lst l3)) := hch.trans Ch.src
          have hs3 : (upd H' s0 (.lst l3)) s0 = some (.lst l3) := upd_same
          have hp3 : (upd H' s0 (.lst l3)) p = some (.lst (L.map V.str)) := by rw [upd_ne hps]; exact hp
          generalize upd H' s0 (.lst l3) = H3 at ch3 hch3 hs3 hp3 ⊢
          have hnL : kn[j] ∉ L := fun z => by
            rcases h4 _ z with w | w
            · exact hix w
            · have hn2 := knd.sublist (List.take_sublist (j + 1) kn)
              rw [htk] at hn2
              exact (List.nodup_append.mp hn2).2.2 _ w _ (List.mem_singleton.mpr rfl) rfl
          have done : ∀ (H6 : Hp) (p6 : Addr) (Lb : List Str), p6 ≠ s0 → L2.Same H3 H6 → H6 p6 = some (.lst (Lb.map V.str)) → (Lb = kn[j] :: L ∨ Lb = L ++ [kn[j]]) → ∃ (p' : Addr) (L' : List Str) (l'' : List V) (v6' : Option V), [some (V.ref s0), some (.ref u), some (.ref k), some (.ref a), some (.ref p6), some (.str kn[j])] = [some (V.ref s0), some (.ref u), some (.ref k), some (.ref a), some (.ref p'), v6'] ∧
              p' ≠ s0 ∧ Ch s0 H H6 ∧ Ch s0 H1 H6 ∧ H6 s0 = some (.lst l'') ∧ SrcV ((n + 1 + 1) + (j + 1)) l'' ∧ j + 1 ≤ kn.length ∧ H6 p' = some (.lst (L'.map V.str)) ∧ L'.Nodup ∧ L'.length ≤ F.length + (j + 1) ∧ (∀ x ∈ L', carB x = true) ∧ (∀ x ∈ L', x ∈ xs ∨ x ∈ kn.take (j + 1)) := fun H6 p6 Lb n6 sm h6 hL2 => by
            have hpm : Lb.Perm (kn[j] :: L) := by
              rcases hL2 with rfl | rfl
              · exact List.Perm.refl _
              · exact List.perm_append_singleton _ _
            refine ⟨p6, Lb, l3, _, rfl, n6, ch3.sm sm, hch3.sm sm, sm _ _ hs3, hl3, hlt, h6, hpm.nodup_iff.mpr (List.nodup_cons.mpr ⟨hnL, h1⟩), by rw [hpm.length_eq, List.length_cons]; omega, fun x hx => ?_, fun x hx => ?_⟩
            · rcases List.mem_cons.mp (hpm.mem_iff.mp hx) with w | w
              · rw [w]
                exact hc2 _ (List.getElem_mem hlt)
              · exact h3 x w
            · rcases List.mem_cons.mp (hpm.mem_iff.mp hx) with w | w
              · rw [w, htk]
                exact .inr (List.mem_append_right _ (List.mem_singleton.mpr rfl))
              · exact (h4 x w).imp id fun z => by rw [htk]; exact List.mem_append_left _ z
          refine ite2 (fun hz => ?_) (fun hz => ?_)
          · refine ⟨_, rfl, by show 1 ≤ sizeLine; decide, fun p5 hp5 => ?_⟩
            have sm5 : L2.Same H3 (upd H3 p5 (.lst [.str kn[j]])) := sm_new sm_refl hp5
            refine ⟨.ref p, rfl, p5, p, _, _, rfl, rfl, upd_same, sm5 _ _ hp3, ?_, fun p6 hp6 => ?_⟩
            · rw [List.length_map]
              show 1 + L.length ≤ sizeLine
              exact Nat.le_of_lt (small1000 (by omega))
            exact done _ p6 (kn[j] :: L) (ne_of_none (sm5 _ _ hs3) hp6).symm (sm_trans sm5 (sm_new sm_refl hp6)) upd_same (.inl rfl)
          · refine ⟨.ref p, rfl, _, rfl, by show 1 ≤ sizeLine; decide, fun p5 hp5 => ?_⟩
            have sm5 : L2.Same H3 (upd H3 p5 (.lst [.str kn[j]])) := sm_new sm_refl hp5
            refine ⟨p, p5, _, _, rfl, rfl, sm5 _ _ hp3, upd_same, ?_, fun p6 hp6 => ?_⟩
            · rw [List.length_map]
              show L.length + 1 ≤ sizeLine
              exact Nat.le_of_lt (small1000 (by omega))
            exact done _ p6 (L ++ [kn[j]]) (ne_of_none (sm5 _ _ hs3) hp6).symm (sm_trans sm5 (sm_new sm_refl hp6)) (by rw [upd_same, List.map_append]; rfl) (.inr rfl)
        · rintro σ H' ⟨p, L, l', v6, rfl, hps, ch, hch, hs', hl', hje, hp, h1, h2, h3, h4⟩
          rw [List.length_map] at hl' h2
          exact ⟨.ref p, rfl, p, _, rfl, SqL.of hp, fun t ob hob ht => q _ t L l' (ch.new (ch.free hs ⟨_, hs'⟩ ht)) (by rw [upd_ne (ne_of_none hs' ht)]; exact hs') (hl'.mono (by omega)) (TupD.of hob) h1 (by omega) h3⟩

    · have hGl : F.length ≤ F.length := Nat.le_refl _
      have hGn := hnd
      have hGc := hcF
      have hDs : D ≠ s0 := (ne_of_none hs hDn).symm
      have hl1 := hl2
      clear hD1 sm1 hl
      generalize H2 = H1 at ch2 hs2 hD2
      have hD1 := hD2
      have ch1 := ch2
      have hs1 := hs2
      have hk1 := ch1 _ _ hK dsk.symm
      have gl : (keepL F xs).length ≤ F.length := Nat.le_trans (List.length_filter_le _ _) hGl
      refine ⟨.ref k, rfl, k, rfl, ⟨_, SqL.of hk1⟩, for_list (K := K) (a := k) (xs := kn.map V.str) (fun j σ H' => ∃ (p : Addr) (L : List Str) (l' : List V) (v6 : Option V), σ = [some (V.ref s0), some (.ref f), some (.ref k), some (.ref a), some (.ref p), v6] ∧
        p ≠ s0 ∧ Ch s0 H H' ∧ Ch s0 H1 H' ∧ H' s0 = some (.lst l') ∧ SrcV ((n + 1) + j) l' ∧ j ≤ kn.length ∧ H' p = some (.lst (L.map V.str)) ∧ L.Nodup ∧ L.length ≤ F.length + j ∧ (∀ x ∈ L, carB x = true) ∧ (∀ x ∈ L, x ∈ xs ∨ x ∈ kn.take j)) ?_ ?_ ?_ ?_⟩
      · exact ⟨D, keepL F xs, _, none, rfl, hDs, ch1, Ch.refl, hs1, hl1, Nat.zero_le _, hD1, hGn.filter _, gl, fun x hx => hGc x (List.mem_filter.mp hx).1, fun x hx => .inl (of_decide_eq_true (List.mem_filter.mp hx).2)⟩
      · rintro j σ H' _ ⟨_, _, _, _, _, _, ch, _⟩
        exact SqL.of (ch _ _ hK dsk.symm)
      · rintro j x σ H' hj ⟨p, L, l', v6, rfl, hps, ch, hch, hs', hl', hje, hp, h1, h2, h3, h4⟩
        have hlt : j < kn.length := by
          have h1 := (List.getElem?_eq_some_iff.mp hj).1
          rw [List.length_map] at h1
          omega
        have hgx : kn[j]? = some kn[j] := List.getElem?_eq_getElem hlt
        rw [List.getElem?_map, hgx] at hj
        obtain rfl := Option.some.inj hj
        have hA' := ch.tupD hA hs
        have htk : kn.take (j + 1) = kn.take j ++ [kn[j]] := by rw [List.take_add_one, hgx]; rfl
        have stay : ∃ (p' : Addr) (L' : List Str) (l'' : List V) (v6' : Option V), [some (V.ref s0), some (.ref f), some (.ref k), some (.ref a), some (.ref p), some (.str kn[j])] = [some (V.ref s0), some (.ref f), some (.ref k), some (.ref a), some (.ref p'), v6'] ∧
            p' ≠ s0 ∧ Ch s0 H H' ∧ Ch s0 H1 H' ∧ H' s0 = some (.lst l'') ∧ SrcV ((n + 1) + (j + 1)) l'' ∧ j + 1 ≤ kn.length ∧ H' p' = some (.lst (L'.map V.str)) ∧ L'.Nodup ∧ L'.length ≤ F.length + (j + 1) ∧ (∀ x ∈ L', carB x = true) ∧ (∀ x ∈ L', x ∈ xs ∨ x ∈ kn.take (j + 1)) :=
          ⟨p, L, l', _, rfl, hps, ch, hch, hs', hl'.mono (by omega), hlt, hp, h1, by omega, h3, fun x hx => (h4 x hx).imp id fun z => by rw [htk]; exact List.mem_append_left _ z⟩
        refine ⟨_, rfl, .ref f, rfl, f, _, rfl, .inr (ch.tupD hF hs).sq, rfl, flat_strs F, _, rfl, ?_⟩
        show if inV (.str kn[j]) (F.map V.str) = true then _ else _
        rw [inV_strs]
        by_cases hin : kn[j] ∈ F
        case neg =>
          rw [decide_eq_false hin]
          exact iteF (iteF stay)
        rw [decide_eq_true hin]
        refine iteT ⟨_, rfl, .ref a, rfl, a, _, rfl, .inr hA'.sq, rfl, flat_strs xs, _, rfl, ?_⟩
        show if (!inV (.str kn[j]) (xs.map V.str)) = true then _ else _
        rw [inV_strs]
        by_cases hix : kn[j] ∈ xs
        · rw [decide_eq_true hix]
          exact iteF stay
        rw [decide_eq_false hix]
        refine iteT ?_
        refine ⟨.ref s0, rfl, s0, l', (n + 1) + j, 2, rfl, hs', hl', by omega, by decide, by decide, fun l3 r3 hl3 _ _ => ⟨rfl, _, rfl, ?_⟩⟩
        have ch3 : Ch s0 H (upd H' s0 (.lst l3)) := ch.trans Ch.src
        have hch3 : Ch s0 H1 (upd H' s0 (.lst l3)) := hch.trans Ch.src
        have hs3 : (upd H' s0 (.lst l3)) s0 = some (.lst l3) := upd_same
        have hp3 : (upd H' s0 (.lst l3)) p = some (.lst (L.map V.str)) := by rw [upd_ne hps]; exact hp
        generalize upd H' s0 (.lst l3) = H3 at ch3 hch3 hs3 hp3 ⊢
        have hnL : kn[j] ∉ L := fun z => by
          rcases h4 _ z with w | w
          · exact hix w
          · have hn2 := knd.sublist (List.take_sublist (j + 1) kn)
            rw [htk] at hn2
            exact (List.nodup_append.mp hn2).2.2 _ w _ (List.mem_singleton.mpr rfl) rfl
        have done : ∀ (H6 : Hp) (p6 : Addr) (Lb : List Str), p6 ≠ s0 → L2.Same H3 H6 → H6 p6 = some (.lst (Lb.map V.str)) → (Lb = kn[j] :: L ∨ Lb = L ++ [kn[j]]) → ∃ (p' : Addr) (L' : List Str) (l'' : List V) (v6' : Option V), [some (V.ref s0), some (.ref f), some (.ref k), some (.ref a), some (.ref p6), some (.str kn[j])] = [some (V.ref s0), some (.ref f), some (.ref k), some (.ref a), some (.ref p'), v6'] ∧
            p' ≠ s0 ∧ Ch s0 H H6 ∧ Ch s0 H1 H6 ∧ H6 s0 = some (.lst l'') ∧ SrcV ((n + 1) + (j + 1)) l'' ∧ j + 1 ≤ kn.length ∧ H6 p' = some (.lst (L'.map V.str)) ∧ L'.Nodup ∧ L'.length ≤ F.length + (j + 1) ∧ (∀ x ∈ L', carB x = true) ∧ (∀ x ∈ L', x ∈ xs ∨ x ∈ kn.take (j + 1)) := fun H6 p6 Lb n6 sm h6 hL2 => by
          have hpm : Lb.Perm (kn[j] :: L) := by
            rcases hL2 with rfl | rfl
            · exact List.Perm.refl _
            · exact List.perm_append_singleton _ _
          refine ⟨p6, Lb, l3, _, rfl, n6, ch3.sm sm, hch3.sm sm, sm _ _ hs3, hl3, hlt, h6, hpm.nodup_iff.mpr (List.nodup_cons.mpr ⟨hnL, h1⟩), by rw [hpm.length_eq, List.length_cons]; omega, fun x hx => ?_, fun x hx => ?_⟩
          · rcases List.mem_cons.mp (hpm.mem_iff.mp hx) with w | w
            · rw [w]
              exact hc2 _ (List.getElem_mem hlt)
            · exact h3 x w
          · rcases List.mem_cons.mp (hpm.mem_iff.mp hx) with w | w
            · rw [w, htk]
              exact .inr (List.mem_append_right _ (List.mem_singleton.mpr rfl))
            · exact (h4 x w).imp id fun z => by rw [htk]; exact List.mem_append_left _ z
        refine ite2 (fun hz => ?_) (fun hz => ?_)
        · refine ⟨_, rfl, by show 1 ≤ sizeLine; decide, fun p5 hp5 => ?_⟩
          have sm5 : L2.Same H3 (upd H3 p5 (.lst [.str kn[j]])) := sm_new sm_refl hp5
          refine ⟨.ref p, rfl, p5, p, _, _, rfl, rfl, upd_same, sm5 _ _ hp3, ?_, fun p6 hp6 => ?_⟩
          · rw [List.length_map]
            show 1 + L.length ≤ sizeLine
            exact Nat.le_of_lt (small1000 (by omega))
          exact done _ p6 (kn[j] :: L) (ne_of_none (sm5 _ _ hs3) hp6).symm (sm_trans sm5 (sm_new sm_refl hp6)) upd_same (.inl rfl)
        · refine ⟨.ref p, rfl, _, rfl, by show 1 ≤ sizeLine; decide, fun p5 hp5 => ?_⟩
          have sm5 : L2.Same H3 (upd H3 p5 (.lst [.str kn[j]])) := sm_new sm_refl hp5
          refine ⟨p, p5, _, _, rfl, rfl, sm5 _ _ hp3, upd_same, ?_, fun p6 hp6 => ?_⟩
          · rw [List.length_map]
            show L.length + 1 ≤ sizeLine
            exact Nat.le_of_lt (small1000 (by omega))
          exact done _ p6 (L ++ [kn[j]]) (ne_of_none (sm5 _ _ hs3) hp6).symm (sm_trans sm5 (sm_new sm_refl hp6)) (by rw [upd_same, List.map_append]; rfl) (.inr rfl)
      · rintro σ H' ⟨p, L, l', v6, rfl, hps, ch, hch, hs', hl', hje, hp, h1, h2, h3, h4⟩
        rw [List.length_map] at hl' h2
        exact ⟨.ref p, rfl, p, _, rfl, SqL.of hp, fun t ob hob ht => q _ t L l' (ch.new (ch.free hs ⟨_, hs'⟩ ht)) (by rw [upd_ne (ne_of_none hs' ht)]; exact hs') (hl'.mono (by omega)) (TupD.of hob) h1 (by omega) h3⟩

end
end Ln


set_option Elab.async false
set_option linter.all false
set_option maxRecDepth 100000
set_option maxHeartbeats 4000000
namespace Ln
open PySem PySem.Spec PyProof.Rows L2 GxR
structure Bb (mg : Str → Option Value) : Prop where
  boo : mg "bool" = none
theorem scTruth : FnScope ["found", "due"] ["found", "due"] (defScope sTruth) := ⟨rfl, rfl, rfl, by decide +kernel, rfl, by decide +kernel, by decide +kernel⟩
def rev3 {α : Type} : List α → List α → List α
  | [], [x, y, z] => [z, y, x]
  | _, _ => []
section
variable {P : Program} {w : World} {K : PySem.W.Frag} {mg : Str → Option Value} {base : Heap} {Ps : List Addr}
def spTruth : Sp := fun vs H Q _ => ∃ (x y : Bool), vs = [.bl x, .bl y] ∧ Q (.bl (decide (x = y))) H
theorem ok_truth {f : Addr} {fd : FuncData} (F : Fun K "_law_truth" "_law_truth" sTruth f fd) (B : Bi mg) (BB : Bb mg) : FnOk P w K mg base CX0 1 f fd ["found", "due"] spTruth := by
  refine F.ok scTruth (fun vs H Q E h => ?_) (fun cdv A outer s H vs Q E hr h => ?_)
  · obtain ⟨x, y, rfl, _⟩ := h
    rfl
  · obtain ⟨x, y, rfl, q⟩ := h
    refine ⟨_, pss_one (ps_ret (pe_and (pe_callB call_isi (by rfl) B.isi (by decide +kernel) (pa_cons (pv 0) (pa_cons (pe_bltn (by rfl) BB.boo (by decide +kernel) (v := .ty "bool") rfl) pa_nil)))
      (pe_one (pe_cmpR op_eq (pv 0) (pv 1) (nomark _))))), ?_⟩
    refine ⟨_, rfl, .bl x, .ty "bool", .type "bool", .type "bool", true, rfl, .ty _, .base (.bl x), kit_ty (by decide +kernel), true, rfl, iteT ?_⟩
    refine ⟨_, rfl, _, rfl, rfl, ?_⟩
    have e : decide (V.bl x = V.bl y) = decide (x = y) := decide_eq_decide.mpr ⟨fun z => V.bl.inj z, fun z => by rw [z]⟩
    show Q (.bl (decide (V.bl x = V.bl y))) H
    rw [e]
    exact q
end
theorem laneB_of {L : List Str} (h1 : L.Nodup) (h2 : ∀ x ∈ L, carB x = true) : laneB L = true := by
  unfold laneB
  rw [Bool.and_eq_true]
  exact ⟨List.all_eq_true.mpr h2, decide_eq_true h1⟩
theorem laneAt_of {K : PySem.W.Frag} {H : Hp} {p : Addr} {L : List Str} (h : TupD H p (L.map V.str)) (h1 : L.length ≤ 400) (h2 : ∀ x ∈ L, carB x = true) : LaneAt K H p L := ⟨h.sq, h1, fun x hx => car_sz (h2 x hx)⟩
end Ln


set_option Elab.async false
set_option linter.all false
set_option maxRecDepth 100000
set_option maxHeartbeats 4000000
namespace Ln
open PySem PySem.Spec PyProof.Rows L2 GxR
/-! ### _law_same: itself upon the parts -/
theorem scSame : FnScope ["found", "due", "k"] ["found", "due"] (defScope sSame) := ⟨rfl, rfl, rfl, by decide +kernel, rfl, by decide +kernel, by decide +kernel⟩
theorem kit2 {K : PySem.W.Frag} {a b c : String} {r1 r2 : Bool} (h1 : kitB a b = some r1) (h2 : kitB a c = some r2) : PySem.W.kitAny K (.type a) [.type b, .type c] = some (r1 || r2) := by
  refine kitAny_cons (kit_ty h1) (fun e => ?_) (fun e => by rw [e]; rfl)
  subst e
  refine kitAny_cons (kit_ty h2) (fun e => ?_) (fun e => by rw [e]; rfl)
  subst e
  exact kitAny_nil
theorem sqT_same {K : PySem.W.Frag} {H H' : Hp} {a : Addr} {xs : List V} (h : SqT K H a xs) (k : L2.Same H H') : SqT K H' a xs := by
  rcases h with (e | ⟨ob, e⟩) | e
  · exact .inl (.inl (k _ _ e))
  · exact .inl (.inr ⟨ob, k _ _ e⟩)
  · exact .inr e
section
variable {P : Program} {w : World} {K : PySem.W.Frag} {mg : Str → Option Value} {base : Heap} {Ps : List Addr}
def spNo : Sp := fun _ _ _ _ => False
theorem no_ok {f : Addr} {fd : FuncData} {ps : List Str} : FnOk P w K mg base CX0 0 f fd ps spNo := ⟨fun _ _ _ _ h => h.elim, fun _ _ _ _ _ _ _ _ _ _ _ _ _ h => h.elim⟩
def spSG (K : PySem.W.Frag) (sp' : Sp) : Sp := fun vs H Q E => (∃ c : Str, vs = [.str c, .str c] ∧ ∀ H', L2.Same H H' → Q (.bl true) H') ∨ (∃ c : Int, vs = [.int c, .int c] ∧ ∀ H', L2.Same H H' → Q (.bl true) H') ∨ (vs = [.non, .non] ∧ ∀ H', L2.Same H H' → Q (.bl true) H') ∨
  ∃ (p q : Addr) (T : List V), vs = [.ref p, .ref q] ∧ SqT K H p T ∧ SqT K H q T ∧ T.length ≤ 400 ∧ (∀ y ∈ T, ∀ (H' : Hp) (Q' : VK), (∀ H'', L2.Same H' H'' → Q' (.bl true) H'') → sp' [y, y] H' Q' E0) ∧ ∀ H', L2.Same H H' → Q (.bl true) H'
theorem ok_sameG {n : Nat} {sp' : Sp} {f : Addr} {fd : FuncData} (F : Fun K "_law_same" "_law_same" sSame f fd) (B : Bi mg) (B2 : Bl mg) (BB : Bb mg)
    (GS : FnOk P w K mg base CX0 n f fd ["found", "due"] sp') (mgS : mg "_law_same" = some (.ref f)) (kS : PySem.W.keepIn K (.ref f) = true) (bS : Binds K fd ["found", "due"] []) : FnOk P w K mg base CX0 (n + 1) f fd ["found", "due"] (spSG K sp') := by
  refine F.ok scSame (fun vs H Q E h => ?_) (fun cdv A outer s H vs Q E hr h => ?_)
  · rcases h with ⟨c, rfl, _⟩ | ⟨c, rfl, _⟩ | ⟨rfl, _⟩ | ⟨p, q, T, rfl, _⟩
    · rfl
    · rfl
    · rfl
    · rfl
  · refine ⟨_, pss_cons (ps_if (pt_val (pe_callB call_isiT (by rfl) B.isi (by decide +kernel) (pa_cons (pv 1) (pa_cons (pe_tup (pa_cons (pe_bltn (by rfl) B.lst (by decide +kernel) (v := .ty "list") rfl) (pa_cons (pe_bltn (by rfl) B.tup (by decide +kernel) (v := .ty "tuple") rfl) pa_nil))) pa_nil))))
        (pss_cons (ps_if (PW.pt (pw_or (pt_cmpR op_ne (pe_callB call_isi (by rfl) B.isi (by decide +kernel) (pa_cons (pv 0) (pa_cons (pe_bltn (by rfl) B.lst (by decide +kernel) (v := .ty "list") rfl) pa_nil))) (pe_callB call_isi (by rfl) B.isi (by decide +kernel) (pa_cons (pv 1) (pa_cons (pe_bltn (by rfl) B.lst (by decide +kernel) (v := .ty "list") rfl) pa_nil))) (nomark _))
            (pw_or1 (pt_not (pt_val (pe_callB call_isiT (by rfl) B.isi (by decide +kernel) (pa_cons (pv 0) (pa_cons (pe_tup (pa_cons (pe_bltn (by rfl) B.lst (by decide +kernel) (v := .ty "list") rfl) (pa_cons (pe_bltn (by rfl) B.tup (by decide +kernel) (v := .ty "tuple") rfl) pa_nil))) pa_nil)))))))) (pss_one (ps_ret pe_bl)) pss_nil)
        (pss_cons (ps_if (pt_cmpR op_ne (pe_callB call_len_seq (by rfl) B.len PySem.boot_len (pa_cons (pv 0) pa_nil)) (pe_callB call_len_seq (by rfl) B.len PySem.boot_len (pa_cons (pv 1) pa_nil)) (nomark _)) (pss_one (ps_ret pe_bl)) pss_nil)
        (pss_one (ps_ret (pe_callB (cr_all rfl) (by rfl) B.all (by decide +kernel) (pa_cons (pe_lc (own := [("k", 2)]) (g := gName 2) (tt := tYes) (te := tCall sp' [] E0 (tCons (tOp (rIxT K) (tVar 0) (tVar 2)) (tCons (tOp (rIxT K) (tVar 1) (tVar 2)) tNil))) (by rfl) scSame.nd (pi_range1 (by rfl) B2.rng (pa_cons (pe_callB call_len_seq (by rfl) B.len PySem.boot_len (pa_cons (pv 1) pa_nil)) pa_nil))
            (blkOk_by (own := [("k", 2)]) (N := ["found", "due", "k"]) (sc := defScope sSame) (by decide +kernel)) (fun _ _ _ _ _ => pg_name (i := 2) scSame.nd rfl (Or.inl rfl)) (fun _ _ _ _ _ => pts_nil) (fun _ _ _ _ _ => pe_call GS hr (by rfl) mgS kS bS .nil pass0 (pa_cons (pe_ix ix_tup (pv 0) (pv 2) (fun _ _ => rfl)) (pa_cons (pe_ix ix_tup (pv 1) (pv 2) (fun _ _ => rfl)) pa_nil)))) pa_nil)))))) pss_nil)
      (pss_cons (ps_if (PW.pt (pw_or (pt_cmpR op_isN (pv 1) pe_non (nomark _)) (pw_or1 (pt_cmpR op_isN (pv 0) pe_non (nomark _))))) (pss_one (ps_ret (pe_and (pe_cmpR op_isN (pv 1) pe_non (nomark _)) (pe_one (pe_cmpR op_isN (pv 0) pe_non (nomark _)))))) pss_nil)
      (pss_cons (ps_if (PW.pt (pw_or (pt_val (pe_callB call_isi (by rfl) B.isi (by decide +kernel) (pa_cons (pv 1) (pa_cons (pe_bltn (by rfl) BB.boo (by decide +kernel) (v := .ty "bool") rfl) pa_nil)))) (pw_or1 (pt_val (pe_callB call_isi (by rfl) B.isi (by decide +kernel) (pa_cons (pv 0) (pa_cons (pe_bltn (by rfl) BB.boo (by decide +kernel) (v := .ty "bool") rfl) pa_nil)))))))
        (pss_one (ps_ret (pe_and (pe_callB call_isi (by rfl) B.isi (by decide +kernel) (pa_cons (pv 1) (pa_cons (pe_bltn (by rfl) BB.boo (by decide +kernel) (v := .ty "bool") rfl) pa_nil))) (pe_and (pe_callB call_isi (by rfl) B.isi (by decide +kernel) (pa_cons (pv 0) (pa_cons (pe_bltn (by rfl) BB.boo (by decide +kernel) (v := .ty "bool") rfl) pa_nil))) (pe_one (pe_cmpR op_eq (pv 0) (pv 1) (nomark _))))))) pss_nil)
      (pss_one (ps_ret (pe_cmpR op_eq (pv 0) (pv 1) (nomark _)))))), ?_⟩
    rcases h with ⟨c, rfl, q⟩ | ⟨c, rfl, q⟩ | ⟨rfl, q⟩ | ⟨p, q, T, rfl, hp, hq, few, hsp, hQ⟩
    · -- two texts
      refine ⟨.str c, rfl, by show 2 ≤ sizeLine; decide, fun e he => ?_⟩
      have sm := sm_new (o := .tup [.ty "list", .ty "tuple"]) (sm_refl (H := H)) he
      refine ⟨.str c, e, [.ty "list", .ty "tuple"], .type "str", [.type "list", .type "tuple"], false, rfl, upd_same, .cons (.ty _) (.cons (.ty _) .nil), .base (.str c), kit2 (r1 := false) (r2 := false) (by decide +kernel) (by decide +kernel), _, rfl, iteF ?_⟩
      generalize upd H e (.tup [.ty "list", .ty "tuple"]) = H1 at sm ⊢
      refine ⟨.str c, rfl, rfl, _, rfl, ?_⟩
      rw [decide_eq_false (fun z => nomatch z)]
      refine iteF ⟨.str c, rfl, rfl, _, rfl, ?_⟩
      rw [decide_eq_false (fun z => nomatch z)]
      refine iteF ?_
      refine ⟨.str c, rfl, .str c, .ty "bool", .type "str", .type "bool", false, rfl, .ty _, .base (.str c), kit_ty (by decide +kernel), _, rfl, iteF ?_⟩
      refine ⟨.str c, rfl, .str c, .ty "bool", .type "str", .type "bool", false, rfl, .ty _, .base (.str c), kit_ty (by decide +kernel), _, rfl, iteF ?_⟩
      refine ⟨.str c, rfl, .str c, rfl, rfl, ?_⟩
      rw [decide_eq_true rfl]
      exact q H1 sm
    · -- two numbers
      refine ⟨.int c, rfl, by show 2 ≤ sizeLine; decide, fun e he => ?_⟩
      have sm := sm_new (o := .tup [.ty "list", .ty "tuple"]) (sm_refl (H := H)) he
      refine ⟨.int c, e, [.ty "list", .ty "tuple"], .type "int", [.type "list", .type "tuple"], false, rfl, upd_same, .cons (.ty _) (.cons (.ty _) .nil), .base (.int c), kit2 (r1 := false) (r2 := false) (by decide +kernel) (by decide +kernel), _, rfl, iteF ?_⟩
      generalize upd H e (.tup [.ty "list", .ty "tuple"]) = H1 at sm ⊢
      refine ⟨.int c, rfl, rfl, _, rfl, ?_⟩
      rw [decide_eq_false (fun z => nomatch z)]
      refine iteF ⟨.int c, rfl, rfl, _, rfl, ?_⟩
      rw [decide_eq_false (fun z => nomatch z)]
      refine iteF ?_
      refine ⟨.int c, rfl, .int c, .ty "bool", .type "int", .type "bool", false, rfl, .ty _, .base (.int c), kit_ty (by decide +kernel), _, rfl, iteF ?_⟩
      refine ⟨.int c, rfl, .int c, .ty "bool", .type "int", .type "bool", false, rfl, .ty _, .base (.int c), kit_ty (by decide +kernel), _, rfl, iteF ?_⟩
      refine ⟨.int c, rfl, .int c, rfl, rfl, ?_⟩
      rw [decide_eq_true rfl]
      exact q H1 sm
    · refine ⟨.non, rfl, by show 2 ≤ sizeLine; decide, fun e he => ?_⟩
      have sm := sm_new (o := .tup [.ty "list", .ty "tuple"]) (sm_refl (H := H)) he
      refine ⟨.non, e, [.ty "list", .ty "tuple"], .type "NoneType", [.type "list", .type "tuple"], false, rfl, upd_same, .cons (.ty _) (.cons (.ty _) .nil), .base .non, kit2 (r1 := false) (r2 := false) (by decide +kernel) (by decide +kernel), _, rfl, iteF ?_⟩
      generalize upd H e (.tup [.ty "list", .ty "tuple"]) = H1 at sm ⊢
      refine ⟨.non, rfl, rfl, _, rfl, ?_⟩
      rw [decide_eq_true rfl]
      refine iteT ⟨.non, rfl, rfl, ?_⟩
      rw [decide_eq_true rfl]
      refine ⟨_, rfl, iteT ⟨.non, rfl, rfl, ?_⟩⟩
      rw [decide_eq_true rfl]
      exact q H1 sm
    · refine ⟨.ref q, rfl, by show 2 ≤ sizeLine; decide, fun e he => ?_⟩
      have sm := sm_new (o := .tup [.ty "list", .ty "tuple"]) (sm_refl (H := H)) he
      have hp1 := sqT_same hp sm
      have hq1 := sqT_same hq sm
      refine ⟨.ref q, e, [.ty "list", .ty "tuple"], .type "tuple", [.type "list", .type "tuple"], true, rfl, upd_same, .cons (.ty _) (.cons (.ty _) .nil), tyx_tup hq1, kit2 (r1 := false) (r2 := true) (by decide +kernel) (by decide +kernel), _, rfl, iteT ?_⟩
      generalize upd H e (.tup [.ty "list", .ty "tuple"]) = H1 at sm hp1 hq1 ⊢
      -- both tuples
      refine ⟨.ref p, rfl, .ref p, .ty "list", .type "tuple", .type "list", false, rfl, .ty _, tyx_tup hp1, kit_ty (by decide +kernel), ?_⟩
      refine ⟨.ref q, rfl, .ref q, .ty "list", .type "tuple", .type "list", false, rfl, .ty _, tyx_tup hq1, kit_ty (by decide +kernel), rfl, _, rfl, ?_⟩
      rw [show (!decide (V.bl false = V.bl false)) = false by rw [decide_eq_true rfl]; rfl]
      refine iteF ⟨.ref p, rfl, by show 2 ≤ sizeLine; decide, fun e2 he2 => ?_⟩
      have sm2 := sm_new (o := .tup [.ty "list", .ty "tuple"]) (sm_refl (H := H1)) he2
      have hp2 := sqT_same hp1 sm2
      have hq2 := sqT_same hq1 sm2
      refine ⟨.ref p, e2, [.ty "list", .ty "tuple"], .type "tuple", [.type "list", .type "tuple"], true, rfl, upd_same, .cons (.ty _) (.cons (.ty _) .nil), tyx_tup hp2, kit2 (r1 := false) (r2 := true) (by decide +kernel) (by decide +kernel), _, rfl, iteF ?_⟩
      have sm02 := sm_trans sm sm2
      generalize upd H1 e2 (.tup [.ty "list", .ty "tuple"]) = H2 at sm02 hp2 hq2 ⊢
      -- as long
      refine ⟨.ref p, rfl, p, _, rfl, .inr hp2, .ref q, rfl, q, _, rfl, .inr hq2, rfl, _, rfl, ?_⟩
      rw [decide_eq_true rfl]
      refine iteF ?_
      -- part by part
      refine ⟨.ref q, rfl, q, _, rfl, .inr hq2, T.length, rfl, by omega, by omega, fun D hD => ?_⟩
      refine lc_range (lo := 0) (n := T.length) (fun i H' => L2.Same H2 H' ∧ i ≤ T.length ∧ H' D = some (.lst ((List.replicate i true).map V.bl))) ?_ ?_ ?_
      · exact ⟨sm_new sm_refl hD, Nat.zero_le _, upd_same⟩
      · rintro i H' hi ⟨sm', _, hD'⟩
        have hc : T[i]? = some T[i] := List.getElem?_eq_getElem hi
        refine ⟨rfl, ?_⟩
        unfold tYes
        have at1 : atI T (0 + (i : Int)) = some T[i] := by
          rw [Int.zero_add]
          exact atI_nat hc
        refine iteT ⟨.ref p, rfl, _, rfl, p, _, _, T[i], rfl, rfl, sqT_same hp2 sm', at1, .ref q, rfl, _, rfl, q, _, _, T[i], rfl, rfl, sqT_same hq2 sm', at1, ?_⟩
        refine hsp T[i] (List.getElem_mem hi) H' _ fun H'' sm'' => ⟨_, sm'' _ _ hD', by rw [List.length_map, List.length_replicate]; exact small1000 (by omega), sm_upd (sm_trans sm' sm'') hD, hi, ?_⟩
        rw [upd_same, List.replicate_succ', List.map_append]
        rfl
      · rintro H' ⟨sm', _, hD'⟩
        refine ⟨D, _, rfl, SqL.of hD', ?_⟩
        rw [show (List.replicate T.length true).all id = true from List.all_eq_true.mpr fun b hb => (List.mem_replicate.mp hb).2]
        exact hQ H' (sm_trans sm02 sm')
/-- what it says of two answers that are the same -/
def spSame14 (K : PySem.W.Frag) : Sp := fun vs H Q _ => (vs = [.non, .non] ∧ ∀ H', L2.Same H H' → Q (.bl true) H') ∨ ∃ (p q : Addr) (T : List V), vs = [.ref p, .ref q] ∧ SqT K H p T ∧ SqT K H q T ∧ T.length ≤ 400 ∧ (∀ y ∈ T, (∃ c : Str, y = .str c) ∨ (∃ c : Int, y = .int c) ∨ y = .non) ∧ ∀ H', L2.Same H H' → Q (.bl true) H'
theorem ok_same14 {f : Addr} {fd : FuncData} (F : Fun K "_law_same" "_law_same" sSame f fd) (B : Bi mg) (B2 : Bl mg) (BB : Bb mg)
    (mgS : mg "_law_same" = some (.ref f)) (kS : PySem.W.keepIn K (.ref f) = true) (bS : Binds K fd ["found", "due"] []) : FnOk P w K mg base CX0 2 f fd ["found", "due"] (spSame14 K) :=
  (ok_sameG F B B2 BB (ok_sameG F B B2 BB no_ok mgS kS bS) mgS kS bS).imp fun vs H Q E h => by
    rcases h with ⟨e, q⟩ | ⟨p, q', T, e, h1, h2, h3, h4, q⟩
    · exact .inr (.inr (.inl ⟨e, q⟩))
    · refine .inr (.inr (.inr ⟨p, q', T, e, h1, h2, h3, fun y hy H' Q' k => ?_, q⟩))
      rcases h4 y hy with ⟨c, rfl⟩ | ⟨c, rfl⟩ | rfl
      · exact .inl ⟨c, rfl, k⟩
      · exact .inr (.inl ⟨c, rfl, k⟩)
      · exact .inr (.inr (.inl ⟨rfl, k⟩))
end
end Ln


set_option Elab.async false
set_option linter.all false
set_option maxRecDepth 100000
set_option maxHeartbeats 2000000
namespace Ln
open PySem PySem.Spec PyProof.Rows L2 GxR
/-! ### data that may be shown -/
structure Gd (d : PyData) (dep wt : Nat) : Prop where
  lay : d.canLay0 = true
  dep : d.depth ≤ dep
  wt : d.weight ≤ wt
  iss : d.intsShort 13 = true
  sh : d.showable = true
  nd : d.hasDict = false
structure GdA (ds : List PyData) (dep wt : Nat) : Prop where
  lay : PyData.canLayAll0 ds = true
  dep : PyData.depthAll ds ≤ dep
  wt : PyData.weightAll ds ≤ wt
  iss : PyData.intsShortAll 13 ds = true
  sh : PyData.showableAll ds = true
  nd : PyData.hasDictAll ds = false
theorem GdA.nil {dep : Nat} : GdA [] dep 0 := ⟨rfl, Nat.zero_le _, Nat.le_refl _, rfl, rfl, rfl⟩
theorem GdA.cons {d : PyData} {ds : List PyData} {dep w1 w2 : Nat} (a : Gd d dep w1) (b : GdA ds dep w2) : GdA (d :: ds) dep (w1 + 1 + w2) := by
  refine ⟨?_, ?_, ?_, ?_, ?_, ?_⟩
  · rw [PyData.canLayAll0, a.lay, b.lay]
    rfl
  · have := a.dep
    have := b.dep
    rw [PyData.depthAll]
    omega
  · have := a.wt
    have := b.wt
    rw [PyData.weightAll]
    omega
  · rw [PyData.intsShortAll, a.iss, b.iss]
    rfl
  · rw [PyData.showableAll, a.sh, b.sh]
    rfl
  · rw [PyData.hasDictAll, a.nd, b.nd]
    rfl
theorem GdA.list {ds : List PyData} {dep w : Nat} (a : GdA ds dep w) : Gd (.list ds) (dep + 1) w :=
  ⟨by rw [PyData.canLay0]; exact a.lay, by rw [PyData.depth]; exact Nat.succ_le_succ a.dep, by rw [PyData.weight]; exact a.wt, by rw [PyData.intsShort]; exact a.iss, by rw [PyData.showable]; exact a.sh, by rw [PyData.hasDict]; exact a.nd⟩
theorem GdA.tuple {ds : List PyData} {dep w : Nat} (a : GdA ds dep w) : Gd (.tuple ds) (dep + 1) w :=
  ⟨by rw [PyData.canLay0]; exact a.lay, by rw [PyData.depth]; exact Nat.succ_le_succ a.dep, by rw [PyData.weight]; exact a.wt, by rw [PyData.intsShort]; exact a.iss, by rw [PyData.showable]; exact a.sh, by rw [PyData.hasDict]; exact a.nd⟩
theorem Gd.mono {d : PyData} {a b u v : Nat} (h : Gd d a u) (h1 : a ≤ b) (h2 : u ≤ v) : Gd d b v := ⟨h.lay, Nat.le_trans h.dep h1, Nat.le_trans h.wt h2, h.iss, h.sh, h.nd⟩
theorem GdA.map {α : Type} {f : α → PyData} {dep w : Nat} : ∀ (xs : List α), (∀ x ∈ xs, Gd (f x) dep w) → GdA (xs.map f) dep (xs.length * (w + 1))
  | [], _ => by
    rw [List.length_nil, Nat.zero_mul]
    exact .nil
  | x :: r, h => by
    have a := GdA.cons (h x List.mem_cons_self) (GdA.map r fun y hy => h y (List.mem_cons_of_mem _ hy))
    rw [List.length_cons, Nat.succ_mul, Nat.add_comm]
    exact a
theorem Gd.str {x : Str} (h1 : PyData.strOk x = true) (h2 : x.length ≤ 4) : Gd (.str x) 0 4 :=
  ⟨by rw [PyData.canLay0]; exact h1, by rw [PyData.depth]; exact Nat.le_refl _, by rw [PyData.weight]; exact h2, rfl, rfl, rfl⟩
set_option maxRecDepth 1000000 in
theorem shown_ints : ∀ n < 1001, decide ((PyData.shown (.int (n : Nat))).length ≤ 13) = true := by decide +kernel
theorem Gd.int {n : Nat} (h : n ≤ 1000) : Gd (.int (n : Nat)) 0 11 := by
  have hl : (if ((n : Nat) : Int) = 0 then 0 else ((n : Nat) : Int).natAbs.log2 + 1) ≤ 11 := by
    split
    · omega
    · have : ((n : Nat) : Int).natAbs.log2 < 10 := (Nat.log2_lt (by omega)).mpr (by show ((n : Nat) : Int).natAbs < 1024; omega)
      omega
  refine ⟨rfl, by rw [PyData.depth]; exact Nat.le_refl _, ?_, ?_, ?_, rfl⟩
  · rw [PyData.weight]
    simpa using hl
  · rw [PyData.intsShort]
    exact shown_ints n (by omega)
  · rw [PyData.showable]
    refine decide_eq_true ?_
    by_cases e : n = 0
    · subst e
      decide
    · have : ((n : Nat) : Int).natAbs.log2 < 10 := (Nat.log2_lt (by omega)).mpr (by show ((n : Nat) : Int).natAbs < 1024; omega)
      omega
theorem Gd.shaped {d : PyData} {dep w : Nat} (h : Gd d dep w) (hd : dep ≤ 60) : SeqAt.shaped d = true := by
  unfold SeqAt.shaped
  rw [Bool.and_eq_true]
  have := h.dep
  exact ⟨h.lay, decide_eq_true (by omega)⟩
theorem Gd.len {d : PyData} {dep w : Nat} (h : Gd d dep w) (hd : dep ≤ 60) (hw : w ≤ 1000000) : d.shown.length ≤ sizeLine := by
  have h1 := h.dep
  have h2 := h.wt
  have hl : PyData.layable0 d = true := by
    unfold PyData.layable0
    rw [Bool.and_eq_true, Bool.and_eq_true]
    exact ⟨⟨h.lay, decide_eq_true (by omega)⟩, decide_eq_true (by omega)⟩
  exact Nat.le_trans (shown_le13 hl h.iss) (by decide)
/-! ### repr, where nothing is being shown -/
def rRepr (K : PySem.W.Frag) : List V → Hp → VK → Prop := fun vs H Q => ∃ (a : Addr) (d : PyData) (dep w : Nat), vs = [.ref a] ∧ Dp K H (.ref a) d ∧ Gd d dep w ∧ dep ≤ 60 ∧ w ≤ 1000000 ∧ Q (.str d.shown) H
theorem cr_repr {X : Cx} (hg : X.A.guards = some []) (hu : X.A.units + 64 < cLine) : CallR X (.builtin "repr") (rRepr X.K) := by
  intro pins s σ H vs us Q I r h
  obtain ⟨a, d, dep, w, rfl, hd, hG, h60, hw, q⟩ := h
  obtain ⟨u, rfl, r1⟩ := vals1 r
  obtain ⟨as, hr⟩ := Dp.reads I d (.ref a) u hd r1
  obtain rfl : u = Value.ref a := r1
  have h1 := hG.dep
  exact repr_of_reads' hr hG.sh (PyData.noDict_hsm hG.nd) hg (by omega) (fun _ _ e => e) (fun h' t tk hk => ⟨.str d.shown, H, I.kept hk, ⟨_, rfl⟩, q⟩) (hG.len h60 hw)
/-! ### the data shown -/
def Ev.dat : Ev → PyData
  | .inn c => .tuple [.str "in", .str c]
  | .out => .tuple [.str "out"]
def strD (xs : List Str) : List PyData := xs.map PyData.str
def natD (ns : List Nat) : List PyData := ns.map fun n => PyData.int (n : Nat)
theorem dp_evs {K : PySem.W.Frag} {H : Hp} : ∀ {as : List Addr} {es : List Ev}, EvsAt K H as es → DpAll K H (as.map V.ref) (es.map Ev.dat)
  | _, _, .nil => .nil
  | _, .inn c :: r, .cons h t => .cons (.tup h (.cons (.str _) (.cons (.str _) .nil))) (dp_evs t)
  | _, .out :: r, .cons h t => .cons (.tup h (.cons (.str _) .nil)) (dp_evs t)
theorem gd_in : PyData.strOk "in" = true := by decide +kernel
theorem gd_out : PyData.strOk "out" = true := by decide +kernel
theorem gd_ev {e : Ev} (h : ∀ c, e = .inn c → carB c = true) : Gd e.dat 1 20 := by
  cases e with
  | inn c => exact (GdA.tuple (GdA.cons (Gd.str gd_in (by decide +kernel)) (GdA.cons (Gd.str (car_ok (h c rfl)) (carLen (h c rfl))) GdA.nil))).mono (Nat.le_refl _) (by decide)
  | out => exact (GdA.tuple (GdA.cons (Gd.str gd_out (by decide +kernel)) GdA.nil)).mono (Nat.le_refl _) (by decide)
theorem gd_strs {xs : List Str} (h : ∀ x ∈ xs, carB x = true) (hl : xs.length ≤ 1000) : GdA (strD xs) 0 5000 := by
  have a := GdA.map (f := PyData.str) (dep := 0) (w := 4) xs fun x hx => Gd.str (car_ok (h x hx)) (carLen (h x hx))
  exact ⟨a.lay, a.dep, Nat.le_trans a.wt (by omega), a.iss, a.sh, a.nd⟩
/-- a def's promise where nothing is being shown -/
structure FnG (P : Program) (w : World) (K : PySem.W.Frag) (mg : Str → Option Value) (base : Heap) (k : Nat) (f : Addr) (fd : FuncData) (ps : List Str) (sp : Sp) : Prop where
  len : ∀ vs H Q E, sp vs H Q E → vs.length = ps.length
  run : ∀ (A : Around) (outer : List Env) (s : Shared) (H : Hp) (args : Args) (us : List Value) (vs : List V) (Q : VK) (E : XK), Room k A → A.guards = some [] → Env0 P w K mg base A outer s H → BindsTo s fd args (ps.zip us) → Vals vs us → sp vs H Q E →
    codeAny (model P w) A (.call (.ref f) args) (CR CX0 outer P w H s Q E) s
theorem FnG.of {P : Program} {w : World} {K : PySem.W.Frag} {mg : Str → Option Value} {base : Heap} {k : Nat} {f : Addr} {fd : FuncData} {ps : List Str} {sp : Sp} (F : FnOk P w K mg base CX0 k f fd ps sp) : FnG P w K mg base k f fd ps sp := ⟨F.len, fun A outer s H args us vs Q E hr _ e0 hb r h => F.run A outer s H args us vs Q E hr e0 hb r h⟩
section
variable {P : Program} {w : World} {K : PySem.W.Frag} {mg : Str → Option Value} {base : Heap}
theorem Fun.okG {x qual : Str} {st : Stmt} {f : Addr} {fd : FuncData} {N ps : List Str} {k : Nat} {sp : Sp} (F : Fun K x qual st f fd) (S : FnScope N ps (defScope st)) (len : ∀ vs H Q E, sp vs H Q E → vs.length = ps.length)
    (hbody : ∀ (cdv : Value) (A : Around) (outer : List Env) (s : Shared) (H : Hp) (vs : List V) (Q : VK) (E : XK), Room k (A.deeper (envOfC qual (defScope st) s.heap.objs.size f cdv)) → A.guards = some [] → sp vs H Q E →
      ∃ t, PSs (cxOf CX0 P w K mg base N qual (defScope st) f cdv A outer s H E).nox (defBody st) t ∧ t { nx := fun _ H' => Q .non H', rt := Q } (start N vs) H) : FnG P w K mg base (k + 1) f fd ps sp := by
  obtain ⟨oc, od, kV, doc, pm, an, cdv, ct, osl, rfl, lk, hcd⟩ := F.ex
  refine ⟨len, fun A outer s H args us vs Q E hr hgd e0 hb r hsp => ?_⟩
  have KX : K.In s.heap := e0.mod.kin.keeps fun b o e => (e0.bs b o e).1
  have lim : s.heap.NoLimit := e0.mod.nolimit.keeps fun b o e => (e0.bs b o e).1
  have kinds : ∀ y ∈ ps.zip us, (defScope st).names.lookup y.1 = some .local ∨ ((defScope st).names.lookup y.1 = some .cell ∧ ((cellsFrom (s.heap.objs.size + 1) (defScope st).names []).lookup y.1).isSome = true) := by
    rintro ⟨n, v⟩ hy
    rcases S.par n (List.of_mem_zip hy).1 with q | q
    · exact .inl q
    · exact .inr ⟨q, PySem.W.cellsFrom_some _ _ _ (.inl q)⟩
  refine codeAny_call_function hr.depth (KX _ _ lk) rfl S.co S.gen rfl (PySem.W.codeRec_of KX hcd) (hb _ _ _ _ ?_)
  refine wpAny_newFunctionEnv_cells S.kind kinds fun env he s1 x1 => ?_
  subst he
  refine ⟨lim.keeps x1.toInCall.keep, codeAny_func ?_⟩
  obtain ⟨t, ht, hq⟩ := hbody cdv A outer s H vs Q E (hr.deeper _) hgd hsp
  have I : Inv (cxOf CX0 P w K mg base N qual (defScope st) f cdv A outer s H E) [] (start N vs) H s1 := inv_start S hr.hd e0 (len _ _ _ _ hsp) r x1
  refine wpAny_mono (ht.nox.run [] s1 (start N vs) H _ I hq) (fun fl s' hs => ?_) fun e s' hs => hs
  match fl, hs with
  | .ret u, ⟨v, σ', H', J, rv, q⟩ => exact ⟨v, H', J.os, J.bare, J.base, J.hok, rv, q⟩
  | .next, ⟨σ', H', J, q⟩ => exact ⟨.non, H', J.os, J.bare, J.base, J.hok, rfl, q⟩
  | .brk, ⟨_, _, _, q⟩ => exact False.elim q
  | .cont, ⟨_, _, _, q⟩ => exact False.elim q
end
section
variable {X : Cx} {k : Nat} {f : Addr} {fd : FuncData} {ps : List Str} {sp : Sp} {x : Str} {p pos : Pos} {e : Expr} {es : List Expr} {t : TA}
theorem pe_callG (F : FnG X.prog X.w X.K X.mg X.base k f fd ps sp) (hr : Room k X.A) (hgd : X.A.guards = some []) (hg : Gl X x) (hm : X.mg x = some (.ref f)) (hk : PySem.W.keepIn X.K (.ref f) = true) (hb : Binds X.K fd ps [])
    (ha : PA X (e :: es) t) (hdb : (x == ("__debug__" : Str)) = false := by decide) (he : starEach (e :: es) X.env = (false, eval e X.env) :: starEach es X.env := by rfl) (hpl : (backTo pos (starEach es X.env)).any (·.1) = false := by rfl) :
    PE X (.Call (.Name x p) (e :: es) [] pos) (tCall sp [] E0 t) := by
  refine ⟨fun pins s σ H Q I h => wpAny_Call_Name_kw (ld_glob I hg hm ?_ hdb)⟩
  refine PySem.W.callWith_K (h₀ := X.base) I.ok.mod.kin hk (thn (ha.run pos pins s σ H _ I h) fun us s1 ⟨vs, H1, I1, r, q⟩ => ⟨I1.kIn, ?_⟩) he hpl
  have q : sp (vs ++ []) H1 Q E0 := q
  rw [List.append_nil] at q
  have hl : (us ++ []).length = ps.length := by
    rw [List.append_nil, ← r.length]
    exact F.len _ _ _ _ q
  have hbt := hb s1 us I1.kIn hl
  rw [List.append_nil] at hbt
  refine wpAny_call (codeAny_mono (F.run X.A X.stack s1 H1 ⟨us, []⟩ us vs Q E0 hr hgd I1.env0 hbt r q) fun rr s' hq => ?_)
  match rr, hq with
  | .error e, hq => exact False.elim hq
  | .ok (.ret u), hq => exact I1.after hq
  | .ok .next, hq => exact False.elim hq
  | .ok .brk, hq => exact False.elim hq
  | .ok .cont, hq => exact False.elim hq
end
end Ln


set_option Elab.async false
set_option linter.all false
set_option maxRecDepth 100000
set_option maxHeartbeats 8000000
namespace Ln
open PySem PySem.Spec PyProof.Rows L2 GxR
theorem scLaw : FnScope ["script", "k", "bag", "initial", "entries", "folk", "turn", "line", "other", "due"] ["script"] (defScope sLaw) := ⟨rfl, rfl, rfl, by decide +kernel, rfl, by decide +kernel, by decide +kernel⟩
/-- a value that says o -/
def AtV (H : Hp) (v : V) : Option (List V) → Prop
  | none => v = .non
  | some l => ∃ p, v = .ref p ∧ H p = some (.tup l)
theorem atV_of {H H' : Hp} {v : V} {o : Option (List V)} (h : WhyV H H' v o) : AtV H' v o := by
  cases o with
  | none => exact h
  | some l =>
    obtain ⟨p, e, _, e2⟩ := h
    exact ⟨p, e, e2⟩
theorem AtV.same {H H' : Hp} {v : V} {o : Option (List V)} (h : AtV H v o) (k : L2.Same H H') : AtV H' v o := by
  cases o with
  | none => exact h
  | some l =>
    obtain ⟨p, e, e2⟩ := h
    exact ⟨p, e, k _ _ e2⟩
theorem AtV.kp {Ps : List Addr} {H H' : Hp} {v : V} {o : Option (List V)} (h : AtV H v o) (k : Kp Ps H H') (hT : Tabs Ps H) : AtV H' v o := by
  cases o with
  | none => exact h
  | some l =>
    obtain ⟨p, e, e2⟩ := h
    exact ⟨p, e, k.tup hT e2⟩
theorem AtV.is_non {H : Hp} {v : V} {y : Why} (h : AtV H v (whyT y)) : decide (v = .non) = possB y := by
  cases y with
  | ok => exact decide_eq_true h
  | cars => obtain ⟨p, rfl, _⟩ := h; rfl
  | block => obtain ⟨p, rfl, _⟩ := h; rfl
  | order i => obtain ⟨p, rfl, _⟩ := h; rfl
  | moment i => obtain ⟨p, rfl, _⟩ := h; rfl
  | switch b c => obtain ⟨p, rfl, _⟩ := h; rfl
theorem whyT_flat {y : Why} {l : List V} (h : whyT y = some l) : l.length ≤ 400 ∧ ∀ v ∈ l, (∃ c : Str, v = .str c) ∨ (∃ c : Int, v = .int c) ∨ v = .non := by
  cases y with
  | ok => cases h
  | cars => cases h; exact ⟨by show 1 ≤ 400; decide, fun v hv => by simp at hv; subst hv; exact .inl ⟨_, rfl⟩⟩
  | block => cases h; exact ⟨by show 1 ≤ 400; decide, fun v hv => by simp at hv; subst hv; exact .inl ⟨_, rfl⟩⟩
  | order i => cases h; exact ⟨by show 2 ≤ 400; decide, fun v hv => by simp at hv; rcases hv with rfl | rfl; exact .inl ⟨_, rfl⟩; exact .inr (.inl ⟨_, rfl⟩)⟩
  | moment i => cases h; exact ⟨by show 2 ≤ 400; decide, fun v hv => by simp at hv; rcases hv with rfl | rfl; exact .inl ⟨_, rfl⟩; exact .inr (.inl ⟨_, rfl⟩)⟩
  | switch b c =>
    cases h
    refine ⟨by show 3 ≤ 400; decide, fun v hv => ?_⟩
    simp at hv
    rcases hv with rfl | rfl | rfl
    · exact .inl ⟨_, rfl⟩
    · cases b with
      | none => exact .inr (.inr rfl)
      | some b => exact .inl ⟨_, rfl⟩
    · exact .inl ⟨_, rfl⟩
theorem same_ask {K : PySem.W.Frag} {H : Hp} {v1 v2 : V} {y : Why} {Q : VK} {E : XK} (h1 : AtV H v1 (whyT y)) (h2 : AtV H v2 (whyT y)) (q : ∀ H', L2.Same H H' → Q (.bl true) H') : spSame14 K [v1, v2] H Q E := by
  cases e : whyT y with
  | none =>
    rw [e] at h1 h2
    exact .inl ⟨by rw [show v1 = .non from h1, show v2 = .non from h2], q⟩
  | some l =>
    rw [e] at h1 h2
    obtain ⟨p1, rfl, e1⟩ := h1
    obtain ⟨p2, rfl, e2⟩ := h2
    exact .inr ⟨p1, p2, l, rfl, SqT.of e1, SqT.of e2, (whyT_flat e).1, (whyT_flat e).2, q⟩
/-- the objects of one cell's turns -/
structure St14 (K : PySem.W.Frag) (Ps : List Addr) (a s0 t o fk : Addr) (ns : List Int) (xs : List Str) (as : List Addr) (es : List Ev) (n : Nat) (H : Hp) : Prop where
  tabs : Tabs Ps H
  scr : SqL K H a (ns.map V.int)
  src : ∃ l, H s0 = some (.lst l) ∧ SrcV n l
  lane : TupD H t (xs.map V.str)
  ev : EvT H as es
  ent : H o = some (.lst (as.map V.ref))
  fol : H fk = some (.lst ((xs ++ arrs es).map V.str))
  d1 : s0 ≠ o
  d2 : s0 ≠ fk
  a1 : Off K a s0 (ns.map V.int)
section
variable {K : PySem.W.Frag} {Ps : List Addr} {a s0 t o fk : Addr} {ns : List Int} {xs : List Str} {as : List Addr} {es : List Ev} {n m : Nat} {H H1 : Hp} {l' : List V}
theorem St14.kp (S : St14 K Ps a s0 t o fk ns xs as es n H) (k : Kp Ps H H1) : St14 K Ps a s0 t o fk ns xs as es n H1 := by
  obtain ⟨l, hl, hv⟩ := S.src
  exact ⟨k.tab, k.seqL S.tabs S.scr, ⟨l, k.lst S.tabs hl, hv⟩, S.lane.kp k S.tabs, Paired.imp S.ev fun _ _ q => k.tup S.tabs q, k.lst S.tabs S.ent, k.lst S.tabs S.fol, S.d1, S.d2, S.a1⟩
theorem St14.same (S : St14 K Ps a s0 t o fk ns xs as es n H) (k : L2.Same H H1) : St14 K Ps a s0 t o fk ns xs as es n H1 := by
  obtain ⟨l, hl, hv⟩ := S.src
  exact ⟨tabs_same S.tabs k, sq_same S.scr k, ⟨l, k _ _ hl, hv⟩, S.lane.same k, Paired.imp S.ev fun _ _ q => k _ _ q, k _ _ S.ent, k _ _ S.fol, S.d1, S.d2, S.a1⟩
theorem St14.ch (S : St14 K Ps a s0 t o fk ns xs as es n H) (k : Ch s0 H H1) (h1 : H1 s0 = some (.lst l')) (h2 : SrcV m l') : St14 K Ps a s0 t o fk ns xs as es m H1 := by
  obtain ⟨l, hl, hv⟩ := S.src
  refine ⟨k.tabs hl S.tabs, ?_, ⟨l', h1, h2⟩, k.tupD S.lane hl, k.evT S.ev hl, k _ _ S.ent S.d1.symm, k _ _ S.fol S.d2.symm, S.d1, S.d2, S.a1⟩
  rcases S.a1 with n | e
  · exact k.seqL S.scr n
  · exact .inr e
end
section
variable {P : Program} {w : World} {K : PySem.W.Frag} {mg : Str → Option Value} {base : Heap} {Ps : List Addr}
def spLaw (K : PySem.W.Frag) (Ps : List Addr) : Sp := fun vs H Q _ => ∃ (a : Addr) (ns : List Int), vs = [.ref a] ∧ SqL K H a (ns.map V.int) ∧ Tabs Ps H ∧ ∀ H', Q (.bl true) H'
theorem ok_law14 {f fC fG fB fL fF fN fS fA fM fY fP fU : Addr} {fd fdC fdG fdB fdL fdF fdN fdS fdA fdM fdY fdP fdU : FuncData} (F : Fun K "law" "law" sLaw f fd) (B : Bi mg) (B2 : Bl mg) (Bint : mg "int" = none)
    (GC : FnOk P w K mg base CX0 1 fC fdC ["script", "k"] (spCell K)) (mgC : mg "_law_cell_at" = some (.ref fC)) (kC : PySem.W.keepIn K (.ref fC) = true) (bC : Binds K fdC ["script", "k"] [])
    (GG : FnOk P w K mg base CX0 1 fG fdG ["cell", "k"] spBag) (mgG : mg "_law_bag" = some (.ref fG)) (kG : PySem.W.keepIn K (.ref fG) = true) (bG : Binds K fdG ["cell", "k"] [])
    (GB : FnOk P w K mg base CX0 3 fB fdB ["bag", "widest", "most"] spBuilt) (mgB : mg "_law_built" = some (.ref fB)) (kB : PySem.W.keepIn K (.ref fB) = true) (bB : Binds K fdB ["bag", "widest", "most"] [])
    (GL : FnOk P w K mg base CX0 2 fL fdL ["bag", "initial", "entries"] (spLived K)) (mgL : mg "_law_lived" = some (.ref fL)) (kL : PySem.W.keepIn K (.ref fL) = true) (bL : Binds K fdL ["bag", "initial", "entries"] [])
    (GF : FnOk P w K mg base CX0 1 fF fdF ["initial", "entries"] (spFolk K)) (mgF : mg "_law_folk" = some (.ref fF)) (kF : PySem.W.keepIn K (.ref fF) = true) (bF : Binds K fdF ["initial", "entries"] [])
    (GN : FnOk P w K mg base CX0 2 fN fdN ["bag", "line", "folk"] (spBent K)) (mgN : mg "_law_bent" = some (.ref fN)) (kN : PySem.W.keepIn K (.ref fN) = true) (bN : Binds K fdN ["bag", "line", "folk"] [])
    (GS : FnOk P w K mg base CX0 2 fS fdS ["bag", "line", "folk", "initial"] (spSided K)) (mgS : mg "_law_sided" = some (.ref fS)) (kS : PySem.W.keepIn K (.ref fS) = true) (bS : Binds K fdS ["bag", "line", "folk", "initial"] [])
    (GA : FnOk P w K mg base CX0 2 fA fdA ["initial", "entries", "line", "folk"] (spRea14 K)) (mgA : mg "_law_reason" = some (.ref fA)) (kA : PySem.W.keepIn K (.ref fA) = true) (bA : Binds K fdA ["initial", "entries", "line", "folk"] [])
    (GM : FnOk P w K mg base CX0 2 fM fdM ["found", "due"] (spSame14 K)) (mgM : mg "_law_same" = some (.ref fM)) (kM : PySem.W.keepIn K (.ref fM) = true) (bM : Binds K fdM ["found", "due"] [])
    (GY : FnOk P w K mg base CX0 11 fY fdY ["start", "log", "lane"] (spWhy K Ps)) (mgY : mg "why_not" = some (.ref fY)) (kY : PySem.W.keepIn K (.ref fY) = true) (bY : Binds K fdY ["start", "log", "lane"] []) (kbY : KBinds K fdY ["start", "log", "lane"] ["lane", "log", "start"] rev3 rev3)
    (GP : FnOk P w K mg base CX0 12 fP fdP ["start", "log", "lane"] (spPoss K Ps)) (mgP : mg "is_possible" = some (.ref fP)) (kP : PySem.W.keepIn K (.ref fP) = true) (bP : Binds K fdP ["start", "log", "lane"] [])
    (GU : FnOk P w K mg base CX0 1 fU fdU ["found", "due"] spTruth) (mgU : mg "_law_truth" = some (.ref fU)) (kU : PySem.W.keepIn K (.ref fU) = true) (bU : Binds K fdU ["found", "due"] []) :
    FnOk P w K mg base CX0 13 f fd ["script"] (spLaw K Ps) := by
  refine F.ok scLaw (fun vs H Q E h => ?_) (fun cdv A outer s H vs Q E hr h => ?_)
  · obtain ⟨a, ns, rfl, _⟩ := h
    rfl
  · obtain ⟨a, ns, rfl, hS, hT, q⟩ := h
    have hu : A.units + 3 + 64 < cLine := hr.units
    have hr1 := hr.mono (show 1 ≤ 12 by decide)
    have hr2 := hr.mono (show 2 ≤ 12 by decide)
    have hr3 := hr.mono (show 3 ≤ 12 by decide)
    have hr11 := hr.mono (show 11 ≤ 12 by decide)
    refine ⟨_, (pss_cons (ps_for PassesOwn.never rfl (pi_range1 (by rfl) B2.rng (pa_cons (pe_callB (call_max2 rfl) (by rfl) B2.max (by decide +kernel) (pa_cons pe_int (pa_cons (pe_callB (call_min2 rfl) (by rfl) B2.min (by decide +kernel) (pa_cons pe_int (pa_cons (pe_callB call_len_seq (by rfl) B.len PySem.boot_len (pa_cons (pv 0) pa_nil)) pa_nil))) pa_nil))) pa_nil)) (pg_name (i := 1) scLaw.nd rfl (.inl rfl))
        (pss_cons (ps_set (i := 2) scLaw.nd rfl (.inl rfl) (pe_call GG hr1 (by rfl) mgG kG bG .nil pass0 (pa_cons (pe_call GC hr1 (by rfl) mgC kC bC .nil pass0 (pa_cons (pv 0) (pa_cons (pv 1) pa_nil))) (pa_cons (pv 1) pa_nil))))
        (pss_cons (ps_asg (pe_call GB hr3 (by rfl) mgB kB bB .nil pass0 (pa_cons (pv 2) (pa_cons (pe_ix ix_list (pe_lst (pa_cons pe_int (pa_cons pe_int pa_nil))) (pe_callTy call_int1 (by rfl) Bint (by decide +kernel) (pa_cons (pe_cmpR op_gt (pv 1) pe_int (nomark _)) pa_nil)) (fun _ _ => rfl)) (pa_cons (pe_ix ix_list (pe_lst (pa_cons pe_int (pa_cons pe_int pa_nil))) (pe_callTy call_int1 (by rfl) Bint (by decide +kernel) (pa_cons (pe_cmpR op_gt (pv 1) pe_int (nomark _)) pa_nil)) (fun _ _ => rfl)) pa_nil)))) (pg_tup (by rfl) (pgs_cons (pg_name (i := 3) scLaw.nd rfl (.inl rfl)) (pgs_cons (pg_name (i := 4) scLaw.nd rfl (.inl rfl)) pgs_nil))))
        (pss_cons (ps_set (i := 5) scLaw.nd rfl (.inl rfl) (pe_call GF hr1 (by rfl) mgF kF bF .nil pass0 (pa_cons (pv 3) (pa_cons (pv 4) pa_nil))))
        (pss_one (ps_for PassesOwn.never rfl (pi_range1 (by rfl) B2.rng (pa_cons pe_int pa_nil)) (pg_name (i := 6) scLaw.nd rfl (.inl rfl))
          (pss_cons (ps_set (i := 7) scLaw.nd rfl (.inl rfl) (pe_call GL hr2 (by rfl) mgL kL bL .nil pass0 (pa_cons (pv 2) (pa_cons (pv 3) (pa_cons (pv 4) pa_nil)))))
          (pss_one (ps_for PassesOwn.never rfl (pi_list (pe_lst (pa_cons (pe_call GN hr2 (by rfl) mgN kN bN .nil pass0 (pa_cons (pv 2) (pa_cons (pv 7) (pa_cons (pv 5) pa_nil)))) (pa_cons (pe_call GS hr2 (by rfl) mgS kS bS .nil pass0 (pa_cons (pv 2) (pa_cons (pv 7) (pa_cons (pv 5) (pa_cons (pv 3) pa_nil))))) pa_nil)))) (pg_name (i := 8) scLaw.nd rfl (.inl rfl))
            (pss_cons (ps_set (i := 9) scLaw.nd rfl (.inl rfl) (pe_call GA hr2 (by rfl) mgA kA bA .nil pass0 (pa_cons (pv 3) (pa_cons (pv 4) (pa_cons (pv 8) (pa_cons (pv 5) pa_nil))))))
            (pss_cons (ps_if (pt_not (pt_val (pe_call GM hr2 (by rfl) mgM kM bM .nil pass0 (pa_cons (pe_call GY hr11 (by rfl) mgY kY bY .nil pass0 (pa_cons (pv 3) (pa_cons (pv 4) (pa_cons (pv 8) pa_nil)))) (pa_cons (pv 9) pa_nil)))))
              (pss_one (ps_ret pe_bl))
              pss_nil)
            (pss_cons (ps_if (pt_not (pt_val (pe_call GM hr2 (by rfl) mgM kM bM .nil pass0 (pa_cons (pe_callK0 GY hr11 (by rfl) mgY kY kbY pass0 (pk_cons (pv 8) (pk_cons (pv 4) (pk_cons (pv 3) pk_nil)))) (pa_cons (pv 9) pa_nil)))))
              (pss_one (ps_ret pe_bl))
              pss_nil)
            (pss_one (ps_if (pt_not (pt_val (pe_call GU hr1 (by rfl) mgU kU bU .nil pass0 (pa_cons (pe_call GP hr (by rfl) mgP kP bP .nil pass0 (pa_cons (pv 3) (pa_cons (pv 4) (pa_cons (pv 8) pa_nil)))) (pa_cons (pe_cmpR op_isN (pv 9) pe_non (nomark _)) pa_nil)))))
              (pss_one (ps_ret pe_bl))
              pss_nil))))))))))))))
      (pss_one (ps_ret (pe_cmpR (op_eqD hu) (pe_call GY hr11 (by rfl) mgY kY bY .nil pass0 (pa_cons (pe_tupD pa_nil) (pa_cons (pe_lst (pa_cons (pe_tup (pa_cons pe_str (pa_cons pe_str pa_nil))) pa_nil)) (pa_cons (pe_tupD (pa_cons pe_str pa_nil)) pa_nil)))) (pe_tup (pa_cons pe_str pa_nil)) (nomark _))))), ?_⟩
    refine ⟨.ref a, rfl, a, _, rfl, .inl hS, _, _, rfl, _, _, rfl, _, rfl, ?_, ?_, for_range (lo := 0) (n := _) (fun i σ H' => ∃ v1 v2 v3 v4 v5 v6 v7 v8 v9 : Option V, σ = [some (.ref a), v1, v2, v3, v4, v5, v6, v7, v8, v9] ∧ SqL K H' a (ns.map V.int) ∧ Tabs Ps H') ?_ ?_ ?_⟩
    · rw [List.length_map]
      split <;> split <;> omega
    · rw [List.length_map]
      split <;> split <;> omega
    · exact ⟨none, none, none, none, none, none, none, none, none, rfl, hS, hT⟩
    · rintro i σ Ha hi ⟨v1, v2, v3, v4, v5, v6, v7, v8, v9, rfl, hSa, hTa⟩
      have hi4 : i ≤ 64 := by
        rw [List.length_map] at hi
        split at hi <;> split at hi <;> omega
      have ek : [V.ref a, V.int (0 + (i : Int))] = [V.ref a, V.int ((i : Nat) : Int)] := by rw [Int.zero_add]
      have ek2 : ∀ c : Int, [V.int c, V.int (0 + (i : Int))] = [V.int c, V.int ((i : Nat) : Int)] := fun c => by rw [Int.zero_add]
      -- bag
      refine ⟨.ref a, rfl, _, rfl, a, ns, i, ek, hSa, fun c => ⟨_, rfl, c, i, ek2 c, hi4, fun s0 l0 hs0 hl0 => ?_⟩⟩
      have hSb : SqL K (upd Ha s0 (.lst l0)) a (ns.map V.int) := sq_same hSa (sm_new sm_refl hs0)
      have hTb : Tabs Ps (upd Ha s0 (.lst l0)) := tabs_new hTa hs0
      have off0 : Off K a s0 (ns.map V.int) := off_new hSa hs0
      have hsb : (upd Ha s0 (.lst l0)) s0 = some (.lst l0) := upd_same
      generalize upd Ha s0 (.lst l0) = Hb at hSb hTb hsb ⊢
      -- how wide, how many
      have pick : ∀ (x y : Nat) (b : Bool), ∃ m : Nat, atI [V.int (x : Nat), .int (y : Nat)] (if b = true then 1 else 0) = some (.int (m : Nat)) ∧ (m = x ∨ m = y) := fun x y b => by
        cases b with
        | false => exact ⟨x, atI_nat (j := 0) rfl, .inl rfl⟩
        | true => exact ⟨y, atI_nat (j := 1) rfl, .inr rfl⟩
      refine ⟨_, rfl, by show 2 ≤ sizeLine; decide, fun p8 hp8 => ?_⟩
      have sm8 : L2.Same Hb (upd Hb p8 (.lst [.int 40, .int 12])) := sm_new sm_refl hp8
      have hsc := sm8 _ _ hsb
      have hSc := sq_same hSb sm8
      have hTc := tabs_same hTb sm8
      have h8c : (upd Hb p8 (.lst [.int 40, .int 12])) p8 = some (.lst [.int 40, .int 12]) := upd_same
      generalize upd Hb p8 (.lst [.int 40, .int 12]) = Hc at hsc hSc hTc h8c ⊢
      obtain ⟨wd, hwd, hw8⟩ := pick 40 12 (decide ((0 : Int) < 0 + ((i : Nat) : Int)))
      refine ⟨_, rfl, _, _, rfl, rfl, .inr ⟨_, rfl, p8, _, _, _, rfl, rfl, SqL.of h8c, hwd, by show 2 ≤ sizeLine; decide, fun p9 hp9 => ?_⟩⟩
      have sm9 : L2.Same Hc (upd Hc p9 (.lst [.int 120, .int 40])) := sm_new sm_refl hp9
      have hsf := sm9 _ _ hsc
      have hSf := sq_same hSc sm9
      have hTf := tabs_same hTc sm9
      have h9f : (upd Hc p9 (.lst [.int 120, .int 40])) p9 = some (.lst [.int 120, .int 40]) := upd_same
      generalize upd Hc p9 (.lst [.int 120, .int 40]) = Hf at hsf hSf hTf h9f ⊢
      obtain ⟨ms, hms, hm8⟩ := pick 120 40 (decide ((0 : Int) < 0 + ((i : Nat) : Int)))
      -- initial, entries
      refine ⟨_, rfl, _, _, rfl, rfl, .inr ⟨_, rfl, p9, _, _, _, rfl, rfl, SqL.of h9f, hms, s0, l0, 0, wd, ms, rfl, hsf, hl0, by decide, by omega, fun Hg pp t o xs as es m l3 bt hpp hpp2 => ⟨pp, _, rfl, SqT.of hpp2, rfl, _, _, rfl, _, _, rfl, rfl, ?_⟩⟩⟩
      have hSg : SqL K Hg a (ns.map V.int) := by
        rcases off0 with n | e
        · exact bt.ch.seqL hSf n
        · exact .inr e
      have hTg : Tabs Ps Hg := bt.ch.tabs hsf hTf
      have G : Good xs es m := ⟨bt.nd, bt.cars, bt.ct, by have := bt.few1; omega, by have := bt.few2; omega⟩
      have cap : Capd 40 xs.length es := by
        have := bt.cap
        rw [show max 40 wd = 40 by omega] at this
        exact this
      have d1 : s0 ≠ o := ne_of_none hsf bt.o0
      have hxs : xs.length ≤ 40 := by have := bt.few1; omega
      have hes : es.length ≤ 120 := by have := bt.few2; omega
      -- folk
      refine ⟨.ref t, rfl, .ref o, rfl, t, o, xs, as, es, rfl, bt.t1.sq, SqL.of bt.o1, EvT.at_ bt.ev, by omega, by omega, fun Hh fk sm hfk0 hfk => ?_⟩
      have S0 : St14 K Ps a s0 t o fk ns xs as es (0 + (wd + 2 * ms + 3)) Hh := ⟨tabs_same hTg sm, sq_same hSg sm, ⟨l3, sm _ _ bt.s1, bt.src⟩, bt.t1.same sm, Paired.imp bt.ev fun _ _ q => sm _ _ q, sm _ _ bt.o1, hfk, d1, ne_of_none bt.s1 hfk0, off0⟩
      have knd := G.nd
      have kcar := G.cars
      have klen : (xs ++ arrs es).length ≤ 160 := by
        have := arrs_len es
        rw [List.length_append]
        omega
      refine ⟨_, rfl, by decide, by decide, for_range (lo := 0) (n := _) (fun j σ H' => ∃ (w1 w6 w7 w8 w9 : Option V) (n : Nat), σ = [some (.ref a), w1, some (.ref s0), some (.ref t), some (.ref o), some (.ref fk), w6, w7, w8, w9] ∧ St14 K Ps a s0 t o fk ns xs as es n H' ∧ n ≤ 1000 + 1000 * j) ?_ ?_ ?_⟩
      · exact ⟨_, v6, v7, v8, v9, _, rfl, S0, by omega⟩
      · rintro j σ H1 hj ⟨w1, w6, w7, w8, w9, n, rfl, S, hn⟩
        have hj4 : j < 8 := hj
        obtain ⟨l4, hl4, hv4⟩ := S.src
        refine ⟨.ref s0, rfl, .ref t, rfl, .ref o, rfl, s0, t, o, l4, n, xs, as, es, m, rfl, hl4, hv4, by omega, S.lane, S.ent, S.d1, S.ev, G, fun H3 p L l5 ch2 hs3 hv5 hp3 hrun => ?_⟩
        have S3 := S.ch ch2 hs3 hv5
        have Lnd := hrun.nodup G.nd
        have Lcar : ∀ x ∈ L, carB x = true := fun x hx => kcar x (hrun.mem x hx)
        have Lfew : L.length ≤ 40 := by
          obtain ⟨k, h1, h2⟩ := cnt_take' es xs.length m es.length G.ct (Nat.le_refl _)
          have h3 := cap es.length k h1
          have h4 := hrun.len
          rw [List.take_length] at h2
          omega
        have hne : L ≠ [] → xs ++ arrs es ≠ [] := fun h z => h (List.eq_nil_iff_forall_not_mem.mpr fun x hx => by
          have := hrun.mem x hx
          rw [z] at this
          cases this)
        -- the bent lane, the sided lane
        refine ⟨.ref s0, rfl, .ref p, rfl, .ref fk, rfl, s0, p, fk, l5, n + 201, L, xs ++ arrs es, rfl, hs3, hv5, by omega, hp3, S3.fol, S3.d2, Lnd, by omega, by omega, Lcar, kcar, hne, fun H4 p4 L4 l6 ch4 hs4 hv6 hp4 nd4 len4 car4 => ?_⟩
        have S4 := S3.ch ch4 hs4 hv6
        have hpp4 := ch4.tupD hp3 hs3
        refine ⟨.ref s0, rfl, .ref p, rfl, .ref fk, rfl, .ref t, rfl, s0, p, fk, t, l6, n + 201 + 5, L, xs ++ arrs es, xs, rfl, hs4, hv6, by omega, hpp4, S4.fol, S4.d2, S4.lane, Lnd, by omega, knd, by omega, Lcar, kcar, fun H5 p5 L5 l7 ch5 hs5 hv7 hp5 nd5 len5 car5 => ?_⟩
        have S5 := S4.ch ch5 hs5 hv7
        have hp45 := ch5.tupD hp4 hs4
        refine ⟨by show 2 ≤ sizeLine; decide, fun e8 he8 => ?_⟩
        have sm6 : L2.Same H5 (upd H5 e8 (.lst [.ref p4, .ref p5])) := sm_new sm_refl he8
        have S6 := S5.same sm6
        have hp46 := hp45.same sm6
        have hp56 := hp5.same sm6
        have he6 : (upd H5 e8 (.lst [.ref p4, .ref p5])) e8 = some (.lst [.ref p4, .ref p5]) := upd_same
        generalize upd H5 e8 (.lst [.ref p4, .ref p5]) = H6 at S6 hp46 hp56 he6 ⊢
        refine ⟨e8, rfl, ⟨_, SqL.of he6⟩, for_list (K := K) (a := e8) (xs := [.ref p4, .ref p5]) (fun u σ H' => ∃ (w1 w6 w8 w9 : Option V), σ = [some (.ref a), w1, some (.ref s0), some (.ref t), some (.ref o), some (.ref fk), w6, some (.ref p), w8, w9] ∧ St14 K Ps a s0 t o fk ns xs as es (n + 201 + 5 + 302) H' ∧ H' e8 = some (.lst [.ref p4, .ref p5]) ∧ TupD H' p4 (L4.map V.str) ∧ TupD H' p5 (L5.map V.str)) ?_ ?_ ?_ ?_⟩
        · exact ⟨_, _, _, _, rfl, S6, he6, hp46, hp56⟩
        · rintro u σ H' _ ⟨_, _, _, _, _, _, h, _⟩
          exact SqL.of h
        · rintro u x σ H7 hu7 ⟨w1', w6', w8', w9', rfl, S7, he7, hp47, hp57⟩
          obtain ⟨pz, Lz, rfl, hz, ndz, lenz, carz⟩ : ∃ (pz : Addr) (Lz : List Str), x = .ref pz ∧ TupD H7 pz (Lz.map V.str) ∧ Lz.Nodup ∧ Lz.length ≤ 300 ∧ ∀ y ∈ Lz, carB y = true := by
            match u, hu7 with
            | 0, h =>
              obtain rfl := Option.some.inj h
              exact ⟨p4, L4, rfl, hp47, nd4, len4, car4⟩
            | 1, h =>
              obtain rfl := Option.some.inj h
              exact ⟨p5, L5, rfl, hp57, nd5, by omega, car5⟩
            | u + 2, h => simp at h
          refine ⟨.ref t, rfl, .ref o, rfl, .ref pz, rfl, .ref fk, rfl, t, o, pz, fk, xs, as, es, Lz, rfl, S7.lane, S7.ent, S7.ev, by omega, hz, S7.fol, by omega, by omega, ndz, knd, carz, kcar, fun J1 v1 sm1 hv1 => ?_⟩
          have T1 := S7.same sm1
          have q1 := hz.same sm1
          have A1 := atV_of hv1
          refine ⟨.ref t, rfl, .ref o, rfl, .ref pz, rfl, t, o, pz, xs, as, es, Lz, rfl, G.startAt T1.lane, G.laneB, G.logAt T1.ent T1.ev, G.logB, laneAt_of q1 (by omega) carz, laneB_of ndz carz, q1, T1.tabs, fun J2 v2 k2 hv2 => ⟨v1, rfl, ?_⟩⟩
          dsimp only [tNil, List.cons_append, List.nil_append, List.append_nil]
          refine same_ask (atV_of hv2) (A1.kp k2 T1.tabs) fun J3 sm3 => ⟨_, rfl, iteF ?_⟩
          have T3 := (T1.kp k2).same sm3
          have q3 := (q1.kp k2 T1.tabs).same sm3
          have A3 := (A1.kp k2 T1.tabs).same sm3
          refine ⟨.ref pz, rfl, .ref o, rfl, .ref t, rfl, t, o, pz, xs, as, es, Lz, rfl, G.startAt T3.lane, G.laneB, G.logAt T3.ent T3.ev, G.logB, laneAt_of q3 (by omega) carz, laneB_of ndz carz, q3, T3.tabs, fun J4 v4 k4 hv4 => ⟨v1, rfl, ?_⟩⟩
          dsimp only [tNil, List.cons_append, List.nil_append, List.append_nil]
          refine same_ask (atV_of hv4) (A3.kp k4 T3.tabs) fun J5 sm5 => ⟨_, rfl, iteF ?_⟩
          have T5 := (T3.kp k4).same sm5
          have q5 := (q3.kp k4 T3.tabs).same sm5
          have A5 := (A3.kp k4 T3.tabs).same sm5
          refine ⟨.ref t, rfl, .ref o, rfl, .ref pz, rfl, t, o, pz, xs, as, es, Lz, rfl, G.startAt T5.lane, G.laneB, G.logAt T5.ent T5.ev, G.logB, laneAt_of q5 (by omega) carz, laneB_of ndz carz, q5, T5.tabs, fun J6 k6 => ⟨v1, rfl, rfl, _, _, rfl, _, rfl, ?_⟩⟩
          rw [A5.is_non, decide_eq_true rfl]
          refine iteF ?_
          exact ⟨_, _, _, _, rfl, T5.kp k6, k6.lst T5.tabs (sm5 _ _ (k4.lst T3.tabs (sm3 _ _ (k2.lst T1.tabs (sm1 _ _ he7))))), ((((hp47.same sm1).kp k2 T1.tabs).same sm3).kp k4 T3.tabs |>.same sm5).kp k6 T5.tabs, ((((hp57.same sm1).kp k2 T1.tabs).same sm3).kp k4 T3.tabs |>.same sm5).kp k6 T5.tabs⟩
        · rintro σ H7 ⟨w1', w6', w8', w9', rfl, S7, he7, hp47, hp57⟩
          exact ⟨_, _, _, _, _, _, rfl, S7, by omega⟩
      · rintro σ H1 ⟨w1, w6, w7, w8, w9, n, rfl, S, hn⟩
        exact ⟨_, _, _, _, _, _, _, _, _, rfl, S.scr, S.tabs⟩
    · rintro σ Ha ⟨_, _, _, _, _, _, _, _, _, rfl, _, hTa⟩
      have smq : ∀ {H : Hp} {p : Addr} {o : HO}, H p = none → L2.Same H (upd H p o) := fun h => sm_new sm_refl h
      refine ⟨by show 0 ≤ sizeLine; decide, fun p5 ob5 hob5 hp5 => ⟨by show 2 ≤ sizeLine; decide, fun b6 hb6 => ⟨by show 1 ≤ sizeLine; decide, fun p6 hp6 => ⟨by show 1 ≤ sizeLine; decide, fun p7 ob7 hob7 hp7 => ?_⟩⟩⟩⟩
      have t1 : TupD _ p5 (([] : List Str).map V.str) := (TupD.of (H := Ha) (p := p5) (xs := []) hob5).same (sm_trans (smq (o := .tup [.str "in", .str "a"]) hb6) (sm_trans (smq (o := .lst [.ref b6]) hp6) (smq (o := .frz ob7 (.tup [.str "b"])) hp7)))
      have t2 := (smq (o := .frz ob7 (.tup [.str "b"])) hp7) _ _ (upd_same (o := .lst [.ref b6]))
      have t4 := (sm_trans (smq (o := .lst [.ref b6]) hp6) (smq (o := .frz ob7 (.tup [.str "b"])) hp7)) _ _ (upd_same (o := .tup [.str "in", .str "a"]))
      have t3 : TupD _ p7 (([("b" : Str)] : List Str).map V.str) := TupD.of (H := upd (upd (upd Ha p5 (.frz ob5 (.tup []))) b6 (.tup [.str "in", .str "a"])) p6 (.lst [.ref b6])) (xs := [.str "b"]) hob7
      have tb := tabs_same hTa (sm_trans (smq (o := .frz ob5 (.tup [])) hp5) (sm_trans (smq (o := .tup [.str "in", .str "a"]) hb6) (sm_trans (smq (o := .lst [.ref b6]) hp6) (smq (o := .frz ob7 (.tup [.str "b"])) hp7))))
      refine ⟨p5, p6, p7, [], [b6], [.inn "a"], ["b"], rfl, laneAt_of t1 (by decide) (fun _ h => nomatch h), rfl, ⟨SqL.of t2, .cons (SqT.of t4) .nil, by decide, fun c hc => ?_⟩, by decide +kernel, laneAt_of t3 (by decide) (fun x hx => by rw [List.mem_singleton.mp hx]; decide +kernel), by decide +kernel, t3, tb, fun HZ vz kz hz => ?_⟩
      · have : c = "a" := by simpa using hc
        rw [this, sizeLine_eq]
        decide
      have az : AtV HZ vz (some [.str "cars"]) := by
        have := atV_of hz
        rw [show whyT (why [] [.inn "a"] ["b"]) = some [.str "cars"] from by
          have : carsOk [] [.inn "a"] ["b"] = false := by decide +kernel
          unfold why
          rw [if_pos this]
          rfl] at this
        exact this
      obtain ⟨pz, rfl, hpz⟩ := az
      refine ⟨by show 1 ≤ sizeLine; decide, fun ez hez => ⟨.tuple [.str "cars"], .tuple [.str "cars"], .tup (SqT.of ((smq (o := .tup [.str "cars"]) hez) _ _ hpz)) (.cons (.str _) .nil), .tup (SqT.of upd_same) (.cons (.str _) .nil), by decide +kernel, by decide +kernel, ?_⟩⟩
      rw [show PyData.eqv (.tuple [.str "cars"]) (.tuple [.str "cars"]) = true by decide +kernel]
      exact q _
end
end Ln


set_option Elab.async false
set_option linter.all false
set_option maxRecDepth 100000
set_option maxHeartbeats 2000000
namespace Ln
open PySem PySem.Spec PyProof.Rows L2 GxR LamX
/-! ### the law's call -/
/-- what is tracked as the law is called: the tables, and the script where the heap's written part has it not -/
def topH (K : PySem.W.Frag) (cs : List (Addr × Addr)) (a : Addr) (vs : List Value) (ns : List Int) : Hp := fun b =>
  if b ∈ cs.map (·.2) then some (.tbl #[]) else if b = a ∧ K.lookup a = none then some (.frz { cls := .type "list", data := .seq vs.toArray } (.lst (ns.map V.int))) else none
section
variable {P : Program} {w : World} {K : PySem.W.Frag} {cs : List (Addr × Addr)} {a b : Addr} {vs : List Value} {ns : List Int} {h : Heap} {o : HO}
theorem topH_of (e : topH K cs a vs ns b = some o) : (b ∈ cs.map (·.2) ∧ o = .tbl #[]) ∨ (b = a ∧ K.lookup a = none ∧ o = .frz { cls := .type "list", data := .seq vs.toArray } (.lst (ns.map V.int))) := by
  unfold topH at e
  by_cases q : b ∈ cs.map (·.2)
  · rw [if_pos q] at e
    exact .inl ⟨q, (Option.some.inj e).symm⟩
  · rw [if_neg q] at e
    by_cases r : b = a ∧ K.lookup a = none
    · rw [if_pos r] at e
      exact .inr ⟨r.1, r.2, (Option.some.inj e).symm⟩
    · rw [if_neg r] at e
      cases e
theorem topH_tab {p : Addr × Addr} (hp : p ∈ cs) : topH K cs a vs ns p.2 = some (.tbl #[]) := by
  unfold topH
  exact if_pos (List.mem_map.mpr ⟨p, hp, rfl⟩)
theorem tab_at (hT : ∀ p ∈ cs, h.get? p.2 = some { cls := .none, data := .fields #[] }) (hb : b ∈ cs.map (·.2)) : h.get? b = some { cls := .none, data := .fields #[] } := by
  obtain ⟨p, hp, rfl⟩ := List.mem_map.mp hb
  exact hT p hp
theorem scr_tab (hT : ∀ p ∈ cs, h.get? p.2 = some { cls := .none, data := .fields #[] }) (ha : h.get? a = some { cls := .type "list", data := .seq vs.toArray }) : a ∉ cs.map (·.2) := fun q => by
  have := tab_at hT q
  rw [ha] at this
  have := congrArg Obj.data (Option.some.inj this)
  cases this
theorem topH_sq (hT : ∀ p ∈ cs, h.get? p.2 = some { cls := .none, data := .fields #[] }) (ha : h.get? a = some { cls := .type "list", data := .seq vs.toArray }) (KX : K.In h) (hi : IntsAre vs ns) (hl : ns.length ≤ sizeLine) : SqL K (topH K cs a vs ns) a (ns.map V.int) := by
  cases hk : K.lookup a with
  | none =>
    refine .inl (.inr ⟨{ cls := .type "list", data := .seq vs.toArray }, ?_⟩)
    unfold topH
    rw [if_neg (scr_tab hT ha), if_pos ⟨rfl, hk⟩]
  | some ob =>
    have e := KX a ob hk
    rw [ha] at e
    obtain rfl := Option.some.inj e
    exact .inr ⟨_, vs.toArray, _, hk, rfl, rfl, rfl, by rw [List.size_toArray, hi.length]; exact hl, by simpa using vals_ints hi⟩
theorem topH_ok (hT : ∀ p ∈ cs, h.get? p.2 = some { cls := .none, data := .fields #[] }) (ha : h.get? a = some { cls := .type "list", data := .seq vs.toArray }) (hi : IntsAre vs ns) (hl : ns.length ≤ sizeLine) : HOk P w (topH K cs a vs ns) h := fun b o e => by
  rcases topH_of e with ⟨q, rfl⟩ | ⟨rfl, _, rfl⟩
  · exact tab_at hT q
  · exact ⟨ha, by rw [List.length_map]; exact hl, vs, _, vals_ints hi, ha⟩
/-- an object that is no list and no table is not tracked -/
theorem topH_non (hT : ∀ p ∈ cs, h.get? p.2 = some { cls := .none, data := .fields #[] }) (ha : h.get? a = some { cls := .type "list", data := .seq vs.toArray }) {ob : Obj} (e : h.get? b = some ob) (h1 : ∀ us n, ob.data ≠ .seq us n) (h2 : ob.data ≠ .fields #[]) : topH K cs a vs ns b = none := by
  cases q : topH K cs a vs ns b with
  | none => rfl
  | some u =>
    rcases topH_of q with ⟨z, _⟩ | ⟨rfl, _, _⟩
    · rw [tab_at hT z] at e
      exact absurd (congrArg Obj.data (Option.some.inj e)).symm h2
    · rw [ha] at e
      exact absurd (congrArg Obj.data (Option.some.inj e)).symm (h1 _ _)
theorem topH_K (hT : ∀ p ∈ cs, h.get? p.2 = some { cls := .none, data := .fields #[] }) (nT : ∀ p ∈ cs, K.lookup p.2 = none) {ob : Obj} (e : K.lookup b = some ob) : topH K cs a vs ns b = none := by
  cases q : topH K cs a vs ns b with
  | none => rfl
  | some u =>
    rcases topH_of q with ⟨z, _⟩ | ⟨rfl, z, _⟩
    · obtain ⟨p, hp, rfl⟩ := List.mem_map.mp z
      rw [nT p hp] at e
      cases e
    · rw [z] at e
      cases e
theorem Ns.top (hT : ∀ p ∈ cs, h.get? p.2 = some { cls := .none, data := .fields #[] }) (ha : h.get? a = some { cls := .type "list", data := .seq vs.toArray }) {d : Addr} {m : Str → Option Value} (e : h.Ns d m) : (hidT h (topH K cs a vs ns)).Ns d m := by
  obtain ⟨ob, es, ep, e1, e2, r⟩ := e
  exact ⟨ob, es, ep, hidT_get e1 (topH_non hT ha e1 (fun us n z => by rw [e2] at z; cases z) fun z => by rw [e2] at z; cases z), e2, r⟩
end
/-- the law is called on a script, nothing being shown -/
theorem law_callG {P : Program} {w : World} {K : PySem.W.Frag} {mg mb : Str → Option Value} {k : Nat} {fa a : Addr} {cs : List (Addr × Addr)} {fd : FuncData} {x : Str} {sp : Sp} {s : Shared} {vs : List Value} {ns : List Int} (KX : K.In s.heap) (hns : s.heap.Ns mainGlobals mg) (hb : s.heap.Ns builtinsNs mb) (hbb : ∀ x : Str, x ≠ "__name__" → mb x = bootBuiltins x) (hlim : s.heap.NoLimit) (hg : s.gens = #[])
    (hT : ∀ p ∈ cs, s.heap.get? p.2 = some { cls := .none, data := .fields #[] }) (nT : ∀ p ∈ cs, K.lookup p.2 = none) (C : ∀ p ∈ cs, PySem.W.CodeHd s.heap p.1 p.2)
    (hbm : ∃ (bm : Addr) (ob : Obj), mg "__builtins__" = some (.ref bm) ∧ bm ≠ builtinsNs ∧ s.heap.get? bm = some ob ∧ ob.cls = .type "module" ∧ ob.dict = some builtinsNs ∧ ob.data = .plain)
    (ha : s.heap.get? a = some { cls := .type "list", data := .seq vs.toArray }) (hi : IntsAre vs ns) (hl : ns.length ≤ sizeLine) (hr : Room k callerA)
    (F : ∀ base : Heap, K.In base → base.Ns mainGlobals mg → (∀ p ∈ cs, GxR.TabB base mg p.1 p.2) → FnG P w K mg base k fa fd [x] sp) (hbind : ∀ (s : Shared) (u : Value), BindsTo s fd ⟨[u], []⟩ [(x, u)])
    (hsp : ∀ H : Hp, (∀ p ∈ cs, H p.2 = some (.tbl #[])) → SqL K H a (ns.map V.int) → sp [.ref a] H (fun v _ => v = .bl true) E0) :
    codeAny (model P w) callerA (.call (.ref fa) ⟨[.ref a], []⟩) (fun r s' => r = .ok (.ret (.bool true)) ∧ OldK s.heap s'.heap ∧ s'.os = s.os ∧ AllBare s'.gens) s := by
  have hH : ∀ p ∈ cs, topH K cs a vs ns p.2 = some (.tbl #[]) := fun p hp => topH_tab hp
  have hok : HOk P w (topH K cs a vs ns) s.heap := topH_ok hT ha hi hl
  have hKb : K.In (hidT s.heap (topH K cs a vs ns)) := fun b ob e => hidT_get (KX b ob e) (topH_K hT nT e)
  have gG := Ns.top (K := K) (ns := ns) hT ha hns
  have TB : ∀ p ∈ cs, GxR.TabB (hidT s.heap (topH K cs a vs ns)) mg p.1 p.2 := fun p hp => by
    have hTp := hT p hp
    obtain ⟨bm, ob, b1, b2, b3, b4, b5, b6⟩ := hbm
    obtain ⟨og, eg, epg, q1, q2, _⟩ := hns
    refine ⟨?_, ⟨bm, ob, b1, b2, fun z => ?_, fun z => ?_, hidT_get b3 (topH_non hT ha b3 (fun us n z => by rw [b6] at z; cases z) fun z => by rw [b6] at z; cases z), b4, b5, b6⟩, fun z => ?_⟩
    · obtain ⟨o, us, file, tf, flags, tg, inF, text, tt, e1, r1, r2, r3, r⟩ := C p hp
      refine ⟨o, us, file, tf, flags, tg, inF, text, tt, hidT_get e1 (topH_non hT ha e1 (fun us n z => by rw [r2] at z; cases z) fun z => ?_), r1, r2, r3, r⟩
      rw [r2] at z
      cases z
      simp at r3
    · rw [z, q1] at b3
      cases b3
      rw [q2] at b6
      cases b6
    · rw [z, hTp] at b3
      cases b3
      cases b6
    · rw [z, hTp] at q1
      cases q1
      cases q2
  have e0 : Env0 P w K mg (hidT s.heap (topH K cs a vs ns)) callerA [] s (topH K cs a vs ns) :=
    ⟨rfl, ⟨hKb, gG, ⟨mb, Ns.top hT ha hb, hbb⟩, hlim.imp fun mc h1 => ⟨Ns.top hT ha h1.1, h1.2⟩⟩, fun b o e => of_hidT e, Nat.le_of_eq (hidT_size _ _), trivial, fun b hb => absurd (show b ∈ ([] : List Addr) from hb) (by simp), hok, .of_eq hg⟩
  refine codeAny_mono ((F _ hKb gG TB).run callerA [] s (topH K cs a vs ns) ⟨[.ref a], []⟩ [.ref a] [.ref a] _ _ hr rfl e0 (hbind s (.ref a)) (.cons rfl .nil) (hsp _ hH (topH_sq hT ha KX hi hl))) fun r s' h => ?_
  match r, h with
  | .error e, h => exact False.elim h
  | .ok .next, h => exact False.elim h
  | .ok .brk, h => exact False.elim h
  | .ok .cont, h => exact False.elim h
  | .ok (.ret u), ⟨v, H', os, bare, un, hok', r', q⟩ =>
    obtain rfl : v = .bl true := q
    obtain rfl : u = Value.bool true := r'
    have old : ∀ b o, b ∉ cs.map (·.2) → s.heap.get? b = some o → s'.heap.get? b = some o := fun b o nb e => by
      cases q : topH K cs a vs ns b with
      | none => exact un.keep b o e q (fun z => absurd (show b ∈ ([] : List Addr) from z) (by simp)) (by simp)
      | some u =>
        rcases topH_of q with ⟨z, _⟩ | ⟨rfl, _, rfl⟩
        · exact absurd z nb
        · rw [ha] at e
          obtain rfl := Option.some.inj e
          exact (hok' _ _ (un.frzs _ _ _ q)).1
    have tabs : ∀ p ∈ cs, ∃ more : Array Value, s'.heap.get? p.2 = some { cls := .none, data := .fields more } := fun p hp => let ⟨more, z⟩ := un.tbls p.2 #[] (hH p hp); ⟨_, hok' p.2 _ z⟩
    refine ⟨rfl, ⟨fun b o e => ?_, fun b o e => ?_⟩, os, bare⟩
    all_goals by_cases hb : b ∈ cs.map (·.2)
    · obtain ⟨p, hp, rfl⟩ := List.mem_map.mp hb
      obtain ⟨more, hm⟩ := tabs p hp
      obtain rfl := Option.some.inj ((hT p hp).symm.trans e)
      exact .inr (.inl ⟨((C p hp).tab (hT p hp)).isCodeTable, rfl, #[], more, rfl, by rw [Array.empty_append]; exact hm⟩)
    · exact .inl (old b o hb e)
    · obtain ⟨p, hp, rfl⟩ := List.mem_map.mp hb
      obtain ⟨more, hm⟩ := tabs p hp
      exact ⟨_, hm⟩
    · exact ⟨o, old b o hb e⟩
end Ln


set_option Elab.async false
set_option linter.all false
set_option maxRecDepth 100000
set_option maxHeartbeats 2000000
namespace Ln
open PySem PySem.Spec PyProof.Rows L2 GxR LamX
/-! ### what the top has written -/
theorem kbx0 {K : PySem.W.Frag} {x : Str} {st : Stmt} {f : Addr} {fd : FuncData} (F : Fun K x x st f fd)
    (h : ∀ (kV doc pm : Value) (an : Option Addr) (cdv ct u v y : Value), bindArgs (PySem.W.fnOf x x (defArgs st) (defBody st) (defScope st) .none kV doc pm an cdv ct) ⟨[], [("lane", u), ("log", v), ("start", y)]⟩ = (pure [("start", y), ("log", v), ("lane", u)] : Sem (List (Str × Value)))) : KBinds K fd ["start", "log", "lane"] ["lane", "log", "start"] rev3 rev3 := by
  obtain ⟨oc, od, kV, doc, pm, an, cdv, ct, osl, rfl, lk, hcd⟩ := F.ex
  refine ⟨fun s us ws hK hl => ?_, fun {vs us zs ws} r1 r2 => ?_⟩
  · match us, ws, hl with
    | [], [u, v, y], _ => exact .of_eq (h kV doc pm an cdv ct u v y)
  · match r1, r2 with
    | .nil, .nil => exact .nil
    | .nil, .cons a .nil => exact .nil
    | .nil, .cons a (.cons b .nil) => exact .nil
    | .nil, .cons a (.cons b (.cons c .nil)) => exact .cons c (.cons b (.cons a .nil))
    | .nil, .cons a (.cons b (.cons c (.cons d e))) => exact .nil
    | .cons a b, _ => exact .nil
structure DefR (K : PySem.W.Frag) (x : Str) (st : Stmt) : Prop where
  ex : ∃ (f : Addr) (fd : FuncData), PySem.W.nsIn K mainGlobals x = some (some (.ref f)) ∧ Fun K x x st f fd
structure DefC (K : PySem.W.Frag) (x : Str) (st : Stmt) : Prop where
  ex : ∃ (f c p : Addr) (fd : FuncData), PySem.W.nsIn K mainGlobals x = some (some (.ref f)) ∧ FunC K x x st f fd c ∧ PySem.W.tabIn K x = some (c, p) ∧ K.lookup p = none
theorem def_mk {K : PySem.W.Frag} {x : Str} {st : Stmt} {f : Addr} {oc : Value} {od an : Option Addr} {osl : Array (Option Value)} {kV doc pm cdv ct : Value} (a : PySem.W.nsIn K mainGlobals x = some (some (.ref f)))
    (l : K.lookup f = some ⟨oc, od, .func (PySem.W.fnOf x x (defArgs st) (defBody st) (defScope st) .none kV doc pm an cdv ct), osl⟩) (c : PySem.W.codeIn K cdv x = true) (k : PySem.W.keepIn K (.ref f) = true) : DefR K x st := ⟨⟨_, _, a, fun_mk l c k⟩⟩
theorem defC_mk {K : PySem.W.Frag} {x : Str} {st : Stmt} {f cd p : Addr} {oc o1 : Value} {od an o2 : Option Addr} {osl o3 : Array (Option Value)} {us : Array Value} {kV doc pm ct : Value} (a : PySem.W.nsIn K mainGlobals x = some (some (.ref f)))
    (l : K.lookup f = some ⟨oc, od, .func (PySem.W.fnOf x x (defArgs st) (defBody st) (defScope st) .none kV doc pm an (.ref cd) ct), osl⟩) (c : PySem.W.codeIn K (.ref cd) x = true) (k : PySem.W.keepIn K (.ref f) = true)
    (lc : K.lookup cd = some ⟨o1, o2, .fields us, o3⟩) (hv : us[11]? = some (.ref p)) (hn : K.lookup p = none) : DefC K x st := by
  refine ⟨_, cd, p, _, a, ⟨⟨oc, od, kV, doc, pm, an, ct, osl, rfl, l, c⟩, k⟩, ?_, hn⟩
  unfold PySem.W.tabIn
  rw [a]
  simp only [l, PySem.W.fnOf, lc, hv]
/-- the tables, and the law's own promise -/
structure AllAt (P : Program) (w : World) (K : PySem.W.Frag) (mg : Str → Option Value) (fa : Addr) (cs : List (Addr × Addr)) (fd : FuncData) : Prop where
  bind : ∀ (s : Shared) (u : Value), BindsTo s fd ⟨[u], []⟩ [("script", u)]
  ok : ∀ base : Heap, K.In base → base.Ns mainGlobals mg → (∀ p ∈ cs, GxR.TabB base mg p.1 p.2) → FnG P w K mg base 13 fa fd ["script"] (spLaw K (cs.map (·.2)))
theorem all_mk {P : Program} {w : World} {K : PySem.W.Frag} {h : Heap} {mg : Str → Option Value} {fa : Addr} (X : K.In h) (G : h.Ns mainGlobals mg) (hfa : mg "law" = some (.ref fa))
    (D_is_car : DefC K "is_car" sIsCar)
    (D_is_lane : DefC K "is_lane" sIsLane)
    (D_is_arrival : DefR K "is_arrival" sIsArr)
    (D_is_departure : DefR K "is_departure" sIsDep)
    (D_has_word : DefR K "has_word" sHasW)
    (D_is_log : DefR K "is_log" sIsLog)
    (D_require_lane : DefR K "require_lane" sReqLane)
    (D_require_log : DefR K "require_log" sReqLog)
    (D_sizes : DefR K "sizes" sSizes)
    (D_numbers : DefR K "numbers" sNumbers)
    (D_opposite : DefR K "opposite" sOpp)
    (D_departure_counts : DefR K "departure_counts" sDepC)
    (D_extras : DefR K "extras" sExtras)
    (D_first_negative : DefR K "first_negative" sFirstNeg)
    (D_block_range : DefR K "block_range" sBlockR)
    (D_is_possible : DefR K "is_possible" sIsPoss)
    (D_why_not : DefR K "why_not" sWhyNot)
    (D_require_final_lane : DefR K "require_final_lane" sReqFin)
    (D_has_right_cars : DefC K "has_right_cars" sHasRC)
    (D_has_block : DefR K "has_block" sHasBlk)
    (D_first_peak : DefR K "first_peak" sFirstPk)
    (D_arriving_stayers : DefR K "arriving_stayers" sArrSt)
    (D_switch_conflict : DefR K "switch_conflict" sSwitch)
    (D_law_cell_at : DefR K "_law_cell_at" sCell)
    (D_law_same : DefR K "_law_same" sSame)
    (D_law_bag : DefR K "_law_bag" sBag)
    (D_law_take : DefR K "_law_take" sTake)
    (D_law_names : DefR K "_law_names" sNames)
    (D_law_built : DefR K "_law_built" sBuilt)
    (D_law_lived : DefR K "_law_lived" sLived)
    (D_law_counts : DefR K "_law_counts" sCounts)
    (D_law_folk : DefR K "_law_folk" sFolk)
    (D_law_bent : DefR K "_law_bent" sBent)
    (D_law_sided : DefR K "_law_sided" sSided)
    (D_law_switch : DefR K "_law_switch" sSwC)
    (D_law_reason : DefR K "_law_reason" sReason)
    (D_law_truth : DefR K "_law_truth" sTruth)
    (D_law : DefR K "law" sLaw)
    (z_isinstance : PySem.W.nsIn K mainGlobals "isinstance" = some none)
    (z_len : PySem.W.nsIn K mainGlobals "len" = some none)
    (z_all : PySem.W.nsIn K mainGlobals "all" = some none)
    (z_str : PySem.W.nsIn K mainGlobals "str" = some none)
    (z_tuple : PySem.W.nsIn K mainGlobals "tuple" = some none)
    (z_list : PySem.W.nsIn K mainGlobals "list" = some none)
    (z_set : PySem.W.nsIn K mainGlobals "set" = some none)
    (z_zip : PySem.W.nsIn K mainGlobals "zip" = some none)
    (z_max : PySem.W.nsIn K mainGlobals "max" = some none)
    (z_min : PySem.W.nsIn K mainGlobals "min" = some none)
    (z_abs : PySem.W.nsIn K mainGlobals "abs" = some none)
    (z_range : PySem.W.nsIn K mainGlobals "range" = some none)
    (z_repr : PySem.W.nsIn K mainGlobals "repr" = some none)
    (z_enumerate : PySem.W.nsIn K mainGlobals "enumerate" = some none)
    (z_sorted : PySem.W.nsIn K mainGlobals "sorted" = some none)
    (z_bool : PySem.W.nsIn K mainGlobals "bool" = some none)
    (z_dict : PySem.W.nsIn K mainGlobals "dict" = some none)
    (z_int : PySem.W.nsIn K mainGlobals "int" = some none)
    : ∃ (c1 p1 c2 p2 c3 p3 : Addr) (fd : FuncData), PySem.W.tabIn K "is_car" = some (c1, p1) ∧ PySem.W.tabIn K "is_lane" = some (c2, p2) ∧ PySem.W.tabIn K "has_right_cars" = some (c3, p3) ∧ K.lookup p1 = none ∧ K.lookup p2 = none ∧ K.lookup p3 = none ∧ 
      AllAt P w K mg fa [(c1, p1), (c2, p2), (c3, p3)] fd := by
  have nn : ∀ {x : Str}, PySem.W.nsIn K mainGlobals x = some none → mg x = none := fun e => PySem.W.mg_none_of X G e
  have B : Bi mg := ⟨nn z_isinstance, nn z_len, nn z_all, nn z_str, nn z_tuple, nn z_list, nn z_set, nn z_zip⟩
  have B2 : Bl mg := ⟨nn z_max, nn z_min, nn z_abs, nn z_range, nn z_repr⟩
  have B3 : Bn mg := ⟨nn z_enumerate, nn z_range⟩
  have BB : Bb mg := ⟨nn z_bool⟩
  obtain ⟨f0, c1, p1, fd0, a0, F0, t1, n1⟩ := D_is_car.ex
  have m0 := PySem.W.mg_of X G a0
  obtain ⟨f1, c2, p2, fd1, a1, F1, t2, n2⟩ := D_is_lane.ex
  have m1 := PySem.W.mg_of X G a1
  obtain ⟨f2, fd2, a2, F2⟩ := D_is_arrival.ex
  have m2 := PySem.W.mg_of X G a2
  obtain ⟨f3, fd3, a3, F3⟩ := D_is_departure.ex
  have m3 := PySem.W.mg_of X G a3
  obtain ⟨f4, fd4, a4, F4⟩ := D_has_word.ex
  have m4 := PySem.W.mg_of X G a4
  obtain ⟨f5, fd5, a5, F5⟩ := D_is_log.ex
  have m5 := PySem.W.mg_of X G a5
  obtain ⟨f6, fd6, a6, F6⟩ := D_require_lane.ex
  have m6 := PySem.W.mg_of X G a6
  obtain ⟨f7, fd7, a7, F7⟩ := D_require_log.ex
  have m7 := PySem.W.mg_of X G a7
  obtain ⟨f8, fd8, a8, F8⟩ := D_sizes.ex
  have m8 := PySem.W.mg_of X G a8
  obtain ⟨f9, fd9, a9, F9⟩ := D_numbers.ex
  have m9 := PySem.W.mg_of X G a9
  obtain ⟨f10, fd10, a10, F10⟩ := D_opposite.ex
  have m10 := PySem.W.mg_of X G a10
  obtain ⟨f11, fd11, a11, F11⟩ := D_departure_counts.ex
  have m11 := PySem.W.mg_of X G a11
  obtain ⟨f12, fd12, a12, F12⟩ := D_extras.ex
  have m12 := PySem.W.mg_of X G a12
  obtain ⟨f13, fd13, a13, F13⟩ := D_first_negative.ex
  have m13 := PySem.W.mg_of X G a13
  obtain ⟨f14, fd14, a14, F14⟩ := D_block_range.ex
  have m14 := PySem.W.mg_of X G a14
  obtain ⟨f15, fd15, a15, F15⟩ := D_is_possible.ex
  have m15 := PySem.W.mg_of X G a15
  obtain ⟨f16, fd16, a16, F16⟩ := D_why_not.ex
  have m16 := PySem.W.mg_of X G a16
  obtain ⟨f17, fd17, a17, F17⟩ := D_require_final_lane.ex
  have m17 := PySem.W.mg_of X G a17
  obtain ⟨f18, c3, p3, fd18, a18, F18, t3, n3⟩ := D_has_right_cars.ex
  have m18 := PySem.W.mg_of X G a18
  obtain ⟨f19, fd19, a19, F19⟩ := D_has_block.ex
  have m19 := PySem.W.mg_of X G a19
  obtain ⟨f20, fd20, a20, F20⟩ := D_first_peak.ex
  have m20 := PySem.W.mg_of X G a20
  obtain ⟨f21, fd21, a21, F21⟩ := D_arriving_stayers.ex
  have m21 := PySem.W.mg_of X G a21
  obtain ⟨f22, fd22, a22, F22⟩ := D_switch_conflict.ex
  have m22 := PySem.W.mg_of X G a22
  obtain ⟨f23, fd23, a23, F23⟩ := D_law_cell_at.ex
  have m23 := PySem.W.mg_of X G a23
  obtain ⟨f24, fd24, a24, F24⟩ := D_law_same.ex
  have m24 := PySem.W.mg_of X G a24
  obtain ⟨f25, fd25, a25, F25⟩ := D_law_bag.ex
  have m25 := PySem.W.mg_of X G a25
  obtain ⟨f26, fd26, a26, F26⟩ := D_law_take.ex
  have m26 := PySem.W.mg_of X G a26
  obtain ⟨f27, fd27, a27, F27⟩ := D_law_names.ex
  have m27 := PySem.W.mg_of X G a27
  obtain ⟨f28, fd28, a28, F28⟩ := D_law_built.ex
  have m28 := PySem.W.mg_of X G a28
  obtain ⟨f29, fd29, a29, F29⟩ := D_law_lived.ex
  have m29 := PySem.W.mg_of X G a29
  obtain ⟨f30, fd30, a30, F30⟩ := D_law_counts.ex
  have m30 := PySem.W.mg_of X G a30
  obtain ⟨f31, fd31, a31, F31⟩ := D_law_folk.ex
  have m31 := PySem.W.mg_of X G a31
  obtain ⟨f32, fd32, a32, F32⟩ := D_law_bent.ex
  have m32 := PySem.W.mg_of X G a32
  obtain ⟨f33, fd33, a33, F33⟩ := D_law_sided.ex
  have m33 := PySem.W.mg_of X G a33
  obtain ⟨f34, fd34, a34, F34⟩ := D_law_switch.ex
  have m34 := PySem.W.mg_of X G a34
  obtain ⟨f35, fd35, a35, F35⟩ := D_law_reason.ex
  have m35 := PySem.W.mg_of X G a35
  obtain ⟨f36, fd36, a36, F36⟩ := D_law_truth.ex
  have m36 := PySem.W.mg_of X G a36
  obtain ⟨f37, fd37, a37, F37⟩ := D_law.ex
  have m37 := PySem.W.mg_of X G a37
  have b0 : Binds K fd0 ["value"] [] := F0.fn.binds fun _ _ _ _ _ _ us hl => match us, hl with | [_], _ => rfl
  have b1 : Binds K fd1 ["value"] [] := F1.fn.binds fun _ _ _ _ _ _ us hl => match us, hl with | [_], _ => rfl
  have b2 : Binds K fd2 ["value"] [] := F2.binds fun _ _ _ _ _ _ us hl => match us, hl with | [_], _ => rfl
  have b3 : Binds K fd3 ["value"] [] := F3.binds fun _ _ _ _ _ _ us hl => match us, hl with | [_], _ => rfl
  have b4 : Binds K fd4 ["value", "word", "length"] [] := F4.binds fun _ _ _ _ _ _ us hl => match us, hl with | [_, _, _], _ => rfl
  have b5 : Binds K fd5 ["start", "value"] [] := F5.binds fun _ _ _ _ _ _ us hl => match us, hl with | [_, _], _ => rfl
  have b6 : Binds K fd6 ["value"] [] := F6.binds fun _ _ _ _ _ _ us hl => match us, hl with | [_], _ => rfl
  have b7 : Binds K fd7 ["start", "log"] [] := F7.binds fun _ _ _ _ _ _ us hl => match us, hl with | [_, _], _ => rfl
  have b8 : Binds K fd8 ["start", "log"] [] := F8.binds fun _ _ _ _ _ _ us hl => match us, hl with | [_, _], _ => rfl
  have b9 : Binds K fd9 ["start", "log"] [] := F9.binds fun _ _ _ _ _ _ us hl => match us, hl with | [_, _], _ => rfl
  have b10 : Binds K fd10 ["side"] [] := F10.binds fun _ _ _ _ _ _ us hl => match us, hl with | [_], _ => rfl
  have b11 : Binds K fd11 ["log"] [] := F11.binds fun _ _ _ _ _ _ us hl => match us, hl with | [_], _ => rfl
  have b12 : Binds K fd12 ["start", "log", "cars"] [] := F12.binds fun _ _ _ _ _ _ us hl => match us, hl with | [_, _, _], _ => rfl
  have b13 : Binds K fd13 ["counts"] [] := F13.binds fun _ _ _ _ _ _ us hl => match us, hl with | [_], _ => rfl
  have b14 : Binds K fd14 ["start", "cars"] [] := F14.binds fun _ _ _ _ _ _ us hl => match us, hl with | [_, _], _ => rfl
  have b15 : Binds K fd15 ["start", "log", "lane"] [] := F15.binds fun _ _ _ _ _ _ us hl => match us, hl with | [_, _, _], _ => rfl
  have b16 : Binds K fd16 ["start", "log", "lane"] [] := F16.binds fun _ _ _ _ _ _ us hl => match us, hl with | [_, _, _], _ => rfl
  have b17 : Binds K fd17 ["start", "log", "lane"] [] := F17.binds fun _ _ _ _ _ _ us hl => match us, hl with | [_, _, _], _ => rfl
  have b18 : Binds K fd18 ["start", "log", "lane"] [] := F18.fn.binds fun _ _ _ _ _ _ us hl => match us, hl with | [_, _, _], _ => rfl
  have b19 : Binds K fd19 ["start", "lane"] [] := F19.binds fun _ _ _ _ _ _ us hl => match us, hl with | [_, _], _ => rfl
  have b20 : Binds K fd20 ["known", "lane"] [] := F20.binds fun _ _ _ _ _ _ us hl => match us, hl with | [_, _], _ => rfl
  have b21 : Binds K fd21 ["start", "log", "lane"] [] := F21.binds fun _ _ _ _ _ _ us hl => match us, hl with | [_, _, _], _ => rfl
  have b22 : Binds K fd22 ["start", "log", "lane"] [] := F22.binds fun _ _ _ _ _ _ us hl => match us, hl with | [_, _, _], _ => rfl
  have b23 : Binds K fd23 ["script", "k"] [] := F23.binds fun _ _ _ _ _ _ us hl => match us, hl with | [_, _], _ => rfl
  have b24 : Binds K fd24 ["found", "due"] [] := F24.binds fun _ _ _ _ _ _ us hl => match us, hl with | [_, _], _ => rfl
  have b25 : Binds K fd25 ["cell", "k"] [] := F25.binds fun _ _ _ _ _ _ us hl => match us, hl with | [_, _], _ => rfl
  have b26 : Binds K fd26 ["bag", "limit"] [] := F26.binds fun _ _ _ _ _ _ us hl => match us, hl with | [_, _], _ => rfl
  have b27 : Binds K fd27 ["bag", "many"] [] := F27.binds fun _ _ _ _ _ _ us hl => match us, hl with | [_, _], _ => rfl
  have b28 : Binds K fd28 ["bag", "widest", "most"] [] := F28.binds fun _ _ _ _ _ _ us hl => match us, hl with | [_, _, _], _ => rfl
  have b29 : Binds K fd29 ["bag", "initial", "entries"] [] := F29.binds fun _ _ _ _ _ _ us hl => match us, hl with | [_, _, _], _ => rfl
  have b30 : Binds K fd30 ["initial", "entries"] [] := F30.binds fun _ _ _ _ _ _ us hl => match us, hl with | [_, _], _ => rfl
  have b31 : Binds K fd31 ["initial", "entries"] [] := F31.binds fun _ _ _ _ _ _ us hl => match us, hl with | [_, _], _ => rfl
  have b32 : Binds K fd32 ["bag", "line", "folk"] [] := F32.binds fun _ _ _ _ _ _ us hl => match us, hl with | [_, _, _], _ => rfl
  have b33 : Binds K fd33 ["bag", "line", "folk", "initial"] [] := F33.binds fun _ _ _ _ _ _ us hl => match us, hl with | [_, _, _, _], _ => rfl
  have b34 : Binds K fd34 ["initial", "entries", "line", "counts_here"] [] := F34.binds fun _ _ _ _ _ _ us hl => match us, hl with | [_, _, _, _], _ => rfl
  have b35 : Binds K fd35 ["initial", "entries", "line", "folk"] [] := F35.binds fun _ _ _ _ _ _ us hl => match us, hl with | [_, _, _, _], _ => rfl
  have b36 : Binds K fd36 ["found", "due"] [] := F36.binds fun _ _ _ _ _ _ us hl => match us, hl with | [_, _], _ => rfl
  obtain rfl : fa = f37 := by
    have e := hfa.symm.trans m37
    cases e
    rfl
  refine ⟨c1, p1, c2, p2, c3, p3, fd37, t1, t2, t3, n1, n2, n3, ?_, fun base Kb Gb TB => ?_⟩
  · obtain ⟨oc, od, kV, doc, pm, an, cdv, ct, osl, rfl, lk, hcd⟩ := F37.ex
    exact fun s u => .of_eq rfl
  have TB1 := TB (c1, p1) List.mem_cons_self
  have TB2 := TB (c2, p2) (List.mem_cons_of_mem _ List.mem_cons_self)
  have TB3 := TB (c3, p3) (List.mem_cons_of_mem _ (List.mem_cons_of_mem _ List.mem_cons_self))
  have h1 : p1 ∈ [p1, p2, p3] := List.mem_cons_self
  have h2 : p2 ∈ [p1, p2, p3] := (List.mem_cons_of_mem _ List.mem_cons_self)
  have h3 : p3 ∈ [p1, p2, p3] := (List.mem_cons_of_mem _ (List.mem_cons_of_mem _ List.mem_cons_self))
  have G0 : FnOk P w K mg base CX0 2 f0 fd0 ["value"] (spCar [p1, p2, p3]) := ok_car F0 B TB1 h1
  have G1 : FnOk P w K mg base CX0 4 f1 fd1 ["value"] (spLane K [p1, p2, p3]) := ok_lane F1 B TB2 h2 G0 m0 F0.kp b0
  have G4 : FnOk P w K mg base CX0 1 f4 fd4 ["value", "word", "length"] (spHasW K) := ok_hasW F4 B
  have G2 : FnOk P w K mg base CX0 3 f2 fd2 ["value"] (spEv K [p1, p2, p3] arrB) := ok_arr F2 G4 m4 F4.kp b4 G0 m0 F0.kp b0
  have G3 : FnOk P w K mg base CX0 2 f3 fd3 ["value"] (spEv K [p1, p2, p3] depB) := ok_dep F3 G4 m4 F4.kp b4
  have G6 : FnOk P w K mg base CX0 5 f6 fd6 ["value"] (spReqLane K [p1, p2, p3]) := ok_reqLane F6 G1 m1 F1.kp b1
  have G5 : FnOk P w K mg base CX0 6 f5 fd5 ["start", "value"] (spLog K [p1, p2, p3]) := ok_log F5 B G6 m6 F6.kp b6 G2 m2 F2.kp b2 G3 m3 F3.kp b3
  have G7 : FnOk P w K mg base CX0 7 f7 fd7 ["start", "log"] (spReqLog K [p1, p2, p3]) := ok_reqLog F7 G5 m5 F5.kp b5
  have G8 : FnOk P w K mg base CX0 8 f8 fd8 ["start", "log"] (spSizes K [p1, p2, p3]) := ok_sizes F8 B G7 m7 F7.kp b7
  have G9 : FnOk P w K mg base CX0 8 f9 fd9 ["start", "log"] (spNumbers K [p1, p2, p3]) := ok_numbers F9 B G7 m7 F7.kp b7
  have G10 : FnOk P w K mg base CX0 1 f10 fd10 ["side"] (spOpp) := ok_opp F10
  have G11 : FnOk P w K mg base CX0 1 f11 fd11 ["log"] (spDepC K [p1, p2, p3]) := ok_depC F11
  have G12 : FnOk P w K mg base CX0 9 f12 fd12 ["start", "log", "cars"] (spExtras K [p1, p2, p3]) := ok_extras F12 B G8 m8 F8.kp b8
  have G13 : FnOk P w K mg base CX0 1 f13 fd13 ["counts"] (spFirstNeg K [p1, p2, p3]) := ok_firstNeg F13 B3
  have G14 : FnOk P w K mg base CX0 1 f14 fd14 ["start", "cars"] (spBlockR K [p1, p2, p3]) := ok_blockR F14 B3
  have G17 : FnOk P w K mg base CX0 8 f17 fd17 ["start", "log", "lane"] (spReqFin K [p1, p2, p3]) := ok_reqFin F17 G7 m7 F7.kp b7 G6 m6 F6.kp b6
  have G18 : FnOk P w K mg base CX0 9 f18 fd18 ["start", "log", "lane"] (spHasRC K [p1, p2, p3]) := ok_hasRC F18 B TB3 h3 G9 m9 F9.kp b9 G8 m8 F8.kp b8
  have G19 : FnOk P w K mg base CX0 2 f19 fd19 ["start", "lane"] (spHasBlk K [p1, p2, p3]) := ok_hasBlk F19 G14 m14 F14.kp b14
  have G20 : FnOk P w K mg base CX0 1 f20 fd20 ["known", "lane"] (spFirstPk K [p1, p2, p3]) := ok_firstPk F20 B B3
  have G21 : FnOk P w K mg base CX0 2 f21 fd21 ["start", "log", "lane"] (spArrSt K [p1, p2, p3]) := ok_arrSt F21 B3 G14 m14 F14.kp b14
  have G22 : FnOk P w K mg base CX0 10 f22 fd22 ["start", "log", "lane"] (spSwitch K [p1, p2, p3]) := ok_switch F22 B G11 m11 F11.kp b11 G12 m12 F12.kp b12 G14 m14 F14.kp b14 G21 m21 F21.kp b21 G10 m10 F10.kp b10
  have G16 : FnOk P w K mg base CX0 11 f16 fd16 ["start", "log", "lane"] (spWhy K [p1, p2, p3]) := ok_why F16 G17 m17 F17.kp b17 G18 m18 F18.kp b18 G19 m19 F19.kp b19 G20 m20 F20.kp b20 G9 m9 F9.kp b9 G13 m13 F13.kp b13 G12 m12 F12.kp b12 G22 m22 F22.kp b22
  have G15 : FnOk P w K mg base CX0 12 f15 fd15 ["start", "log", "lane"] (spPoss K [p1, p2, p3]) := ok_poss F15 G16 m16 F16.kp b16
  have G23 : FnOk P w K mg base CX0 1 f23 fd23 ["script", "k"] (spCell K) := ok_cell F23 B
  have G25 : FnOk P w K mg base CX0 1 f25 fd25 ["cell", "k"] (spBag) := ok_bag F25 B2
  have G26 : FnOk P w K mg base CX0 1 f26 fd26 ["bag", "limit"] (spTake) := ok_take F26
  have G27 : FnOk P w K mg base CX0 2 f27 fd27 ["bag", "many"] (spNames) := ok_names F27 B B2 G26 m26 F26.kp b26
  have G28 : FnOk P w K mg base CX0 3 f28 fd28 ["bag", "widest", "most"] (spBuilt) := ok_built F28 B B2 G26 m26 F26.kp b26 G27 m27 F27.kp b27
  have G29 : FnOk P w K mg base CX0 2 f29 fd29 ["bag", "initial", "entries"] (spLived K) := ok_lived F29 G26 m26 F26.kp b26
  have G31 : FnOk P w K mg base CX0 1 f31 fd31 ["initial", "entries"] (spFolk K) := ok_folk F31 B
  have G32 : FnOk P w K mg base CX0 2 f32 fd32 ["bag", "line", "folk"] (spBent K) := ok_bent F32 B G26 m26 F26.kp b26
  have G33 : FnOk P w K mg base CX0 2 f33 fd33 ["bag", "line", "folk", "initial"] (spSided K) := ok_sided F33 B B2 G26 m26 F26.kp b26
  have G36 : FnOk P w K mg base CX0 1 f36 fd36 ["found", "due"] (spTruth) := ok_truth F36 B BB
  have G30 : FnOk P w K mg base CX0 1 f30 fd30 ["initial", "entries"] (spCounts K) := ok_counts F30 B
  have G24 : FnOk P w K mg base CX0 2 f24 fd24 ["found", "due"] (spSame14 K) := ok_same14 F24 B B2 BB m24 F24.kp b24
  have G34 : FnOk P w K mg base CX0 1 f34 fd34 ["initial", "entries", "line", "counts_here"] (spSwC K) := ok_swC F34 B B2
  have G35 : FnOk P w K mg base CX0 2 f35 fd35 ["initial", "entries", "line", "folk"] (spRea14 K) := ok_rea14 F35 B B2 G30 m30 F30.kp b30 G34 m34 F34.kp b34
  have kb16 : KBinds K fd16 ["start", "log", "lane"] ["lane", "log", "start"] rev3 rev3 := kbx0 F16 fun _ _ _ _ _ _ _ _ _ => rfl
  exact FnG.of (ok_law14 F37 B B2 (nn z_int) G23 m23 F23.kp b23 G25 m25 F25.kp b25 G28 m28 F28.kp b28 G29 m29 F29.kp b29 G31 m31 F31.kp b31 G32 m32 F32.kp b32 G33 m33 F33.kp b33 G35 m35 F35.kp b35 G24 m24 F24.kp b24 G16 m16 F16.kp b16 kb16 G15 m15 F15.kp b15 G36 m36 F36.kp b36)
end Ln


set_option Elab.async false
set_option linter.all false
set_option maxRecDepth 100000
set_option maxHeartbeats 2000000
namespace Ln
open PySem PySem.Spec PyProof.Rows L2 GxR LamX
theorem walk_G {l : PySem.W.OpenLaw} {n : Nat} {q : Program} {loose : List Str} {XP : (Str → Option Value) → Heap → Prop} {YP : World → Heap → Prop} {d d1 d2 d3 : DefRec} {K : Params → PySem.W.Frag} (hn : l.most = some n) (hn2 : n ≤ sizeLine) (hdf : d.params.defaults = []) (hY : ∀ (w : World) (h : Heap), YP w h → (K w.params).In h)
    (r1 : (recsOf q).find? (fun e => e.name == PySem.Str.ofString "is_car") = some d1) (r2 : (recsOf q).find? (fun e => e.name == PySem.Str.ofString "is_lane") = some d2) (r3 : (recsOf q).find? (fun e => e.name == PySem.Str.ofString "has_right_cars") = some d3)
    (F : ∀ (w : World) (mg : Str → Option Value) (fa : Addr) (h : Heap), (K w.params).In h → h.Ns mainGlobals mg → mg d.name = some (.ref fa) → ∃ (c1 p1 c2 p2 c3 p3 : Addr) (fd : FuncData), PySem.W.tabIn (K w.params) "is_car" = some (c1, p1) ∧ PySem.W.tabIn (K w.params) "is_lane" = some (c2, p2) ∧ PySem.W.tabIn (K w.params) "has_right_cars" = some (c3, p3) ∧
      (K w.params).lookup p1 = none ∧ (K w.params).lookup p2 = none ∧ (K w.params).lookup p3 = none ∧ AllAt l.prog w (K w.params) mg fa [(c1, p1), (c2, p2), (c3, p3)] fd) :
    PySem.W.WalkO q loose XP YP l.row.toRowW d [] (fun f vs => PySem.call f vs) := by
  refine Att.attach_callB hn hdf fun w s₀ s₁ mg mb fa o pm cd doc a vs ns G Y ho hd hcd hmg hobj hints hlen hbits hg => ?_
  have KX := hY w _ Y
  obtain ⟨c1, p1, c2, p2, c3, p3, fd, t1, t2, t3, n1, n2, n3, all⟩ := F w mg fa _ KX G.T.g hmg
  have T1 := PySem.W.tab_of G.T KX r1 t1
  have T2 := PySem.W.tab_of G.T KX r2 t2
  have T3 := PySem.W.tab_of G.T KX r3 t3
  have three : ∀ {φ : Addr × Addr → Prop}, φ (c1, p1) → φ (c2, p2) → φ (c3, p3) → ∀ p ∈ [(c1, p1), (c2, p2), (c3, p3)], φ p := fun x y z p hp => by
    rcases List.mem_cons.mp hp with rfl | hp
    · exact x
    rcases List.mem_cons.mp hp with rfl | hp
    · exact y
    rcases List.mem_cons.mp hp with rfl | hp
    · exact z
    cases hp
  refine law_callG KX G.T.g G.T.b G.T.builtins G.T.nolimit hg (three T1.2 T2.2 T3.2) (three n1 n2 n3) (three T1.1 T2.1 T3.1) G.T.bmain hobj hints (Nat.le_trans hlen hn2) ⟨rfl, by decide, by decide⟩ all.ok all.bind fun H hH hS => ⟨a, ns, rfl, hS, fun p hp => ?_, fun H' => rfl⟩
  obtain ⟨x, hx, rfl⟩ := List.mem_map.mp hp
  exact ⟨#[], hH x hx, by first | trivial | exact .nil | simp [TriplesOk]⟩
end Ln


set_option maxRecDepth 100000
open PySem PySem.W PyProof.Rows
set_option maxHeartbeats 0 in
theorem PySem.Challenge.cw_openlane_k14_reasons_for_lanes_holds : PySem.Challenge.rw_openlane_k14_reasons_for_lanes.Holds := by
  w_on; o_law; k_head; (case hw => w_witness2)
  k_fill
  refine Ln.walk_G (l := PySem.Challenge.rw_openlane_k14_reasons_for_lanes) (n := 63) rfl (by decide) rfl (fun w h Y => PySem.W.kIn_of Y) rfl rfl rfl ?F
  case F =>
    intro w mg fa h KX G hmg
    refine' Ln.all_mk KX G hmg ?D0 ?D1 ?D2 ?D3 ?D4 ?D5 ?D6 ?D7 ?D8 ?D9 ?D10 ?D11 ?D12 ?D13 ?D14 ?D15 ?D16 ?D17 ?D18 ?D19 ?D20 ?D21 ?D22 ?D23 ?D24 ?D25 ?D26 ?D27 ?D28 ?D29 ?D30 ?D31 ?D32 ?D33 ?D34 ?D35 ?D36 ?D37 ?z0 ?z1 ?z2 ?z3 ?z4 ?z5 ?z6 ?z7 ?z8 ?z9 ?z10 ?z11 ?z12 ?z13 ?z14 ?z15 ?z16 ?z17
    (case D0 => refine' Ln.defC_mk ?a ?l ?c ?k ?lc ?hv ?hn; (case a => k_is); (case l => k_is); (case c => k_is); (case k => k_is); (case lc => k_is); (case hv => rfl); (case hn => kernel_rfl))
    (case D1 => refine' Ln.defC_mk ?a ?l ?c ?k ?lc ?hv ?hn; (case a => k_is); (case l => k_is); (case c => k_is); (case k => k_is); (case lc => k_is); (case hv => rfl); (case hn => kernel_rfl))
    (case D2 => refine' Ln.def_mk ?a ?l ?c ?k; (case a => k_is); (case l => k_is); (case c => k_is); (case k => k_is))
    (case D3 => refine' Ln.def_mk ?a ?l ?c ?k; (case a => k_is); (case l => k_is); (case c => k_is); (case k => k_is))
    (case D4 => refine' Ln.def_mk ?a ?l ?c ?k; (case a => k_is); (case l => k_is); (case c => k_is); (case k => k_is))
    (case D5 => refine' Ln.def_mk ?a ?l ?c ?k; (case a => k_is); (case l => k_is); (case c => k_is); (case k => k_is))
    (case D6 => refine' Ln.def_mk ?a ?l ?c ?k; (case a => k_is); (case l => k_is); (case c => k_is); (case k => k_is))
    (case D7 => refine' Ln.def_mk ?a ?l ?c ?k; (case a => k_is); (case l => k_is); (case c => k_is); (case k => k_is))
    (case D8 => refine' Ln.def_mk ?a ?l ?c ?k; (case a => k_is); (case l => k_is); (case c => k_is); (case k => k_is))
    (case D9 => refine' Ln.def_mk ?a ?l ?c ?k; (case a => k_is); (case l => k_is); (case c => k_is); (case k => k_is))
    (case D10 => refine' Ln.def_mk ?a ?l ?c ?k; (case a => k_is); (case l => k_is); (case c => k_is); (case k => k_is))
    (case D11 => refine' Ln.def_mk ?a ?l ?c ?k; (case a => k_is); (case l => k_is); (case c => k_is); (case k => k_is))
    (case D12 => refine' Ln.def_mk ?a ?l ?c ?k; (case a => k_is); (case l => k_is); (case c => k_is); (case k => k_is))
    (case D13 => refine' Ln.def_mk ?a ?l ?c ?k; (case a => k_is); (case l => k_is); (case c => k_is); (case k => k_is))
    (case D14 => refine' Ln.def_mk ?a ?l ?c ?k; (case a => k_is); (case l => k_is); (case c => k_is); (case k => k_is))
    (case D15 => refine' Ln.def_mk ?a ?l ?c ?k; (case a => k_is); (case l => k_is); (case c => k_is); (case k => k_is))
    (case D16 => refine' Ln.def_mk ?a ?l ?c ?k; (case a => k_is); (case l => k_is); (case c => k_is); (case k => k_is))
    (case D17 => refine' Ln.def_mk ?a ?l ?c ?k; (case a => k_is); (case l => k_is); (case c => k_is); (case k => k_is))
    (case D18 => refine' Ln.defC_mk ?a ?l ?c ?k ?lc ?hv ?hn; (case a => k_is); (case l => k_is); (case c => k_is); (case k => k_is); (case lc => k_is); (case hv => rfl); (case hn => kernel_rfl))
    (case D19 => refine' Ln.def_mk ?a ?l ?c ?k; (case a => k_is); (case l => k_is); (case c => k_is); (case k => k_is))
    (case D20 => refine' Ln.def_mk ?a ?l ?c ?k; (case a => k_is); (case l => k_is); (case c => k_is); (case k => k_is))
    (case D21 => refine' Ln.def_mk ?a ?l ?c ?k; (case a => k_is); (case l => k_is); (case c => k_is); (case k => k_is))
    (case D22 => refine' Ln.def_mk ?a ?l ?c ?k; (case a => k_is); (case l => k_is); (case c => k_is); (case k => k_is))
    (case D23 => refine' Ln.def_mk ?a ?l ?c ?k; (case a => k_is); (case l => k_is); (case c => k_is); (case k => k_is))
    (case D24 => refine' Ln.def_mk ?a ?l ?c ?k; (case a => k_is); (case l => k_is); (case c => k_is); (case k => k_is))
    (case D25 => refine' Ln.def_mk ?a ?l ?c ?k; (case a => k_is); (case l => k_is); (case c => k_is); (case k => k_is))
    (case D26 => refine' Ln.def_mk ?a ?l ?c ?k; (case a => k_is); (case l => k_is); (case c => k_is); (case k => k_is))
    (case D27 => refine' Ln.def_mk ?a ?l ?c ?k; (case a => k_is); (case l => k_is); (case c => k_is); (case k => k_is))
    (case D28 => refine' Ln.def_mk ?a ?l ?c ?k; (case a => k_is); (case l => k_is); (case c => k_is); (case k => k_is))
    (case D29 => refine' Ln.def_mk ?a ?l ?c ?k; (case a => k_is); (case l => k_is); (case c => k_is); (case k => k_is))
    (case D30 => refine' Ln.def_mk ?a ?l ?c ?k; (case a => k_is); (case l => k_is); (case c => k_is); (case k => k_is))
    (case D31 => refine' Ln.def_mk ?a ?l ?c ?k; (case a => k_is); (case l => k_is); (case c => k_is); (case k => k_is))
    (case D32 => refine' Ln.def_mk ?a ?l ?c ?k; (case a => k_is); (case l => k_is); (case c => k_is); (case k => k_is))
    (case D33 => refine' Ln.def_mk ?a ?l ?c ?k; (case a => k_is); (case l => k_is); (case c => k_is); (case k => k_is))
    (case D34 => refine' Ln.def_mk ?a ?l ?c ?k; (case a => k_is); (case l => k_is); (case c => k_is); (case k => k_is))
    (case D35 => refine' Ln.def_mk ?a ?l ?c ?k; (case a => k_is); (case l => k_is); (case c => k_is); (case k => k_is))
    (case D36 => refine' Ln.def_mk ?a ?l ?c ?k; (case a => k_is); (case l => k_is); (case c => k_is); (case k => k_is))
    (case D37 => refine' Ln.def_mk ?a ?l ?c ?k; (case a => k_is); (case l => k_is); (case c => k_is); (case k => k_is))
    (case z0 => k_is); (case z1 => k_is); (case z2 => k_is); (case z3 => k_is); (case z4 => k_is); (case z5 => k_is); (case z6 => k_is); (case z7 => k_is); (case z8 => k_is); (case z9 => k_is); (case z10 => k_is); (case z11 => k_is); (case z12 => k_is); (case z13 => k_is); (case z14 => k_is); (case z15 => k_is); (case z16 => k_is); (case z17 => k_is)
#print axioms PySem.Challenge.cw_openlane_k14_reasons_for_lanes_holds

