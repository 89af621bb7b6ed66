import PyProof.Rows.All
import Wide.All
import OpenK.AllK
import Wide.FinOn
import HandS.AnyAll
import PyProof.GenQ
import PyProof.GenRules
import HandS.GenOver
import HandS.SetKeys
import HandS.Strs
import PyProof.WalksMore
import HandS.Base
import HandS.ForMost
import HandS.IsInst
import HandS.Wide
import HandS.Defaults
import HandS.Style
import HandS.Zip
import HandS.Flow
import HandS.DeepEq
import HandS.More
import HandS.WordsExc
import HandS.Exc
import HandS.ExcOwn
import HandS.TupAny
import HandS.Walk
import HandS.TupSets
import HandS.Iter
import KE.GoesEnum
import HandS.Conv
import PyProof.Rows.RegFStrParts
import PyProof.EqKinds
import PyProof.FactsAll.dict_1
import PyProof.FactsAll.subtypes_3
import HandS.DictEq
import HandS.Text
import HandS.Steps
import HandS.HotCalls
import HandS.Comp
import HandS.ExcIs
import HandS.ExcCtx
import HandS.Words
import HandS.ExcValue
import HandS.CallLocal
import HandS.TryOnly
import KE.KExcIs
import HandS.ExcInit
import HandS.ExcField
import PyProof.CallFns
import PyProof.ReprRoads
import HandS.EndTab
import KE.KNest
import PySem.Challenge.RW_openlane_k03_log_errors
set_option Elab.async false
set_option linter.all false
set_option maxRecDepth 100000
set_option maxHeartbeats 2000000
namespace Ln
open PySem PySem.Spec PyProof.Rows L2 GxR

theorem bare_set {s : Shared} {g : Nat} {x : GenState} (h : AllBare s.gens) (hx : x.bare = true) : AllBare (s.setGen g x).gens := by
  intro y hy
  obtain ⟨i, hi, e⟩ := Array.mem_iff_getElem.mp hy
  have sz : (s.setGen g x).gens.size = s.gens.size := by simp [Shared.setGen]
  have hi' : i < s.gens.size := by omega
  by_cases z : i = g
  · have q : (s.setGen g x).gens[i]? = some x := by
      show (s.gens.setIfInBounds g x)[i]? = some x
      subst z
      simp [hi']
    rw [Array.getElem?_eq_getElem hi, e] at q
    cases q
    exact hx
  · have q : (s.setGen g x).gens[i]? = s.gens[i]? := by
      show (s.gens.setIfInBounds g x)[i]? = s.gens[i]?
      exact Array.getElem?_setIfInBounds_ne (Ne.symm z)
    rw [Array.getElem?_eq_getElem hi, e] at q
    exact h y (Array.mem_of_getElem? q.symm)

/-- the context of a generator expression's own frame -/
def genCx (X : Cx) (cenv : Env) (A' : Around) (x : Str) (fp : List Addr) (s4 : Shared) (H4 : Hp) (pn : List (Addr × Obj)) : Cx where
  prog := X.prog
  w := X.w
  K := X.K
  mg := X.mg
  base := X.base
  A := A'
  N := [x]
  s_0 := s4
  H_0 := H4
  env := cenv
  outer := X.stack
  stack := cenv :: X.stack
  ex := fp
  fn := fun _ => true
  calm := true
  pn := pn
  xe := fun _ _ => False

structure GSc (scope : Scope) (x : Str) : Prop where
  kind : scope.kind = .function
  co : scope.isCoroutine = false
  cell : ∀ y ∈ scope.names, y.2 ≠ .cell
  free : ∀ y ∈ scope.names, y.2 ≠ .free
  dot : scope.names.lookup (".0" : Str) = some NameKind.local
  loc : scope.names.lookup x = some .local

theorem clo_nil {cells : List (Str × Addr)} : ∀ {names : List (Str × NameKind)} {acc : List (Str × Addr)}, (∀ y ∈ names, y.2 ≠ .free) → cloFrom cells names acc = acc
  | [], _, _ => rfl
  | (n, k) :: r, acc, h => by
    have hk : k ≠ .free := h (n, k) List.mem_cons_self
    unfold cloFrom
    rw [if_neg (by simpa using hk)]
    exact clo_nil fun y hy => h y (List.mem_cons_of_mem _ hy)

theorem over_comp {A : Around} {elt : Expr} {gs : List Comprehension} {scope : Scope} {pos : Pos} {it acc : Value} {env : Env} :
    A.over (.compLoop (.GeneratorExp elt gs scope pos) 0 it acc env) [] = A.deeper env := by
  first
    | rfl
    | (obtain ⟨hd, d, fr, gs, u⟩ := A; simp [Around.over, Around.deeper, marksOver, frameCount, unitsOf, envsOf, guardsOf, pushEnvs, pushGuards, Code.envs, Code.env?, Code.isFrame, Code.guards, Code.isGuard, Code.weight, Code.frames, Code.isCreation, Code.isCaller, Code.cUnits])
theorem over_start {A : Around} {elt : Expr} {gs : List Comprehension} {scope : Scope} {pos : Pos} {it acc : Value} {env : Env} :
    A.over (.compStart (.GeneratorExp elt gs scope pos) 0 it acc env) [] = A.deeper env := by
  first
    | rfl
    | (obtain ⟨hd, d, fr, gs, u⟩ := A; simp [Around.over, Around.deeper, marksOver, frameCount, unitsOf, envsOf, guardsOf, pushEnvs, pushGuards, Code.envs, Code.env?, Code.isFrame, Code.guards, Code.isGuard, Code.weight, Code.frames, Code.isCreation, Code.isCaller, Code.cUnits])


def YA (Y : Cx) (Q : VK) : Protocol := fun _ _ v s kap =>
  ∃ (b : Bool) (H : Hp), v = .bool b ∧ Inv Y [] [none] H s ∧ if b = true then ∀ s', s'.heap = s.heap → s'.os = s.os → AllBare s'.gens → kap (.send .none) s' else Q (.bl false) H
def RA (Y : Cx) (Q : VK) : Nat → Shared → Shared → Prop := fun _ _ s => ∃ H, Inv Y [] [none] H s ∧ Q (.bl true) H
def RestA (Y : Cx) (fp : List Addr) (tn : Nat → Heap → Prop) (W : Nat → Nat → Hp → Prop) (n i : Nat) (s : Shared) : Prop :=
  ∃ m H, m < n ∧ Inv Y [] [none] H s ∧ tn i s.heap ∧ (∀ b ∈ fp, H b = none) ∧ W i m H
/-- what is asked of each turn -/
def TurnA (J : It) (te : TE) (W : Nat → Nat → Hp → Prop) (Q : VK) : Prop := ∀ i m H, W i m H →
  (J.stop i H ∧ Q (.bl true) H) ∨ (J.go i H ∧ ∀ v H', J.yld i H v H' → te [some v] H' fun y H3 => ∃ b, y = .bl b ∧ if b = true then ∃ m', m' < m ∧ W (i + 1) m' H3 else Q (.bl false) H3)
theorem inv_none {Y : Cx} {v : Option V} {pins : List (Addr × Obj)} {H : Hp} {s : Shared} (I : Inv Y pins [v] H s) : Inv Y pins [none] H s :=
  I.weak rfl fun i u e => by
    match i, e with
    | 0, e => cases e
    | i + 1, e => simp at e
theorem inv_same {Y : Cx} {pins : List (Addr × Obj)} {σ : L2.St} {H : Hp} {s s' : Shared} (I : Inv Y pins σ H s) (hh : s'.heap = s.heap) (ho : s'.os = s.os) (hg : AllBare s'.gens) : Inv Y pins σ H s' :=
  I.call' (ch := []) ho (by rw [hh]; exact Un.refl) (by rw [hh]; exact I.hok) hg fun b z => by simp at z

section
variable {X : Cx} {elt iter : Expr} {x : Str} {px pos : Pos} {scope : Scope} {it : Addr} {fp : List Addr} {tn : Nat → Heap → Prop} {J : It} {te : TE} {W : Nat → Nat → Hp → Prop} {Q : VK} {cenv : Env} {s4 : Shared} {H4 : Hp} {pn : List (Addr × Obj)} {A2 : Around}
theorem seg_all (hsc : GSc scope x) (hcs : cenv.scope = scope)
    (hE : PE (genCx X cenv (A2.deeper cenv) x fp s4 H4 pn) elt te) (T : Turn X.prog X.w X.K (.Name x px) J fp it tn)
    (hst : ∀ H : Hp, (∀ b ∈ fp, H b = none) → ∀ b ∈ fp, FpOk (genCx X cenv (A2.deeper cenv) x fp s4 H4 pn) [] H b) (turn : TurnA J te W Q) :
    ∀ (n i : Nat) (s₀ s : Shared), RestA (genCx X cenv (A2.deeper cenv) x fp s4 H4 pn) fp tn W n i s →
      Seg (model X.prog X.w) A2 (fun n s₀ r s₁ => r = .ok .next ∧ RA (genCx X cenv (A2.deeper cenv) x fp s4 H4 pn) Q n s₀ s₁) (YA (genCx X cenv (A2.deeper cenv) x fp s4 H4 pn) Q) n s₀
        (.compLoop (.GeneratorExp elt [⟨.Name x px, iter, [], 0⟩] scope pos) 0 (.ref it) .none cenv)
        ((model X.prog X.w).den (.compLoop (.GeneratorExp elt [⟨.Name x px, iter, [], 0⟩] scope pos) 0 (.ref it) .none cenv)) [] s := by
  intro n
  induction n with
  | zero =>
    intro i s₀ s ⟨m, _, hm, _⟩
    exact absurd hm (Nat.not_lt_zero m)
  | succ n ih =>
    intro i s₀ s ⟨m, H, hm, I, st, fr, w⟩
    have ov : A2.over (.compLoop (.GeneratorExp elt [⟨.Name x px, iter, [], 0⟩] scope pos) 0 (.ref it) .none cenv) [] = A2.deeper cenv := over_comp
    show Seg _ A2 _ _ _ s₀ _ ((compTurn (.GeneratorExp elt [⟨.Name x px, iter, [], 0⟩] scope pos) 0 (.ref it) .none cenv).onRaise (leaving cenv)) [] s
    rw [compTurn_gen, Sem.onRaise_eq_wrap]
    refine seg_bind_wrap (wpAny_standAt (seg_bind_wrap ?_))
    rw [ov]
    rcases turn i m H w with ⟨stop, q⟩ | ⟨go, step⟩
    · refine thn (T.done (genCx X cenv (A2.deeper cenv) x fp s4 H4 pn) rfl rfl rfl rfl i [] s [none] H _ I (hst H fr) st stop) fun r s1 h1 => ?_
      obtain ⟨rfl, I1⟩ := h1
      exact seg_end (.ok .next) ⟨rfl, H, I1, q⟩
    · refine thn (T.item (genCx X cenv (A2.deeper cenv) x fp s4 H4 pn) rfl rfl rfl rfl i [] s [none] H _ I (hst H fr) st go) fun r s1 h1 => ?_
      obtain ⟨u, rfl, h1⟩ := h1
      refine seg_bind_wrap ?_
      rw [ov]
      refine thn h1 fun _ s2 h2 => ?_
      obtain ⟨v, H2, I2, r2, y2, st2, fr2⟩ := h2
      have I2' := I2.pinned (hst H2 fr2) (T.obj _ _ st2)
      refine seg_bind_wrap ?_
      rw [ov]
      have hpg : PG (genCx X cenv (A2.deeper cenv) x fp s4 H4 pn) (.Name x px) (gName 0) := pg_name (X := genCx X cenv (A2.deeper cenv) x fp s4 H4 pn) (List.nodup_cons.mpr ⟨by simp, List.nodup_nil⟩) rfl (.inl (by show cenv.scope.names.lookup x = _; rw [hcs]; exact hsc.loc)) (.inl rfl)
      refine wpAny_mono (hpg.run _ s2 [none] H2 v u (fun σ' H' => σ' = [some v] ∧ H' = H2) I2' r2 ⟨rfl, rfl⟩) (fun _ s3 h3 => ?_) fun _ _ z => False.elim z
      obtain ⟨σ3, H3, I3, e3, e4⟩ := h3
      subst e3
      have e4 := e4.symm
      subst e4
      refine seg_bind_wrap ?_
      refine wpAny_of_eq (a := true) (by simp only [List.forIn_nil]) ?_
      simp only [if_true]
      have hy : ∀ v, yieldOut cenv v = yieldValue v := fun v => by simp only [yieldOut, hcs, hsc.co, Bool.false_eq_true, if_false]
      simp only [hy]
      rw [Sem.bind_eq_wrap', Sem.bind_eq_wrap', Sem.wrap_wrap, Sem.wrap_wrap]
      refine seg_wrap ?_
      rw [ov]
      refine wpAny_mono (hE.run _ s3 [some v] H2 _ I3 (step v H2 y2)) (fun y s5 h5 => ?_) fun _ _ z => False.elim z
      obtain ⟨v5, H5, I5, r5, b, rfl, hb⟩ := h5
      obtain rfl : y = Value.bool b := r5
      have I6 := inv_none I5
      have fr5 : ∀ b ∈ fp, H5 b = none := fun c hc => by
        obtain ⟨o, e, d⟩ := T.obj _ _ st2 c hc
        exact (I5.pin (c, o) (List.mem_append_right _ (List.mem_append_right _ (mem_pinsAt hc e)))).2.1
      have st5 : tn (i + 1) s5.heap := T.keep _ _ _ st2 fun c hc o e => (I5.pin (c, o) (List.mem_append_right _ (List.mem_append_right _ (mem_pinsAt hc e)))).1
      refine seg_at (seg_yield rfl rfl rfl ⟨b, H5, rfl, I6.unpinned, ?_⟩)
      cases b with
      | false => exact hb
      | true =>
        obtain ⟨m', hm', w'⟩ := hb
        intro s6 hh ho hbare
        refine seg_again rfl (ih (i + 1) s6 s6 ⟨m', H5, by omega, inv_same I6.unpinned hh ho hbare, by rw [hh]; exact st5, fr5, w'⟩)
end

section
variable {X : Cx} {elt iter : Expr} {x : Str} {px pos : Pos} {scope : Scope} {it : Addr} {fp : List Addr} {tn : Nat → Heap → Prop} {J : It} {te : TE} {W : Nat → Nat → Hp → Prop} {Q : VK} {cenv : Env} {s4 : Shared} {H4 : Hp} {pn : List (Addr × Obj)} {A2 : Around}
theorem seg_all0 (hsc : GSc scope x) (hcs : cenv.scope = scope)
    (hE : PE (genCx X cenv (A2.deeper cenv) x fp s4 H4 pn) elt te) (T : Turn X.prog X.w X.K (.Name x px) J fp it tn)
    (hst : ∀ H : Hp, (∀ b ∈ fp, H b = none) → ∀ b ∈ fp, FpOk (genCx X cenv (A2.deeper cenv) x fp s4 H4 pn) [] H b) (turn : TurnA J te W Q)
    (n : Nat) (s₀ s : Shared) (h : RestA (genCx X cenv (A2.deeper cenv) x fp s4 H4 pn) fp tn W n 0 s) :
      Seg (model X.prog X.w) A2 (fun n s₀ r s₁ => r = .ok .next ∧ RA (genCx X cenv (A2.deeper cenv) x fp s4 H4 pn) Q n s₀ s₁) (YA (genCx X cenv (A2.deeper cenv) x fp s4 H4 pn) Q) n s₀
        (.compStart (.GeneratorExp elt [⟨.Name x px, iter, [], 0⟩] scope pos) 0 (.ref it) .none cenv)
        ((model X.prog X.w).den (.compStart (.GeneratorExp elt [⟨.Name x px, iter, [], 0⟩] scope pos) 0 (.ref it) .none cenv)) [] s := by
  have hl := seg_all (iter := iter) (pos := pos) hsc hcs hE T hst turn n 0 s₀ s h
  obtain ⟨m, H, _, I, st, _⟩ := h
  show Seg _ A2 _ _ _ s₀ _ ((compStart (.GeneratorExp elt [⟨.Name x px, iter, [], 0⟩] scope pos) 0 (.ref it) .none cenv).onRaise (leaving cenv)) [] s
  unfold compStart
  rw [Sem.onRaise_eq_wrap]
  show Seg _ A2 _ _ _ s₀ _ (Sem.wrap _ _ _ _ (ask >>= _)) [] s
  refine seg_bind_wrap (wpAny_askSetting ?_)
  split
  · exact seg_again rfl hl
  · first
      | exact seg_bind_wrap (wpAny_rule (seg_bind_wrap (wpAny_standAt (seg_bind_wrap (T.self _ 0 s _ _ st (seg_again rfl hl))))))
      | (refine seg_bind_wrap (wpAny_rule ?_)
         show Seg _ A2 _ _ _ s₀ _ (Sem.wrap _ _ _ _ (standAt iter.pos >>= _)) [] s
         exact seg_bind_wrap (wpAny_standAt (seg_bind_wrap (T.self _ 0 s _ _ st (seg_again rfl hl)))))

theorem loop_all {Y : Cx} {ag : Addr} {go : Obj} {g : Nat} {A : Around} {R : Result → Shared → Prop} (hpn : (ag, go) ∈ Y.pn) (hgo : ∀ h : Heap, h.get? ag = some go → h.IsGen ag g) (hh : A.handled = none) (hd : A.depth < recursionLimit)
    (hR : ∀ (b : Bool) (H : Hp) (s : Shared), Inv Y [] [none] H s → Q (.bl b) H → R (.ok (.ret (.bool b))) s) :
    ∀ (n : Nat) (s : Shared), s.heap.IsGen ag g → s.heap.NoLimit →
      (∃ gs, s.gens[g]? = some gs ∧ gs.Goes (model Y.prog Y.w) A.in1.in1 (fun n s₀ r s₁ => r = .ok .next ∧ RA Y Q n s₀ s₁) (YA Y Q) n (.send .none) (s.setGen g .running)) →
      codeAny (model Y.prog Y.w) A (.builtin "all.loop" ⟨[.ref ag], []⟩) R s := by
  have ends : ∀ (n : Nat) (s s₁ : Shared), RA Y Q n (s.setGen g .running) s₁ → ∀ h', (∀ b o, s₁.heap.get? b = some o → h'.get? b = some o) → R (.ok (.ret (.bool true))) { s₁.setGen g .finished with heap := h' } := by
    intro n s s₁ ⟨H, I, q⟩ h' hk
    refine hR true H _ ?_ q
    exact I.call' (ch := []) rfl (Un.kept hk) (I.hok.kept hk) (bare_set I.bare rfl) fun b z => by simp at z
  intro n
  induction n with
  | zero =>
    intro s hg hl ⟨gs, hgs, hgo'⟩
    refine codeAny_builtin F.entry_all_loop ?_
    rw [Around.under_plainId F.plain_all_loop _]
    show wpAny _ A.in1 (pyNext (.ref ag) >>= fun r => _) _ _ s
    refine wpAny_bind (wpAny_pyNext_genexpQ (A := A.in1) (P := RA Y Q) hh hl hd hg hgs hgo' (fun v s₁ gs' hbare hv => ?_) fun s₁ hp h' hk => ?_)
    · obtain ⟨b, H, rfl, I, hb⟩ := hv
      refine wpAny_bind (wpAny_holding (wpAny_truthy_bool ?_))
      refine wpAny_bind (wpAny_letGo ?_)
      cases b with
      | true => exact False.elim (hb s₁ rfl rfl I.bare)
      | false =>
        simp only [Bool.false_eq_true, if_false]
        exact wpAny_bind (wpAny_rule (wpAny_pure (hR false H _ (inv_same I rfl rfl (bare_set I.bare hbare)) hb)))
    · exact wpAny_bind (wpAny_rule (wpAny_pure (ends _ _ _ hp h' hk)))
  | succ n ih =>
    intro s hg hl ⟨gs, hgs, hgo'⟩
    have hgl : g < s.gens.size := (Array.getElem?_eq_some_iff.mp hgs).1
    refine codeAny_builtin F.entry_all_loop ?_
    rw [Around.under_plainId F.plain_all_loop _]
    show wpAny _ A.in1 (pyNext (.ref ag) >>= fun r => _) _ _ s
    refine wpAny_bind (GenW.wpAny_gsz (n := g + 1) hgl (wpAny_pyNext_genexpQ (A := A.in1) (P := RA Y Q) hh hl hd hg hgs hgo' (fun v s₁ gs' hbare hv => ?_) fun s₁ hp h' hk => ?_))
    · intro hsz
      obtain ⟨b, H, rfl, I, hb⟩ := hv
      refine wpAny_bind (wpAny_holding (wpAny_truthy_bool ?_))
      refine wpAny_bind (wpAny_letGo ?_)
      have sz : (s₁.setGen g gs').gens.size = s₁.gens.size := by simp [Shared.setGen]
      have hsz1 : g < s₁.gens.size := by
        have : g + 1 ≤ (s₁.setGen g gs').gens.size := hsz
        omega
      cases b with
      | true =>
        simp only [if_true]
        refine wpAny_pure ⟨plainId_quiet F.plain_all_loop _, ih _ (hgo _ ?_) I.nolimit ⟨gs', ?_, ?_⟩⟩
        · exact (I.pin (ag, go) (List.mem_append_left _ hpn)).1
        · show (s₁.gens.setIfInBounds g gs')[g]? = some gs'
          simp [hsz1]
        · exact hb _ rfl rfl (bare_set (s := s₁.setGen g gs') (bare_set I.bare hbare) rfl)
      | false =>
        simp only [Bool.false_eq_true, if_false]
        exact wpAny_bind (wpAny_rule (wpAny_pure (hR false H _ (inv_same I rfl rfl (bare_set I.bare hbare)) hb)))
    · intro _
      exact wpAny_bind (wpAny_rule (wpAny_pure (ends _ _ _ hp h' hk)))
end

def tAllG (P : Addr) (wi : TI) (te : TE) : TE := fun σ H Q => wi σ H fun J H1 => TabG H1 P ∧ ∃ W : Nat → Nat → Hp → Prop, (∀ H2, Tabbed P H1 H2 → ∃ m, W 0 m H2) ∧ TurnA J te W Q
section
variable {X : Cx}
theorem boot_all : bootBuiltins "all" = some (.builtin "all") := by decide +kernel
/-- all(elt for x in iter): elt anything that raises nothing -/
theorem pe_allG {c P : Addr} {elt iter : Expr} {x : Str} {px p pos gpos : Pos} {scope : Scope} {wi : TI} {te : TE} {k : Nat}
    (hr : Room (k + 1) X.A) (hc : X.calm = true) (hg : Gl X "all") (hm : X.mg "all" = none) (TB : TabB X.base X.mg c P) (hcode : X.env.code = .ref c) (S : GSc scope x) (hi : PI X (.Name x px) iter wi)
    (hE : ∀ (C : Addr) (code : Value) (bi : Addr) (A' : Around) (fp : List Addr) (s4 : Shared) (H4 : Hp) (pn : List (Addr × Obj)), Room k A' → PE (genCx X (genEnv scope [] C code bi X.env) A' x fp s4 H4 pn) elt te)
    (hs : ∀ v, genFold iter X.env v = pure v := by intro _; rfl)
    (he : starEach [.GeneratorExp elt [⟨.Name x px, iter, [], 0⟩] scope gpos] X.env = (false, eval (.GeneratorExp elt [⟨.Name x px, iter, [], 0⟩] scope gpos) X.env) :: starEach [] X.env := by rfl) :
    PE X (.Call (.Name "all" p) [.GeneratorExp elt [⟨.Name x px, iter, [], 0⟩] scope gpos] [] pos) (tAllG P wi te) := by
  refine ⟨fun pins s σ H Q I h => ?_⟩
  refine wpAny_Call_Name_kw (ld_blt I hg hm boot_all ?_)
  refine PyProof.Rows.callWith_builtin1 ?_ he (by rfl)
  rw [he]
  show wpAny (model X.prog X.w) X.A (spliced ((false, eval (.GeneratorExp elt [⟨.Name x px, iter, [], 0⟩] scope gpos) X.env) :: backTo pos (starEach [] X.env))) _ _ s
  have hclo : closureFor scope X.env = pure [] := by
    rw [closure_ok fun y hy e => absurd e (S.free y hy), clo_nil S.free]
  refine Calls.spliced_cons (wpAny_GeneratorExp_make S.co hclo S.cell S.dot S.kind hr.depth ?_ hs)
  refine thn (hi.run pins s σ H _ I h) fun xv s1 h1 => thn h1 fun itv s2 h2 => ?_
  obtain ⟨it, fp, tn, J, H2, rfl, I2, T, st2, f2, ⟨ps, hP, htr⟩, W, hW, turn⟩ := h2
  refine ⟨I2.nolimit, ?_⟩
  have hPs : s2.heap.get? P = some { cls := .none, data := .fields ps } := I2.hok P _ hP
  have cd : PySem.W.CodeHd s2.heap c P := TB.code.keeps I2.bk
  have fpP : ∀ b ∈ fp, b ≠ P := fun b hb e => by
    have := (f2 b hb).1
    rw [e, hP] at this
    cases this
  have cont : ∀ (code : Value) (h3 : Heap) (tk : Nat) (H3 : Hp), Inv X pins σ H3 { s2 with heap := h3, toks := tk } → Tabbed P H2 H3 → tn 0 h3 →
      wpAny (model X.prog X.w) X.A (builtinsFor X.env.globals X.env.builtins) (fun bi s4 =>
        ∀ h', h'.Ns s4.heap.objs.size (fun y => if y = ".0" then some (.ref it) else none) → Heap.SameBut s4.heap.objs.size (s4.heap.push { cls := .type "frame", data := .dict #[] }) h' →
          wpAny (model X.prog X.w) X.A (call (.builtin "all") [.ref h'.objs.size]) (EP X pins σ Q) X.xe { s4 with
            gens := s4.gens.push (.fresh (.compStart (.GeneratorExp elt [⟨.Name x px, iter, [], 0⟩] scope gpos) 0 (.ref it) .none (genEnv scope [] s4.heap.objs.size code bi X.env))),
            toks := s4.toks + 1 + 1 + 1,
            heap := h'.push { cls := .type "generator", data := .fields #[.int s4.gens.size 0, .str "<genexpr>" (s4.toks + 1), .str (X.env.qual ++ "<genexpr>") (s4.toks + 1 + 1)] } }) X.xe { s2 with heap := h3, toks := tk } := by
    intro code h3 tk H3 I3 hT st3
    have fr3 : ∀ b ∈ fp, H3 b = none := fun b hb => (hT.2 b (fpP b hb)).trans (f2 b hb).1
    obtain ⟨bm, ob, e1, e2, e3, e4, e5, e6, e7, e8⟩ := TB.bm
    refine wpAny_builtinsFor (m := X.mg) (by rw [I3.ok.glob]; exact I3.mod.glob.keeps I3.bk) e1 e2 (I3.bk _ _ e5) e6 e7 e8 ?_
    intro h' hn' hs'
    generalize hs3 : ({ s2 with heap := h3, toks := tk } : Shared) = s3 at *
    generalize hgo : ({ cls := .type "generator", data := .fields #[.int s3.gens.size 0, .str "<genexpr>" (s3.toks + 1), .str (X.env.qual ++ "<genexpr>") (s3.toks + 1 + 1)] } : Obj) = go
    have hgd : ∀ h : Heap, ∀ a, h.get? a = some go → h.IsGen a s3.gens.size := fun h a e => ⟨go, _, _, e, by rw [← hgo], by rw [← hgo], by rw [← hgo]⟩
    have hgp : ∀ h : Heap, (h.push go).get? h.objs.size = some go := fun h => Heap.get?_push_size _ (by rw [← hgo]; rfl)
    have hgc : ∀ v, go.data ≠ .cell v := fun v e => by rw [← hgo] at e; cases e
    have hsz : h'.objs.size = s3.heap.objs.size + 1 := by rw [hs'.1, Heap.size_push]
    have keep' : ∀ b o, s3.heap.get? b = some o → h'.get? b = some o := fun b o e => hs'.extBut b o (Nat.ne_of_lt (Heap.lt_size e)) (Heap.get?_push_of_some _ e)
    have keepG : ∀ b o, s3.heap.get? b = some o → (h'.push go).get? b = some o := fun b o e => Heap.get?_push_of_some _ (keep' b o e)
    have st3' : tn 0 s3.heap := by rw [← hs3]; exact st3
    have nstk : ∀ b, s3.heap.objs.size ≤ b → b ∉ frs X.stack := fun b hb z => by
      rcases List.mem_cons.mp (I3.stkSub b z) with e | e
      · have := I3.lt
        rw [e] at hb
        exact Nat.lt_irrefl _ (Nat.lt_of_lt_of_le this hb)
      · exact I3.nofs hb e
    have fpl : ∀ b ∈ fp, b < s3.heap.objs.size := fun b hb => by
      obtain ⟨o, e, _⟩ := T.obj _ _ st3' b hb
      exact Heap.lt_size e
    have fpS : ∀ b ∈ fp, b ∉ frs X.stack := fun b hb z => by
      obtain ⟨_, g1, g2, _⟩ := f2 b hb
      rcases List.mem_cons.mp (I3.stkSub b z) with e | e
      · exact g1 e
      · exact g2 e
    have hH3 : ∀ b, s3.heap.objs.size ≤ b → H3 b = none := fun b hb => I3.hok.fresh hb
    refine call_function_tree F.kind_all F.plain_all F.entry_all (F.args_all1 _) ?_
    unfold Builtin.«all»
    refine wpAny_bind (m := oneArg "all" _) (wpAny_pure ?_)
    refine wpAny_bind (wpAny_pyIter_gen (g := s3.gens.size) (hgd _ _ (hgp h')) ?_)
    refine wpAny_pure ⟨plainId_quiet F.plain_all_loop _, ?_⟩
    have hroomk : Room k (X.A.in1.in1.deeper (genEnv scope [] s3.heap.objs.size code builtinsNs X.env)) :=
      ⟨hr.hd, by have := hr.dp; show X.A.depth + 1 + 3 * k + 5 < _; omega, by have := hr.un; show X.A.units + 1 + 1 + 3 + 16 * k + 200 < _; omega⟩
    have cnil : ∀ {y : Str} {c' : Addr}, (([] : List (Str × Addr)).lookup y) = some c' → False := fun e => by cases e
    have kin : ∀ {y : Str}, ¬ (scope.names.lookup y = some .cell ∨ scope.names.lookup y = some .free) := fun {y} e => by
      rcases e with e | e
      · exact S.cell _ (PySem.mem_of_lookup e) rfl
      · exact S.free _ (PySem.mem_of_lookup e) rfl
    have IY : Inv (genCx X (genEnv scope [] s3.heap.objs.size code builtinsNs X.env) (X.A.in1.in1.deeper (genEnv scope [] s3.heap.objs.size code builtinsNs X.env)) x fp s3 H3 [(h'.objs.size, go)]) [] [none] H3
        { s3 with gens := (s3.gens.push (.fresh (.compStart (.GeneratorExp elt [⟨.Name x px, iter, [], 0⟩] scope gpos) 0 (.ref it) .none (genEnv scope [] s3.heap.objs.size code builtinsNs X.env)))), toks := s3.toks + 1 + 1 + 1, heap := h'.push go } := by
      refine ⟨⟨I3.ok.mod, S.kind, I3.ok.glob, rfl, Nat.le_refl _, fun y z c' e _ => (cnil e).elim, fun y e => (kin e).elim, fun y c' _ e => (cnil e).elim, fun _ => hr.hd, Around.frames_deeper I3.ok.frames, .inr ⟨rfl, rfl⟩,
        fun b hb => ⟨Nat.ne_of_lt (fpl b hb), fun y c' e => (cnil e).elim⟩, I3.bs, Nat.le_trans I3.ok.bsz I3.sz, fun b o e hb => ?_, fpS, I3.stack, I3.stkFree⟩,
        rfl, I3.bare.push rfl, Un.kept keepG, ⟨_, hn'.keeps fun b o e => Heap.get?_push_of_some _ e, fun i y v e1 e2 _ => ?_⟩, fun y c' e => (cnil e).elim, hH3 _ (Nat.le_refl _), fun y c' e => (cnil e).elim, fun p hp => ?_, I3.hok.kept keepG, rfl⟩
      · obtain ⟨_, _, _, g3, _⟩ := f2 b hb
        rcases g3 with g3 | g3
        · exact I2.ok.noex b o e g3
        · have h1 := Heap.lt_size e
          have h2 := I2.ok.bsz
          exact Nat.lt_irrefl _ (Nat.lt_of_lt_of_le h1 (Nat.le_trans h2 g3))
      · match i, e2 with
        | 0, e2 => cases e2
        | i + 1, e2 => simp at e2
      · have hp2 : p ∈ ([(h'.objs.size, go)] ++ [] : List (Addr × Obj)) := hp
        have hp' : p = (h'.objs.size, go) := by simpa using hp2
        subst hp'
        exact ⟨hgp h', hH3 _ (by rw [hsz]; exact Nat.le_succ _), by show h'.objs.size ≠ s3.heap.objs.size; rw [hsz]; exact Nat.succ_ne_self _, nstk _ (by rw [hsz]; exact Nat.le_succ _), hgc⟩
    have hst : ∀ H' : Hp, (∀ b ∈ fp, H' b = none) → ∀ b ∈ fp, FpOk (genCx X (genEnv scope [] s3.heap.objs.size code builtinsNs X.env) (X.A.in1.in1.deeper (genEnv scope [] s3.heap.objs.size code builtinsNs X.env)) x fp s3 H3 [(h'.objs.size, go)]) [] H' b :=
      fun H' hf b hb => ⟨hf b hb, Nat.ne_of_lt (fpl b hb), fpS b hb, .inl hb, fun y c' e => (cnil e).elim, fun p hp => by
        have hp2 : p ∈ ([(h'.objs.size, go)] ++ [] : List (Addr × Obj)) := hp
        have hp' : p = (h'.objs.size, go) := by simpa using hp2
        subst hp'
        show h'.objs.size ≠ b
        rw [hsz]
        exact Nat.ne_of_gt (Nat.lt_succ_of_lt (fpl b hb))⟩
    obtain ⟨m, w0⟩ := hW H3 hT
    refine loop_all (Q := Q) (go := go) (g := s3.gens.size) (A := X.A) (Y := genCx X (genEnv scope [] s3.heap.objs.size code builtinsNs X.env) (X.A.in1.in1.deeper (genEnv scope [] s3.heap.objs.size code builtinsNs X.env)) x fp s3 H3 [(h'.objs.size, go)])
      (by exact List.mem_singleton.mpr rfl) (fun h e => hgd h _ e) hr.hd hr.depth (fun b H' s' I' q' => ?_) (m + 1) _ (hgd _ _ (hgp h')) IY.nolimit ⟨_, Array.getElem?_push_size .., rfl, ?_⟩
    · refine ⟨.bl b, H', ?_, rfl, q'⟩
      refine I3.call' (ch := fp) I'.os I'.base I'.hok I'.bare fun b hb => ?_
      obtain ⟨_, g1, _, g3, g4, g5⟩ := f2 b hb
      exact ⟨g3, g1, g4, g5⟩
    · exact seg_all0 S rfl (hE _ _ _ _ _ _ _ _ hroomk) T hst turn (m + 1) _ _ ⟨m, H3, Nat.lt_succ_self m, inv_same IY rfl rfl (bare_set IY.bare rfl), T.keep _ _ _ st3' fun b _ o e => keepG b o e, fr3, w0⟩
  cases hf : codeAmong gpos ps.toList with
  | none =>
    refine wpAny_genexprCodeX hcode (cd.code hPs htr) (cd.tab hPs) hf fun c' h' tk hx hge hlt hco' _ htab' _ => ?_
    obtain ⟨o1, vs, f1, tf, fl, tg, inF, tx, tt, op, _, _, _, _, _, _, _, _, _, htr', _⟩ := hco'
    have J3 := inv_tab (h' := h') (g' := s2.gens) (d' := s2.drawn) (t' := tk) I2 hP (fun b u hb e => hx b u hb e) htab'.2 I2.bare
    exact thn (cont _ h' tk _ J3 ⟨⟨_, upd_same, htr'⟩, fun b hb => upd_ne hb⟩ (T.keep _ _ _ st2 fun b hb o e => hx b o (fpP b hb) e)) fun bi s4 h4 h'' a1 a2 => Calls.spliced_nil (h4 h'' a1 a2)
  | some cv =>
    refine wpAny_genexprCode_hit hcode (cd.code hPs htr) hf ?_
    exact thn (cont cv s2.heap s2.toks H2 I2 ⟨⟨ps, hP, htr⟩, fun _ _ => rfl⟩ st2) fun bi s4 h4 h'' a1 a2 => Calls.spliced_nil (h4 h'' a1 a2)
end
end Ln


set_option Elab.async false
set_option linter.all false
set_option maxRecDepth 100000
set_option maxHeartbeats 4000000
namespace Ln
open PySem PySem.Spec PyProof.Rows L2

theorem keyIs_scan {k : Key} {v : Value} (h : keyIs k v = true) : v.scannable = true := by
  rcases keyIs_shape h with ⟨i, t, _, rfl⟩ | ⟨x, t, _, rfl⟩ <;> rfl

/-- whether k is among the keys l -/
def memK (l : List Key) (k : Key) : Bool := l.any fun j => decide (j = k)
theorem memK_iff {l : List Key} {k : Key} : memK l k = true ↔ k ∈ l := by
  unfold memK
  rw [List.any_eq_true]
  constructor
  · intro ⟨j, hj, e⟩
    rw [← of_decide_eq_true e]
    exact hj
  · intro h
    exact ⟨k, h, decide_eq_true rfl⟩
theorem memK_app {l : List Key} {k k' : Key} : memK (l ++ [k]) k' = (memK l k' || decide (k' = k)) := by
  unfold memK
  rw [List.any_append]
  congr 1
  show (decide (k = k') || false) = _
  rw [Bool.or_false]
  by_cases e : k = k'
  · rw [e]
  · rw [decide_eq_false e, decide_eq_false fun q => e q.symm]
theorem setOf_eq {P : Program} {w : World} {h : Heap} {a : Addr} {S S' : Key → Bool} {n : Nat} (hS : h.SetOf (mixKind P w) a S n) (e : ∀ k, S k = S' k) : h.SetOf (mixKind P w) a S' n := by
  have : S = S' := funext e
  subst this
  exact hS
/-- the set of the first i keys stands at a: m members -/
def SetUp (P : Program) (w : World) (h : Heap) (a : Addr) (ks : List Key) (i : Nat) : Prop :=
  ∃ m, h.SetOf (mixKind P w) a (memK (ks.take i)) m ∧ m ≤ i ∧ (m = i ↔ (ks.take i).Nodup)
theorem nodup_snoc {α : Type} {l : List α} {x : α} : (l ++ [x]).Nodup ↔ l.Nodup ∧ x ∉ l := by
  rw [List.nodup_append]
  constructor
  · intro ⟨a, _, c⟩
    exact ⟨a, fun hx => c x hx x List.mem_cons_self rfl⟩
  · intro ⟨a, b⟩
    refine ⟨a, List.nodup_cons.mpr ⟨by simp, List.nodup_nil⟩, fun y hy z hz e => ?_⟩
    rw [List.mem_singleton] at hz
    exact b (by rw [← hz, ← e]; exact hy)
theorem setUp_step {P : Program} {w : World} {h' : Heap} {a : Addr} {ks : List Key} {i m : Nat} {k : Key} (hk : ks[i]? = some k) (hm : m ≤ i) (hn : m = i ↔ (ks.take i).Nodup)
    (hs : h'.SetOf (mixKind P w) a (fun k' => memK (ks.take i) k' || decide (k' = k)) (if memK (ks.take i) k then m else m + 1)) : SetUp P w h' a ks (i + 1) := by
  have ht : ks.take (i + 1) = ks.take i ++ [k] := by rw [List.take_add_one, hk]; rfl
  refine ⟨if memK (ks.take i) k then m else m + 1, setOf_eq hs (fun k' => by rw [ht, memK_app]), ?_, ?_⟩
  · split <;> omega
  · rw [ht, nodup_snoc]
    by_cases e : k ∈ ks.take i
    · rw [if_pos (memK_iff.mpr e)]
      exact ⟨fun q => by omega, fun q => absurd e q.2⟩
    · rw [if_neg fun q => e (memK_iff.mp q)]
      exact ⟨fun q => ⟨hn.mp (by omega), e⟩, fun q => by have := hn.mpr q.1; omega⟩

section
variable {P : Program} {w : World} {A : Around} {R : Result → Shared → Prop} {it : Addr} {fp wr : List Addr} {G : Array GenState → Array GenState → Prop} {n : Nat} {Pv : Nat → Value → Prop} {St : Nat → Shared → Prop}
theorem loop_keys (W : WalksS P w A.in1 it fp wr G n Pv St) (S : Addr) (hSf : S ∉ fp) (ks : List Key) (hval : ∀ (i : Nat) (v : Value), Pv i v → ∃ k : Key, ks[i]? = some k ∧ keyIs k v = true) (hb : n + 1 < scanBound) :
    ∀ (d i : Nat) (s : Shared), n - i = d → i ≤ n → St i s → SetUp P w s.heap S ks i →
      (∀ s', Moved (S :: wr) G s s' → SetUp P w s'.heap S ks n → R (.ok (.ret .none)) s') →
      codeAny (model P w) A (.builtin "set.update.loop" ⟨[.ref S, .ref it], []⟩) R s := by
  have nwr : S ∉ wr := fun z => hSf (W.sub _ z)
  have more : ∀ b ∈ wr, b ∈ S :: wr := fun b z => List.mem_cons_of_mem S z
  intro d
  induction d with
  | zero =>
    intro i s hd hi st ⟨m, hS, hm, hn⟩ hR
    obtain rfl : i = n := by omega
    refine codeAny_builtin PyProof.Rows.F.entry_set_update_loop ?_
    rw [Around.under_plainId (PyProof.Rows.F.plain_set_update_loop) _]
    show wpAny (model P w) A.in1 (pyNext (.ref it) >>= _) _ _ s
    refine wpAny_bind (W.done s _ _ st fun s1 hmv => ?_)
    exact wpAny_pure (hR s1 (hmv.mono more) ⟨m, setOf_at hS fun o e => hmv.heap S o nwr e, hm, hn⟩)
  | succ d ih =>
    intro i s hd hi st ⟨m, hS, hm, hn⟩ hR
    have hlt : i < n := by omega
    refine codeAny_builtin PyProof.Rows.F.entry_set_update_loop ?_
    rw [Around.under_plainId (PyProof.Rows.F.plain_set_update_loop) _]
    show wpAny (model P w) A.in1 (pyNext (.ref it) >>= _) _ _ s
    refine wpAny_bind (W.item i s _ _ hlt st fun v s1 hv st1 hmv => ?_)
    obtain ⟨k, hk, kv⟩ := hval i v hv
    have hS1 := setOf_at hS fun o e => hmv.heap S o nwr e
    show wpAny (model P w) A.in1 (holding [v] (setAdd S v) >>= _) _ _ s1
    refine wpAny_bind (wpAny_holding ?_)
    unfold setAdd
    refine wpAny_holding (wpAny_bind ((mixKind P w).pyHash (k := k) kv ?_))
    refine wpAny_setAddHashed_of (knd := mixKind P w) (s := { s1 with toks := s1.toks + 1 }) kv (keyIs_scan kv) hS1 (by omega) fun h2 sb hS2 => ?_
    refine wpAny_pure ⟨plainId_quiet (PyProof.Rows.F.plain_set_update_loop) _, ih (i + 1) _ (by omega) hlt (W.frame _ s1 _ _ st1 (Nat.le_succ _) fun b hbf o e => ?_) (setUp_step hk hm hn hS2) fun s3 hm3 hS3 => ?_⟩
    · exact (sb.2 b fun z => hSf (z ▸ hbf)).trans e
    · refine hR s3 (Moved.trans W.gtrans ((hmv.mono more).then_heap (Nat.le_succ _) fun b o hbw e => ?_) hm3) hS3
      exact (sb.2 b fun z => hbw (by rw [z]; exact List.mem_cons_self)).trans e
end

abbrev sObj (led : Bool) : Obj := { cls := .type "set", dict := none, data := .set #[] 0 (.fresh 0 0 led) }
section
variable {P : Program} {w : World} {A : Around} {E : Value → Shared → Prop} {s : Shared}
theorem call_set_keys {l : Addr} {items : Array Value} {ks : List Key} {Q : Value → Shared → Prop}
    (hh : A.handled = none) (hl : s.heap.IsTuple l items) (hk : ks.length = items.size) (hi : ∀ (i : Nat) (v : Value), items[i]? = some v → ∃ k : Key, ks[i]? = some k ∧ keyIs k v = true) (hb : items.size + 1 < scanBound)
    (h : ∀ (h' : Heap) (tk : Nat), SetUp P w h' s.heap.objs.size ks items.size → (∀ b o, b < s.heap.objs.size → s.heap.get? b = some o → h'.get? b = some o) → Q (.ref s.heap.objs.size) { s with heap := h', toks := tk }) :
    wpAny (model P w) A (call (.type "set") [.ref l]) Q E s := by
  obtain ⟨mro1, mro2, hmro⟩ := PySem.F.called_set.mro
  have made := PySem.F.called_set.made
  have subs := PySem.F.called_set.sub
  refine wpAny_call (codeAny_of_tree ?_)
  show wpAny (model P w) _ (callAny (.type "set") _) _ _ _
  refine wpAny_pure ⟨Code.quiet_builtin _ (by decide +kernel), codeAny_builtin (PySem.F.entry_type_call) ?_⟩
  rw [Around.under_plain (weight_type_call_type "set" [Value.ref l] []) rfl]
  have notT := PySem.F.called_set.notType
  have canC := PySem.F.called_set.canCreate
  have chk := PySem.F.typeCall_set_1 (Value.ref l)
  repeat (any_goals (first | assumption | wp_step))
  refine codeAny_mono (code_set_new_1 (.ref l) (E := E) (Q₁ := fun ob s1 => ∃ led, ob = .ref s.heap.objs.size ∧ s1 = { s with heap := s.heap.push (sObj led) }) fun led => ⟨led, rfl, rfl⟩) fun r s1 hr => ?_
  match r, hr with
  | .error e, hr => exact hr
  | .ok .next, hr => exact hr.elim
  | .ok .brk, hr => exact hr.elim
  | .ok .cont, hr => exact hr.elim
  | .ok (.ret ob), hr =>
    obtain ⟨led, rfl, rfl⟩ := hr
    have hS : (s.heap.push (sObj led)).get? s.heap.objs.size = some (sObj led) := Heap.get?_push_size _ rfl
    have tyS : Shared.TypeIs { s with heap := s.heap.push (sObj led) } (.ref s.heap.objs.size) "set" := ⟨_, hS, rfl⟩
    have lkI := PySem.F.called_set.init.lookup
    have bdI := PySem.F.called_set.init.bind (.ref s.heap.objs.size)
    repeat (any_goals (first | assumption | wp_step))
    refine codeAny_mono (codeAny_call_builtin (R := wants (fun r s2 => r = .none ∧ ∃ h' tk, s2 = { s with heap := h', toks := tk } ∧ SetUp P w h' s.heap.objs.size ks items.size ∧ (∀ b o, b < s.heap.objs.size → s.heap.get? b = some o → h'.get? b = some o)) E)
      (PySem.F.called_set.init.plain) (PySem.F.entry_set_init) (check_set_init_1 tyS ?_)) fun r2 s2 hr2 => ?_
    · obtain ⟨ob, hob, hcl, nl, hdl⟩ := hl
      obtain ⟨oc, od, oda, osl⟩ := ob
      simp only at hcl hdl
      subst hcl
      subst hdl
      have hob1 : (s.heap.push (sObj led)).get? l = some { cls := .type "tuple", dict := od, data := .seq items nl, slots := osl } := Heap.get?_push_of_some _ hob
      have n1 := PySem.F.sub_tuple_set
      have n2 := PySem.F.sub_tuple_frozenset
      have n3 : (Value.type "tuple" == Value.type "dict") = false := by decide
      have tup1 : (s.heap.push (sObj led)).IsTuple l items := ⟨_, hob1, rfl, nl, rfl⟩
      unfold Builtin.«set.__init__» noKeywords Builtin.Frozenset.updateFrom
      generalize hPI : pyIter = PI
      wp_walk
      subst hPI
      refine wpAny_pyIter_tuple tup1 (wpAny_bind (wpAny_runValue ?_))
      have lS : l < s.heap.objs.size := Heap.lt_size hob
      have hne : l ≠ (s.heap.push (sObj led)).objs.size := by
        rw [Heap.size_push]
        exact Nat.ne_of_lt (Nat.lt_succ_of_lt lS)
      have nS : s.heap.objs.size ∉ [(s.heap.push (sObj led)).objs.size, l] := by
        rw [Heap.size_push]
        intro z
        rcases List.mem_cons.mp z with z | z
        · exact absurd z (Nat.ne_of_lt (Nat.lt_succ_self _))
        · exact absurd (List.mem_singleton.mp z) (Nat.ne_of_gt lS)
      refine loop_keys ((Walks.tuple (show A.in1.in1.in1.handled = none by simp [hh]) _ l hne items).toS) s.heap.objs.size nS ks hi hb (items.size - 0) 0 _ (by omega) (Nat.zero_le _) ⟨⟨_, Heap.get?_push_size _ rfl, rfl, rfl⟩, tup1.push _⟩ ?hS0 ?hR
      case hS0 =>
        have got : ((s.heap.push (sObj led)).push { cls := .type "tuple_iterator", data := .fields #[.ref l, .int 0 0] }).get? s.heap.objs.size = some (sObj led) := Heap.get?_push_of_some _ hS
        have e0 : ((s.heap.push (sObj led)).push { cls := .type "tuple_iterator", data := .fields #[.ref l, .int 0 0] }).SetOf (mixKind P w) s.heap.objs.size (memK (ks.take 0)) 0 :=
          ⟨_, #[], 0, _, got, ⟨rfl, rfl, rfl⟩, rfl, (fun e he => by simp at he), (fun k => by simp [memK]), (by decide), (by rfl), rfl⟩
        exact ⟨0, e0, Nat.le_refl _, by simp⟩
      case hR =>
        intro s3 hmv hS3
        obtain ⟨h3, g3, d3, t3, o3⟩ := s3
        have eg : g3 = s.gens := hmv.gens
        have ed : d3 = s.drawn := hmv.drawn
        have eo : o3 = s.os := hmv.os
        subst eg ed eo
        show wpAny (model P w) _ _ _ _ _
        refine wpAny_pure ?_
        show wpAny (model P w) _ (ret Value.none) _ _ _
        refine wpAny_pure ⟨rfl, h3, t3, rfl, hS3, fun b o hb2 e => ?_⟩
        refine hmv.heap b o (fun z => ?_) (Heap.get?_push_of_some _ (Heap.get?_push_of_some _ e))
        rcases List.mem_cons.mp z with z | z
        · exact Nat.ne_of_lt hb2 z
        · have z := List.mem_singleton.mp z
          rw [Heap.size_push] at z
          exact Nat.ne_of_lt (Nat.lt_succ_of_lt hb2) z
    · match r2, hr2 with
      | .error e, hr2 => exact hr2
      | .ok .next, hr2 => exact hr2.elim
      | .ok .brk, hr2 => exact hr2.elim
      | .ok .cont, hr2 => exact hr2.elim
      | .ok (.ret r), hr2 =>
        obtain ⟨rfl, h3, t3, rfl, hS3, hk3⟩ := hr2
        repeat (any_goals (first | assumption | wp_step))
        exact h _ _ hS3 hk3
end
end Ln


set_option maxRecDepth 100000
namespace Ln
open PySem
/-! ### the text -/
def topS (i : Nat) : Stmt := PySem.Challenge.pw_openlane_k03_log_errors.main.body.getD i (.Pass ⟨0, 0, 0, 0⟩)
abbrev sIsCar : Stmt := topS 18
abbrev sIsSide : Stmt := topS 19
abbrev sIsLane : Stmt := topS 20
abbrev sIsArr : Stmt := topS 21
abbrev sIsDep : Stmt := topS 22
abbrev sHasW : Stmt := topS 23
abbrev sIsLog : Stmt := topS 24
abbrev sReqLane : Stmt := topS 25
abbrev sReqLog : Stmt := topS 26
abbrev sReqSides : Stmt := topS 27
abbrev sSizes : Stmt := topS 28
abbrev sNumbers : Stmt := topS 29
abbrev sReplay : Stmt := topS 30
abbrev sSource : Stmt := topS 33
abbrev sDraw : Stmt := topS 34
abbrev sMixed : Stmt := topS 35
abbrev sVeh : Stmt := topS 36
abbrev sHap : Stmt := topS 37
abbrev sMove : Stmt := topS 31
abbrev sLaw : Stmt := topS 43
abbrev sRaised : Stmt := topS 39
abbrev sDue : Stmt := topS 40
abbrev sBad : Stmt := topS 41
abbrev sMade : Stmt := topS 42
abbrev sKind : Stmt := topS 38
end Ln


set_option Elab.async false
set_option linter.all false
set_option maxRecDepth 100000
set_option maxHeartbeats 2000000
namespace Ln
open PySem PySem.Spec PyProof.Rows L2 GxR
/-! ### the text -/
/-- a def of the text, its code object known -/
structure FunC (K : PySem.W.Frag) (x qual : Str) (st : Stmt) (f : Addr) (fd : FuncData) (c : Addr) : Prop where
  ex : ∃ (oc : Value) (od : Option Addr) (kV doc pm : Value) (an : Option Addr) (ct : Value) (osl : Array (Option Value)),
    fd = PySem.W.fnOf x qual (defArgs st) (defBody st) (defScope st) .none kV doc pm an (.ref c) ct ∧ K.lookup f = some ⟨oc, od, .func fd, osl⟩ ∧ PySem.W.codeIn K (.ref c) qual = true
  kp : PySem.W.keepIn K (.ref f) = true
theorem FunC.fn {K : PySem.W.Frag} {x qual : Str} {st : Stmt} {f : Addr} {fd : FuncData} {c : Addr} (F : FunC K x qual st f fd c) : Fun K x qual st f fd := by
  obtain ⟨oc, od, kV, doc, pm, an, ct, osl, e, lk, hc⟩ := F.ex
  exact ⟨⟨oc, od, kV, doc, pm, an, .ref c, ct, osl, e, lk, hc⟩, F.kp⟩
theorem FunC.ok {P : Program} {w : World} {K : PySem.W.Frag} {mg : Str → Option Value} {base : Heap} {x qual : Str} {st : Stmt} {f : Addr} {fd : FuncData} {c : Addr} {N ps : List Str} {k : Nat} {sp : Sp} (F : FunC K x qual st f fd c) (S : FnScope N ps (defScope st))
    (len : ∀ vs H Q E, sp vs H Q E → vs.length = ps.length)
    (hbody : ∀ (A : Around) (outer : List Env) (s : Shared) (H : Hp) (vs : List V) (Q : VK) (E : XK), Room k (A.deeper (envOfC qual (defScope st) s.heap.objs.size f (.ref c))) → sp vs H Q E →
      ∃ t, PSs (cxOf CX0 P w K mg base N qual (defScope st) f (.ref c) A outer s H E).nox (defBody st) t ∧ t { nx := fun _ H' => Q .non H', rt := Q } (start N vs) H) : FnOk P w K mg base CX0 (k + 1) f fd ps sp := by
  obtain ⟨oc, od, kV, doc, pm, an, ct, osl, rfl, lk, hcd⟩ := F.ex
  refine fn_of lk hcd S len fun A outer s H vs Q E hr hsp => ?_
  obtain ⟨t, h, q⟩ := hbody A outer s H vs Q E hr hsp
  exact ⟨t, h.nox, q⟩

/-! ### heaps -/
/-- what stood stands, but for the tables Ps, which may have grown -/
structure Kp (Ps : List Addr) (H H' : Hp) : Prop where
  at_ : ∀ b o, H b = some o → b ∉ Ps → H' b = some o
  tab : ∀ p ∈ Ps, TabG H' p
def Tabs (Ps : List Addr) (H : Hp) : Prop := ∀ p ∈ Ps, TabG H p
section
variable {Ps : List Addr} {H H1 H2 : Hp} {a p : Addr} {o : HO} {K : PySem.W.Frag} {xs : List V}
theorem Kp.refl (h : Tabs Ps H) : Kp Ps H H := ⟨fun _ _ e _ => e, h⟩
theorem Kp.tabs (h : Kp Ps H H1) : Tabs Ps H1 := h.tab
theorem Kp.trans (h : Kp Ps H H1) (k : Kp Ps H1 H2) : Kp Ps H H2 := ⟨fun b o e n => k.at_ b o (h.at_ b o e n) n, k.tab⟩
theorem tab_ne (h : Tabs Ps H) (e : H a = some o) (hn : ∀ q, o ≠ .tbl q) : a ∉ Ps := fun z => by
  obtain ⟨ps, e2, _⟩ := h a z
  rw [e2] at e
  exact hn ps (Option.some.inj e).symm
theorem tab_free (h : Tabs Ps H) (e : H a = none) : a ∉ Ps := fun z => by
  obtain ⟨ps, e2, _⟩ := h a z
  rw [e2] at e
  cases e
theorem Kp.new (h : Tabs Ps H) (e : H p = none) : Kp Ps H (upd H p o) :=
  ⟨fun b u q _ => by rw [upd_ne (ne_of_none q e)]; exact q, fun q hq => by
    obtain ⟨ps, e2, t⟩ := h q hq
    exact ⟨ps, by rw [upd_ne (ne_of_none e2 e)]; exact e2, t⟩⟩
theorem Kp.tabbed (h : Tabs Ps H) (hp : p ∈ Ps) (t : Tabbed p H H1) : Kp Ps H H1 :=
  ⟨fun b u q n => (t.2 b fun z => n (z ▸ hp)).trans q, fun q hq => by
    by_cases e : q = p
    · rw [e]
      exact t.1
    · obtain ⟨ps, e2, r⟩ := h q hq
      exact ⟨ps, (t.2 q e).trans e2, r⟩⟩
theorem Kp.lst (k : Kp Ps H H1) (h : Tabs Ps H) (e : H a = some (.lst xs)) : H1 a = some (.lst xs) := k.at_ a _ e (tab_ne h e fun q z => by cases z)
theorem Kp.tup (k : Kp Ps H H1) (h : Tabs Ps H) (e : H a = some (.tup xs)) : H1 a = some (.tup xs) := k.at_ a _ e (tab_ne h e fun q z => by cases z)
theorem Kp.ext {φ : Heap → Prop} (k : Kp Ps H H1) (h : Tabs Ps H) (e : H a = some (.ext φ)) : H1 a = some (.ext φ) := k.at_ a _ e (tab_ne h e fun q z => by cases z)
theorem Kp.seqL (k : Kp Ps H H1) (h : Tabs Ps H) (e : SqL K H a xs) : SqL K H1 a xs := by
  rcases e with (e | ⟨ob, e⟩) | e
  · exact .inl (.inl (k.lst h e))
  · exact .inl (.inr ⟨ob, k.at_ a _ e (tab_ne h e fun q z => by cases z)⟩)
  · exact .inr e
theorem Kp.seqT (k : Kp Ps H H1) (h : Tabs Ps H) (e : SqT K H a xs) : SqT K H1 a xs := by
  rcases e with (e | ⟨ob, e⟩) | e
  · exact .inl (.inl (k.tup h e))
  · exact .inl (.inr ⟨ob, k.at_ a _ e (tab_ne h e fun q z => by cases z)⟩)
  · exact .inr e
/-- what is free behind was free before, tables apart -/
theorem Kp.free (k : Kp Ps H H1) (h : Tabs Ps H) (e : H1 p = none) : H p = none := by
  cases q : H p with
  | none => rfl
  | some u =>
    by_cases z : p ∈ Ps
    · exact absurd e (by
        obtain ⟨ps, e2, _⟩ := k.tab p z
        rw [e2]
        exact fun y => by cases y)
    · rw [k.at_ p u q z] at e
      cases e
end
end Ln


set_option Elab.async false
set_option linter.all false
set_option maxRecDepth 100000
set_option maxHeartbeats 2000000
namespace Ln
open PySem PySem.Spec PyProof.Rows L2 GxR
/-- the program's text as it stands: what its defs lean on -/
structure Bi (mg : Str → Option Value) : Prop where
  isi : mg "isinstance" = none
  len : mg "len" = none
  all : mg "all" = none
  str : mg "str" = none
  tup : mg "tuple" = none
  lst : mg "list" = none
  set : mg "set" = none
  zip : mg "zip" = none
def lowB (c : Nat) : Bool := decide (97 ≤ c) && decide (c ≤ 122)
def carB (x : Str) : Bool := decide (1 ≤ x.length) && decide (x.length ≤ 4) && x.cps.toList.all lowB
theorem scIsCar : FnScope ["value"] ["value"] (defScope sIsCar) := ⟨rfl, rfl, rfl, by decide +kernel, rfl, by decide +kernel, by decide +kernel⟩
section
variable {P : Program} {w : World} {K : PySem.W.Frag} {mg : Str → Option Value} {base : Heap} {Ps : List Addr}
def spCar (Ps : List Addr) : Sp := fun vs H Q _ => ∃ c : Str, vs = [.str c] ∧ c.length ≤ sizeLine ∧ Tabs Ps H ∧ ∀ H', Kp Ps H H' → Q (.bl (carB c)) H'
theorem ok_car {f c P1 : Addr} {fd : FuncData} (F : FunC K "is_car" "is_car" sIsCar f fd c) (B : Bi mg) (TB : TabB base mg c P1) (hP : P1 ∈ Ps) : FnOk P w K mg base CX0 2 f fd ["value"] (spCar Ps) := by
  refine F.ok scIsCar (fun vs H Q E h => ?_) (fun A outer s H vs Q E hr h => ?_)
  · obtain ⟨z, rfl, _⟩ := h
    rfl
  · obtain ⟨z, rfl, hz, hT, q⟩ := h
    refine ⟨_, pss_cons (ps_if (PW.pt (pw_or (pt_not (pt_val (pe_callB call_isi (by rfl) B.isi (by decide +kernel) (pa_cons (pv 0) (pa_cons (pe_bltn (by rfl) B.str (by decide +kernel) (v := .ty "str") rfl) pa_nil)))))
        (pw_or1 (pt_not (pt_chain op_le op_le pe_int (pe_callB call_len_str (by rfl) B.len PySem.boot_len (pa_cons (pv 0) pa_nil)) pe_int)))))
        (pss_one (ps_ret pe_bl)) pss_nil)
      (pss_one (ps_ret (pe_allG (k := 0) hr rfl (by rfl) B.all TB rfl ⟨rfl, rfl, by decide +kernel, by decide +kernel, rfl, rfl⟩ (pi_str (pv 0))
        (fun _ _ _ _ _ _ _ _ _ => pe_chain op_le_str op_le_str pe_str (pv 0) pe_str)))), ?_⟩
    refine ⟨_, rfl, .str z, .ty "str", .type "str", .type "str", true, rfl, .ty _, .base (.str z), kit_ty (by decide +kernel), true, rfl, ?_⟩
    refine iteF ?_
    refine ⟨.str z, rfl, z, rfl, hz, 1, (z.length : Int), rfl, rfl, _, rfl, ?_⟩
    have out : ¬ (1 ≤ z.length ∧ z.length ≤ 4) → Q (.bl false) H := fun hn => by
      have e : carB z = false := by
        unfold carB
        by_cases a : 1 ≤ z.length
        · by_cases b : z.length ≤ 4
          · exact absurd ⟨a, b⟩ hn
          · simp [b]
        · simp [a]
      have := q H (Kp.refl hT)
      rw [e] at this
      exact this
    refine ite2 (fun h1 => ?_) (fun h1 => ?_)
    · have h1 : (1 : Int) ≤ z.length := of_decide_eq_true h1
      refine ⟨_, _, rfl, rfl, _, rfl, ?_⟩
      by_cases h4 : z.length ≤ 4
      · rw [decide_eq_true (show (z.length : Int) ≤ 4 by omega)]
        refine iteF ?_
        -- all('a' <= letter <= 'z' ..)
        refine ⟨.str z, rfl, z, rfl, hT P1 hP, fun i m H' => m = z.length - i ∧ Kp Ps H H' ∧ i ≤ z.length ∧ (z.cps.toList.take i).all lowB = true, fun H2 hH => ⟨z.length, by omega, Kp.tabbed hT hP hH, Nat.zero_le _, rfl⟩, fun i m H' hW => ?_⟩
        obtain ⟨rfl, kp, hi, hall⟩ := hW
        by_cases hlt : i < z.length
        · refine .inr ⟨hlt, fun v H3 hy => ?_⟩
          obtain ⟨rfl, c, hc, rfl⟩ := hy
          have cl : ∀ y : Nat, (⟨#[y]⟩ : Str).cps.toList = [y] := fun y => rfl
          have ca : ("a" : Str).cps.toList = [97] := by decide +kernel
          have cz : ("z" : Str).cps.toList = [122] := by decide +kernel
          have lt1 : ∀ x y : Nat, ([x] < [y]) ↔ x < y := fun x y => by rw [List.cons_lt_cons_iff]; simp
          refine ⟨.str ⟨#[c]⟩, rfl, _, _, rfl, rfl, _, rfl, ?_⟩
          have hcl : z.cps.toList[i]? = some c := by rw [Array.getElem?_toList]; exact hc
          have fin : lowB c = false → Q (.bl false) H3 := fun e => by
            have e2 : carB z = false := by
              unfold carB
              have : z.cps.toList.all lowB = false := by
                rw [List.all_eq_false]
                exact ⟨c, List.mem_of_getElem? hcl, by rw [e]; simp⟩
              rw [this, Bool.and_false]
            have := q H3 kp
            rw [e2] at this
            exact this
          by_cases h97 : 97 ≤ c
          · have e1 : (!decide ((⟨#[c]⟩ : Str).cps.toList < ("a" : Str).cps.toList)) = true := by rw [ca, cl, decide_eq_false (by rw [lt1]; omega)]; rfl
            rw [e1]
            refine iteT ⟨_, _, rfl, rfl, _, rfl, ?_⟩
            by_cases h122 : c ≤ 122
            · have e2 : (!decide (("z" : Str).cps.toList < (⟨#[c]⟩ : Str).cps.toList)) = true := by rw [cz, cl, decide_eq_false (by rw [lt1]; omega)]; rfl
              rw [e2]
              refine iteT ⟨z.length - (i + 1), by omega, rfl, kp, hlt, ?_⟩
              rw [List.take_add_one, hcl, List.all_append, hall]
              simp [lowB, h97, h122]
            · have e2 : (!decide (("z" : Str).cps.toList < (⟨#[c]⟩ : Str).cps.toList)) = false := by rw [cz, cl, decide_eq_true (by rw [lt1]; omega)]; rfl
              rw [e2]
              exact iteF (fin (by simp [lowB, h122]))
          · have e1 : (!decide ((⟨#[c]⟩ : Str).cps.toList < ("a" : Str).cps.toList)) = false := by rw [ca, cl, decide_eq_true (by rw [lt1]; omega)]; rfl
            rw [e1]
            exact iteF ⟨_, rfl, iteF (fin (by simp [lowB, h97]))⟩
        · refine .inl ⟨by show z.cps.size ≤ i; exact Nat.le_of_not_lt hlt, ?_⟩
          have e : carB z = true := by
            have : i = z.length := by omega
            rw [this, List.take_of_length_le (Nat.le_of_eq (by show z.cps.toList.length = z.cps.size; simp))] at hall
            have a : 1 ≤ z.length := by omega
            simp [carB, a, h4, hall]
          have := q H' kp
          rw [e] at this
          exact this
      · rw [decide_eq_false (show ¬ (z.length : Int) ≤ 4 by omega)]
        exact iteT (out (by omega))
    · have h1 : ¬ (1 : Int) ≤ z.length := fun z => h1 (decide_eq_true z)
      exact ⟨_, rfl, iteT (out (by omega))⟩
end
end Ln


set_option Elab.async false
set_option linter.all false
set_option maxRecDepth 100000
set_option maxHeartbeats 2000000
namespace Ln
open PySem PySem.Spec PyProof.Rows L2 GxR
section
variable {X : Cx}
/-- set(t), t a tuple of texts -/
def rSetT (K : PySem.W.Frag) (P : Program) (w : World) : List V → Hp → VK → Prop := fun vs H Q => ∃ (a : Addr) (xs : List Str), vs = [.ref a] ∧ SqT K H a (xs.map V.str) ∧ xs.length ≤ 1000 ∧
  ∀ p n, H p = none → n ≤ xs.length → (n = xs.length ↔ xs.Nodup) → Q (.ref p) (upd H p (SetK P w p (memK (xs.map Sum.inr)) n))
theorem nodup_inr {xs : List Str} : (xs.map (Sum.inr : Str → Key)).Nodup ↔ xs.Nodup := by
  constructor
  · intro h
    exact (List.pairwise_map.mp h).imp fun hne e => hne (by rw [e])
  · intro h
    exact List.pairwise_map.mpr (h.imp fun hne e => hne (Sum.inr.inj e))
theorem cr_setT (hc : X.calm = true) : CallR X (.type "set") (rSetT X.K X.prog X.w) := by
  intro pins s σ H vs us Q I r h
  obtain ⟨a, xs, rfl, hS, hlen, q⟩ := h
  obtain ⟨u, rfl, r1⟩ := vals1 r
  obtain rfl : u = Value.ref a := r1
  obtain ⟨its, rv, p, _⟩ := I.tuple hS
  have hl : its.toArray.size = xs.length := by rw [List.size_toArray, ← rv.length, List.length_map]
  refine call_set_keys (ks := xs.map Sum.inr) (I.ok.hd hc) (show s.heap.IsTuple a its.toArray from p) (by rw [hl, List.length_map]) (fun i v hv => ?_) (by rw [hl]; unfold scanBound; omega) fun h' tk hS' hk => ?_
  · have hv' : its[i]? = some v := by simpa using hv
    have hi : i < xs.length := by
      rw [← hl]
      exact (Array.getElem?_eq_some_iff.mp hv).1
    have hx : (xs.map V.str)[i]? = some (V.str xs[i]) := by rw [List.getElem?_map, List.getElem?_eq_getElem hi]; rfl
    obtain ⟨u, hu, ru⟩ := rv.get hx
    rw [hv'] at hu
    obtain rfl : v = u := Option.some.inj hu
    obtain ⟨t, rfl⟩ := ru
    exact ⟨Sum.inr xs[i], by rw [List.getElem?_map, List.getElem?_eq_getElem hi]; rfl, keyIs_str _ _⟩
  · rw [hl] at hS'
    obtain ⟨m, hm, hle, hn⟩ := hS'
    rw [List.take_of_length_le (by rw [List.length_map]; exact Nat.le_refl _)] at hm hn
    have hf : H s.heap.objs.size = none := I.hok.fresh (Nat.le_refl _)
    exact ⟨.ref s.heap.objs.size, _, I.laid (t' := tk) (fun b u e => hk b u (Heap.lt_size e) e) (Nat.le_refl _) (setK_new hm), rfl, q _ m hf hle (hn.trans nodup_inr)⟩
theorem call_len_setK : CallR X (.builtin "len") (fun vs H Q => ∃ a S n, vs = [.ref a] ∧ H a = some (SetK X.prog X.w a S n) ∧ n ≤ 1000 ∧ Q (.int (n : Nat)) H) := by
  intro pins s σ H vs us Q I r h
  obtain ⟨a, S, n, rfl, ha, hn, q⟩ := h
  obtain ⟨u, rfl, r1⟩ := vals1 r
  obtain rfl : u = Value.ref a := r1
  obtain ⟨o, es, ep, t, ho, hex, hd, _, _, _, hf, hsz⟩ := setK_get I ha
  subst hsz
  exact call_len_set ho hex hd hf (by omega) ⟨.int es.size, H, I.tok _, ⟨_, rfl⟩, q⟩
end
theorem tyx_tup {K : PySem.W.Frag} {H : Hp} {a : Addr} {xs : List V} (h : SqT K H a xs) : TyX K H (.ref a) (.type "tuple") := by
  rcases h with (h | ⟨o, h⟩) | ⟨o, its, n, hk, hc, _⟩
  · exact .base (.tup h)
  · exact .fTuple h
  · exact .kTuple hk hc
theorem tyx_lst {K : PySem.W.Frag} {H : Hp} {a : Addr} {xs : List V} (h : SqL K H a xs) : TyX K H (.ref a) (.type "list") := by
  rcases h with (h | ⟨o, h⟩) | ⟨o, its, n, hk, hc, _⟩
  · exact .base (.lst h)
  · exact .base (.frz h)
  · exact .kList hk hc
def laneB (xs : List Str) : Bool := xs.all carB && decide xs.Nodup
theorem scIsLane : FnScope ["value"] ["value"] (defScope sIsLane) := ⟨rfl, rfl, rfl, by decide +kernel, rfl, by decide +kernel, by decide +kernel⟩
section
variable {P : Program} {w : World} {K : PySem.W.Frag} {mg : Str → Option Value} {base : Heap} {Ps : List Addr}
def spLane (K : PySem.W.Frag) (Ps : List Addr) : Sp := fun vs H Q _ => ∃ (a : Addr) (xs : List Str), vs = [.ref a] ∧ SqT K H a (xs.map V.str) ∧ xs.length ≤ 1000 ∧ (∀ x ∈ xs, x.length ≤ sizeLine) ∧ Tabs Ps H ∧ ∀ H', Kp Ps H H' → Q (.bl (laneB xs)) H'
theorem ok_lane {f c P1 fC : Addr} {fd fdC : FuncData} (F : FunC K "is_lane" "is_lane" sIsLane f fd c) (B : Bi mg) (TB : TabB base mg c P1) (hP : P1 ∈ Ps)
    (GC : FnOk P w K mg base CX0 2 fC fdC ["value"] (spCar Ps)) (mgC : mg "is_car" = some (.ref fC)) (kC : PySem.W.keepIn K (.ref fC) = true) (bC : Binds K fdC ["value"] []) : FnOk P w K mg base CX0 4 f fd ["value"] (spLane K Ps) := by
  refine F.ok scIsLane (fun vs H Q E h => ?_) (fun A outer s H vs Q E hr h => ?_)
  · obtain ⟨a, xs, rfl, _⟩ := h
    rfl
  · obtain ⟨a, xs, rfl, hS, hlen, hsz, hT, q⟩ := h
    refine ⟨_, pss_cons (ps_if (PW.pt (pw_or (pt_not (pt_val (pe_callB call_isi (by rfl) B.isi (by decide +kernel) (pa_cons (pv 0) (pa_cons (pe_bltn (by rfl) B.tup (by decide +kernel) (v := .ty "tuple") rfl) pa_nil)))))
        (pw_or1 (pt_not (pt_val (pe_allG (k := 2) hr rfl (by rfl) B.all TB rfl ⟨rfl, rfl, by decide +kernel, by decide +kernel, rfl, rfl⟩ (pi_tup (pv 0))
          (fun _ _ _ _ _ _ _ _ hk => pe_call GC hk rfl mgC kC bC .nil pass0 (pa_cons (pv 0) pa_nil))))))))
        (pss_one (ps_ret pe_bl)) pss_nil)
      (pss_one (ps_ret (pe_cmpR op_eq (pe_callB call_len_setK (by rfl) B.len PySem.boot_len (pa_cons (pe_callTy (cr_setT rfl) (by rfl) B.set (by decide +kernel) (pa_cons (pv 0) pa_nil)) pa_nil))
        (pe_callB call_len_seq (by rfl) B.len PySem.boot_len (pa_cons (pv 0) pa_nil)) (nomark _)))), ?_⟩
    refine ⟨_, rfl, .ref a, .ty "tuple", .type "tuple", .type "tuple", true, rfl, .ty _, tyx_tup hS, kit_ty (by decide +kernel), true, rfl, ?_⟩
    refine iteF ?_
    -- all(is_car(entry) ..)
    refine ⟨.ref a, rfl, a, rfl, ⟨_, hS⟩, hT P1 hP, fun i m H' => m = xs.length - i ∧ Kp Ps H H' ∧ i ≤ xs.length ∧ (xs.take i).all carB = true, fun H2 hH => ⟨xs.length, by omega, Kp.tabbed hT hP hH, Nat.zero_le _, rfl⟩, fun i m H' hW => ?_⟩
    obtain ⟨rfl, kp, hi, hall⟩ := hW
    have hS' := kp.seqT hT hS
    by_cases hlt : i < xs.length
    · have hx : (xs.map V.str)[i]? = some (V.str xs[i]) := by rw [List.getElem?_map, List.getElem?_eq_getElem hlt]; rfl
      refine .inr ⟨⟨_, _, hS', hx⟩, fun v H3 hy => ?_⟩
      obtain ⟨rfl, fv⟩ := hy
      obtain rfl : v = V.str xs[i] := Option.some.inj ((fv _ hS').symm.trans hx)
      refine ⟨_, rfl, xs[i], rfl, hsz _ (List.getElem_mem hlt), kp.tab, fun H4 kp4 => ⟨_, rfl, ?_⟩⟩
      refine ite2 (fun hc => ?_) (fun hc => ?_)
      · refine ⟨_, ?_, rfl, kp.trans kp4, hlt, ?_⟩
        · omega
        · rw [List.take_add_one, List.getElem?_eq_getElem hlt, List.all_append, hall]
          simp [hc]
      · have e : laneB xs = false := by
          unfold laneB
          have : xs.all carB = false := List.all_eq_false.mpr ⟨xs[i], List.getElem_mem hlt, hc⟩
          rw [this, Bool.false_and]
        have := q H4 (kp.trans kp4)
        rw [e] at this
        exact ⟨false, rfl, iteT this⟩
    · refine .inl ⟨⟨_, hS', by rw [List.length_map]; omega⟩, true, rfl, iteF ?_⟩
      have hall' : xs.all carB = true := by
        rw [List.take_of_length_le (by omega)] at hall
        exact hall
      refine ⟨.ref a, rfl, a, xs, rfl, hS', hlen, fun p n hp hn hnd => ?_⟩
      have k2 : Kp Ps H' (upd H' p (SetK P w p (memK (xs.map Sum.inr)) n)) := Kp.new kp.tab hp
      refine ⟨p, _, n, rfl, upd_same, by omega, .ref a, rfl, a, _, rfl, .inr (k2.seqT kp.tab hS'), rfl, ?_⟩
      have e : laneB xs = decide (V.int (n : Nat) = V.int ((xs.map V.str).length : Nat)) := by
        unfold laneB
        rw [hall', Bool.true_and, List.length_map]
        by_cases hh : xs.Nodup
        · rw [decide_eq_true hh, decide_eq_true (by rw [hnd.mpr hh])]
        · rw [decide_eq_false hh, decide_eq_false fun z => hh (hnd.mp (by have := V.int.inj z; omega))]
      have := q _ (kp.trans k2)
      rw [e] at this
      exact this
end
end Ln


set_option Elab.async false
set_option linter.all false
set_option maxRecDepth 100000
set_option maxHeartbeats 2000000
namespace Ln
open PySem PySem.Spec PyProof.Rows L2 GxR
/-- an event -/
inductive Ev where
  | inn (c : Str)
  | out
def Ev.vals : Ev → List V
  | .inn c => [.str "in", .str c]
  | .out => [.str "out"]
/-- a statement that is never reached -/
theorem ps_dead {X : Cx} {st : Stmt} : PS X st (fun _ _ _ => False) := ⟨fun _ _ _ _ _ _ h => h.elim⟩
theorem scHasW : FnScope ["value", "word", "length"] ["value", "word", "length"] (defScope sHasW) := ⟨rfl, rfl, rfl, by decide +kernel, rfl, by decide +kernel, by decide +kernel⟩
theorem scIsArr : FnScope ["value"] ["value"] (defScope sIsArr) := ⟨rfl, rfl, rfl, by decide +kernel, rfl, by decide +kernel, by decide +kernel⟩
theorem scIsDep : FnScope ["value"] ["value"] (defScope sIsDep) := ⟨rfl, rfl, rfl, by decide +kernel, rfl, by decide +kernel, by decide +kernel⟩
theorem scReqLane : FnScope ["value"] ["value"] (defScope sReqLane) := ⟨rfl, rfl, rfl, by decide +kernel, rfl, by decide +kernel, by decide +kernel⟩
section
variable {P : Program} {w : World} {K : PySem.W.Frag} {mg : Str → Option Value} {base : Heap} {Ps : List Addr}
def spHasW (K : PySem.W.Frag) : Sp := fun vs H Q _ => ∃ (a : Addr) (y wd : Str) (ys : List V) (n : Int), vs = [.ref a, .str wd, .int n] ∧ SqT K H a (.str y :: ys) ∧ Q (.bl (decide (((ys.length + 1 : Nat) : Int) = n) && decide (y = wd))) H
theorem ok_hasW {f : Addr} {fd : FuncData} (F : Fun K "has_word" "has_word" sHasW f fd) (B : Bi mg) : FnOk P w K mg base CX0 1 f fd ["value", "word", "length"] (spHasW K) := by
  refine F.ok scHasW (fun vs H Q E h => ?_) (fun cdv A outer s H vs Q E hr h => ?_)
  · obtain ⟨a, y, wd, ys, n, rfl, _⟩ := h
    rfl
  · obtain ⟨a, y, wd, ys, n, rfl, hS, q⟩ := h
    refine ⟨_, pss_one (ps_ret (pe_and (pe_callB call_isi (by rfl) B.isi (by decide +kernel) (pa_cons (pv 0) (pa_cons (pe_bltn (by rfl) B.tup (by decide +kernel) (v := .ty "tuple") rfl) pa_nil)))
      (pe_and (pe_cmpR op_eq (pe_callB call_len_seq (by rfl) B.len PySem.boot_len (pa_cons (pv 0) pa_nil)) (pv 2) (nomark _))
      (pe_and (pe_callB call_isi (by rfl) B.isi (by decide +kernel) (pa_cons (pe_ix ix_tup (pv 0) pe_int (fun _ _ => rfl)) (pa_cons (pe_bltn (by rfl) B.str (by decide +kernel) (v := .ty "str") rfl) pa_nil)))
      (pe_one (pe_cmpR op_eq (pe_ix ix_tup (pv 0) pe_int (fun _ _ => rfl)) (pv 1) (nomark _))))))), ?_⟩
    refine ⟨.ref a, rfl, .ref a, .ty "tuple", .type "tuple", .type "tuple", true, rfl, .ty _, tyx_tup hS, kit_ty (by decide +kernel), true, rfl, iteT ?_⟩
    refine ⟨.ref a, rfl, a, _, rfl, .inr hS, .int n, rfl, rfl, _, rfl, ?_⟩
    have e1 : decide (V.int (((.str y :: ys : List V).length : Nat) : Int) = V.int n) = decide (((ys.length + 1 : Nat) : Int) = n) := by
      by_cases h : ((ys.length + 1 : Nat) : Int) = n
      · rw [decide_eq_true h]
        exact decide_eq_true (by rw [← h]; rfl)
      · rw [decide_eq_false h]
        exact decide_eq_false fun z => h (V.int.inj z)
    rw [e1]
    refine ite2 (fun hn => ?_) (fun hn => ?_)
    · refine ⟨.ref a, rfl, a, _, 0, .str y, rfl, rfl, hS, atI_nat (j := 0) rfl, .str y, .ty "str", .type "str", .type "str", true, rfl, .ty _, .base (.str y), kit_ty (by decide +kernel), true, rfl, iteT ?_⟩
      refine ⟨.ref a, rfl, a, _, 0, .str y, rfl, rfl, hS, atI_nat (j := 0) rfl, .str wd, rfl, rfl, ?_⟩
      have e2 : decide (V.str y = V.str wd) = decide (y = wd) := by
        by_cases h : y = wd
        · rw [decide_eq_true h, decide_eq_true (by rw [h])]
        · rw [decide_eq_false h, decide_eq_false fun z => h (V.str.inj z)]
      rw [e2]
      rw [hn, Bool.true_and] at q
      exact q
    · have hn' : decide (((ys.length + 1 : Nat) : Int) = n) = false := by simpa using hn
      rw [hn', Bool.false_and] at q
      exact q
def spEv (K : PySem.W.Frag) (Ps : List Addr) (g : Ev → Bool) : Sp := fun vs H Q _ => ∃ (a : Addr) (e : Ev), vs = [.ref a] ∧ SqT K H a e.vals ∧ (∀ c, e = .inn c → c.length ≤ sizeLine) ∧ Tabs Ps H ∧ ∀ H', Kp Ps H H' → Q (.bl (g e)) H'
def arrB : Ev → Bool
  | .inn c => carB c
  | .out => false
def depB : Ev → Bool
  | .inn _ => false
  | .out => true
theorem ne_io : ¬ (("in" : Str) = "out") := by decide +kernel
theorem ne_oi : ¬ (("out" : Str) = "in") := by decide +kernel
theorem ok_arr {f fH fC : Addr} {fd fdH fdC : FuncData} (F : Fun K "is_arrival" "is_arrival" sIsArr f fd)
    (GH : FnOk P w K mg base CX0 1 fH fdH ["value", "word", "length"] (spHasW K)) (mgH : mg "has_word" = some (.ref fH)) (kH : PySem.W.keepIn K (.ref fH) = true) (bH : Binds K fdH ["value", "word", "length"] [])
    (GC : FnOk P w K mg base CX0 2 fC fdC ["value"] (spCar Ps)) (mgC : mg "is_car" = some (.ref fC)) (kC : PySem.W.keepIn K (.ref fC) = true) (bC : Binds K fdC ["value"] []) : FnOk P w K mg base CX0 3 f fd ["value"] (spEv K Ps arrB) := by
  refine F.ok scIsArr (fun vs H Q E h => ?_) (fun cdv A outer s H vs Q E hr h => ?_)
  · obtain ⟨a, e, rfl, _⟩ := h
    rfl
  · obtain ⟨a, e, rfl, hS, hsz, hT, q⟩ := h
    refine ⟨_, pss_one (ps_ret (pe_and (pe_call GH (hr.mono (by decide)) (by rfl) mgH kH bH .nil pass0 (pa_cons (pv 0) (pa_cons pe_str (pa_cons pe_int pa_nil))))
      (pe_one (pe_call GC hr (by rfl) mgC kC bC .nil pass0 (pa_cons (pe_ix ix_tup (pv 0) pe_int (fun _ _ => rfl)) pa_nil))))), ?_⟩
    cases e with
    | inn c =>
      refine ⟨.ref a, rfl, a, "in", "in", [.str c], 2, rfl, hS, _, rfl, ?_⟩
      rw [decide_eq_true (show ((([V.str c] : List V).length + 1 : Nat) : Int) = 2 from rfl), decide_eq_true (rfl : ("in" : Str) = "in")]
      refine iteT ⟨.ref a, rfl, a, _, 1, .str c, rfl, rfl, hS, atI_nat (j := 1) rfl, c, rfl, hsz c rfl, hT, fun H' kp => q H' kp⟩
    | out =>
      refine ⟨.ref a, rfl, a, "out", "in", [], 2, rfl, hS, _, rfl, ?_⟩
      rw [decide_eq_false ne_oi, Bool.and_false]
      exact iteF (q H (Kp.refl hT))
theorem ok_dep {f fH : Addr} {fd fdH : FuncData} (F : Fun K "is_departure" "is_departure" sIsDep f fd)
    (GH : FnOk P w K mg base CX0 1 fH fdH ["value", "word", "length"] (spHasW K)) (mgH : mg "has_word" = some (.ref fH)) (kH : PySem.W.keepIn K (.ref fH) = true) (bH : Binds K fdH ["value", "word", "length"] []) : FnOk P w K mg base CX0 2 f fd ["value"] (spEv K Ps depB) := by
  refine F.ok scIsDep (fun vs H Q E h => ?_) (fun cdv A outer s H vs Q E hr h => ?_)
  · obtain ⟨a, e, rfl, _⟩ := h
    rfl
  · obtain ⟨a, e, rfl, hS, hsz, hT, q⟩ := h
    refine ⟨_, pss_one (ps_ret (pe_call GH hr (by rfl) mgH kH bH .nil pass0 (pa_cons (pv 0) (pa_cons pe_str (pa_cons pe_int pa_nil))))), ?_⟩
    cases e with
    | inn c =>
      refine ⟨.ref a, rfl, a, "in", "out", [.str c], 1, rfl, hS, ?_⟩
      rw [decide_eq_false ne_io, Bool.and_false]
      exact q H (Kp.refl hT)
    | out =>
      refine ⟨.ref a, rfl, a, "out", "out", [], 1, rfl, hS, ?_⟩
      rw [decide_eq_true (rfl : ("out" : Str) = "out")]
      exact q H (Kp.refl hT)
/-- nothing is handed back, what stood stands -/
def spReqLane (K : PySem.W.Frag) (Ps : List Addr) : Sp := fun vs H Q _ => ∃ (a : Addr) (xs : List Str), vs = [.ref a] ∧ SqT K H a (xs.map V.str) ∧ xs.length ≤ 1000 ∧ (∀ x ∈ xs, x.length ≤ sizeLine) ∧ laneB xs = true ∧ Tabs Ps H ∧ ∀ H', Kp Ps H H' → Q .non H'
theorem ok_reqLane {f fL : Addr} {fd fdL : FuncData} (F : Fun K "require_lane" "require_lane" sReqLane f fd)
    (GL : FnOk P w K mg base CX0 4 fL fdL ["value"] (spLane K Ps)) (mgL : mg "is_lane" = some (.ref fL)) (kL : PySem.W.keepIn K (.ref fL) = true) (bL : Binds K fdL ["value"] []) : FnOk P w K mg base CX0 5 f fd ["value"] (spReqLane K Ps) := by
  refine F.ok scReqLane (fun vs H Q E h => ?_) (fun cdv A outer s H vs Q E hr h => ?_)
  · obtain ⟨a, xs, rfl, _⟩ := h
    rfl
  · obtain ⟨a, xs, rfl, hS, hlen, hsz, hB, hT, q⟩ := h
    refine ⟨_, pss_one (ps_if (pt_not (pt_val (pe_call GL hr (by rfl) mgL kL bL .nil pass0 (pa_cons (pv 0) pa_nil)))) (pss_one ps_dead) pss_nil), ?_⟩
    refine ⟨.ref a, rfl, a, xs, rfl, hS, hlen, hsz, hT, fun H' kp => ⟨_, rfl, ?_⟩⟩
    rw [hB]
    exact iteF (q H' kp)
end
end Ln


set_option Elab.async false
set_option linter.all false
set_option maxRecDepth 100000
set_option maxHeartbeats 2000000
namespace Ln
open PySem PySem.Spec PyProof.Rows L2 GxR
theorem pair_at {α β : Type} {F : α → β → Prop} : ∀ {as : List α} {bs : List β}, Paired F as bs → ∀ (i : Nat) (b : β), bs[i]? = some b → ∃ a, as[i]? = some a ∧ F a b
  | _, _, .nil, i, b, h => by simp at h
  | _, _, .cons r t, 0, b, h => by
    have e := Option.some.inj h
    exact ⟨_, rfl, e ▸ r⟩
  | _, _, .cons r t, i + 1, b, h => by
    obtain ⟨a, e, q⟩ := pair_at t i b (by simpa using h)
    exact ⟨a, by simpa using e, q⟩
theorem Paired.imp {α β : Type} {F G : α → β → Prop} {as : List α} {bs : List β} (h : Paired F as bs) (f : ∀ a b, F a b → G a b) : Paired G as bs := Paired.mapP h f
/-- may the log es be, the cars used, n present -/
def logB : List Str → Nat → List Ev → Bool
  | _, _, [] => true
  | u, n, .inn c :: r => if carB c = true ∧ ¬ c ∈ u then logB (c :: u) (n + 1) r else false
  | u, n, .out :: r => if 0 < n then logB u (n - 1) r else false
theorem Kp.upd {Ps : List Addr} {H H1 : Hp} {u : Addr} {o : HO} (k : Kp Ps H H1) (hT : Tabs Ps H) (hu : H u = none) : Kp Ps H (upd H1 u o) := by
  have nu := tab_free hT hu
  exact ⟨fun b q e n => by rw [upd_ne (ne_of_none e hu)]; exact k.at_ b q e n, fun q hq => by
    obtain ⟨ps, e, r⟩ := k.tab q hq
    exact ⟨ps, by rw [upd_ne (fun z : q = u => nu (by rw [← z]; exact hq))]; exact e, r⟩⟩
/-- a log's events, each a tuple -/
def EvsAt (K : PySem.W.Frag) (H : Hp) (as : List Addr) (es : List Ev) : Prop := Paired (fun a (e : Ev) => SqT K H a e.vals) as es
theorem EvsAt.kp {K : PySem.W.Frag} {Ps : List Addr} {H H1 : Hp} {as : List Addr} {es : List Ev} (h : EvsAt K H as es) (k : Kp Ps H H1) (hT : Tabs Ps H) : EvsAt K H1 as es := Paired.imp h fun _ _ q => k.seqT hT q
theorem scIsLog : FnScope ["start", "value", "used", "present", "event"] ["start", "value"] (defScope sIsLog) := ⟨rfl, rfl, rfl, by decide +kernel, rfl, by decide +kernel, by decide +kernel⟩
/-- a lane and a log of modest size -/
structure LaneAt (K : PySem.W.Frag) (H : Hp) (a : Addr) (xs : List Str) : Prop where
  at_ : SqT K H a (xs.map V.str)
  few : xs.length ≤ 400
  sz : ∀ x ∈ xs, x.length ≤ sizeLine
structure LogAt (K : PySem.W.Frag) (H : Hp) (l : Addr) (as : List Addr) (es : List Ev) : Prop where
  at_ : SqL K H l (as.map V.ref)
  evs : EvsAt K H as es
  few : es.length ≤ 400
  sz : ∀ c, Ev.inn c ∈ es → c.length ≤ sizeLine
theorem LaneAt.kp {K : PySem.W.Frag} {Ps : List Addr} {H H1 : Hp} {a : Addr} {xs : List Str} (h : LaneAt K H a xs) (k : Kp Ps H H1) (hT : Tabs Ps H) : LaneAt K H1 a xs := ⟨k.seqT hT h.at_, h.few, h.sz⟩
theorem LogAt.kp {K : PySem.W.Frag} {Ps : List Addr} {H H1 : Hp} {l : Addr} {as : List Addr} {es : List Ev} (h : LogAt K H l as es) (k : Kp Ps H H1) (hT : Tabs Ps H) : LogAt K H1 l as es := ⟨k.seqL hT h.at_, h.evs.kp k hT, h.few, h.sz⟩
section
variable {P : Program} {w : World} {K : PySem.W.Frag} {mg : Str → Option Value} {base : Heap} {Ps : List Addr}
def spLog (K : PySem.W.Frag) (Ps : List Addr) : Sp := fun vs H Q _ => ∃ (a l : Addr) (xs : List Str) (as : List Addr) (es : List Ev), vs = [.ref a, .ref l] ∧ LaneAt K H a xs ∧ laneB xs = true ∧ LogAt K H l as es ∧ Tabs Ps H ∧ ∀ H', Kp Ps H H' → Q (.bl (logB xs xs.length es)) H'
theorem ok_log {f fR fA fD : Addr} {fd fdR fdA fdD : FuncData} (F : Fun K "is_log" "is_log" sIsLog f fd) (B : Bi mg)
    (GR : FnOk P w K mg base CX0 5 fR fdR ["value"] (spReqLane K Ps)) (mgR : mg "require_lane" = some (.ref fR)) (kR : PySem.W.keepIn K (.ref fR) = true) (bR : Binds K fdR ["value"] [])
    (GA : FnOk P w K mg base CX0 3 fA fdA ["value"] (spEv K Ps arrB)) (mgA : mg "is_arrival" = some (.ref fA)) (kA : PySem.W.keepIn K (.ref fA) = true) (bA : Binds K fdA ["value"] [])
    (GD : FnOk P w K mg base CX0 2 fD fdD ["value"] (spEv K Ps depB)) (mgD : mg "is_departure" = some (.ref fD)) (kD : PySem.W.keepIn K (.ref fD) = true) (bD : Binds K fdD ["value"] []) :
    FnOk P w K mg base CX0 6 f fd ["start", "value"] (spLog K Ps) := by
  refine F.ok scIsLog (fun vs H Q E h => ?_) (fun cdv A outer s H vs Q E hr h => ?_)
  · obtain ⟨a, l, xs, as, es, rfl, _⟩ := h
    rfl
  · obtain ⟨a, l, xs, as, es, rfl, hL, hB, hE, hT, q⟩ := h
    refine ⟨_, pss_cons (ps_expr (pe_call GR hr (by rfl) mgR kR bR .nil pass0 (pa_cons (pv 0) pa_nil)))
      (pss_cons (ps_if (pt_not (pt_val (pe_callB call_isi (by rfl) B.isi (by decide +kernel) (pa_cons (pv 1) (pa_cons (pe_bltn (by rfl) B.lst (by decide +kernel) (v := .ty "list") rfl) pa_nil))))) (pss_one (ps_ret pe_bl)) pss_nil)
      (pss_cons (ps_set (i := 2) scIsLog.nd rfl (.inl rfl) (pe_callTy (cr_setT rfl) (by rfl) B.set (by decide +kernel) (pa_cons (pv 0) pa_nil)))
      (pss_cons (ps_set (i := 3) scIsLog.nd rfl (.inl rfl) (pe_callB call_len_seq (by rfl) B.len PySem.boot_len (pa_cons (pv 0) pa_nil)))
      (pss_cons (ps_for PassesOwn.never rfl (pi_list (pv 1)) (pg_name (i := 4) scIsLog.nd rfl (.inl rfl))
        (pss_one (ps_if (PW.pt (pw_and (pt_val (pe_call GA (hr.mono (by decide)) (by rfl) mgA kA bA .nil pass0 (pa_cons (pv 4) pa_nil))) (pw_and1 (pt_cmpR or_snotinK (pe_ix ix_tup (pv 4) pe_int (fun _ _ => rfl)) (pv 2) (by rfl)))))
          (pss_cons (ps_expr (pe_saddK (pv 2) (pa_cons (pe_ix ix_tup (pv 4) pe_int (fun _ _ => rfl)) pa_nil))) (pss_one (ps_aug (i := 3) scIsLog.nd rfl (.inl rfl) pe_int ip_add)))
          (pss_one (ps_if (PW.pt (pw_and (pt_val (pe_call GD (hr.mono (by decide)) (by rfl) mgD kD bD .nil pass0 (pa_cons (pv 4) pa_nil))) (pw_and1 (pt_cmpR op_gt (pv 3) pe_int (nomark _)))))
            (pss_one (ps_aug (i := 3) scIsLog.nd rfl (.inl rfl) pe_int ip_sub))
            (pss_one (ps_ret pe_bl)))))))
      (pss_one (ps_ret pe_bl)))))), ?_⟩
    -- require_lane(start)
    refine ⟨.ref a, rfl, a, xs, rfl, hL.at_, by have := hL.few; omega, hL.sz, hB, hT, fun H1 k1 => ?_⟩
    have hL1 := hL.kp k1 hT
    have hE1 := hE.kp k1 hT
    refine ⟨.ref l, rfl, .ref l, .ty "list", .type "list", .type "list", true, rfl, .ty _, tyx_lst hE1.at_, kit_ty (by decide +kernel), true, rfl, iteF ?_⟩
    -- used = set(start); present = len(start)
    refine ⟨.ref a, rfl, a, xs, rfl, hL1.at_, by have := hL.few; omega, fun u n hu hn _ => ?_⟩
    have hu0 : H u = none := k1.free hT hu
    have k2 : Kp Ps H (upd H1 u (SetK P w u (memK (xs.map Sum.inr)) n)) := k1.upd hT hu0
    have hL2 := hL.kp k2 hT
    refine ⟨.ref a, rfl, a, _, rfl, .inr hL2.at_, ?_⟩
    have hE2 := hE.kp k2 hT
    refine ⟨.ref l, rfl, l, rfl, ⟨_, hE2.at_⟩, for_list (K := K) (a := l) (xs := as.map V.ref) (fun i σ H' => ∃ (v4 : Option V) (m : Nat) (S : Key → Bool) (us : List Str) (c : Nat), σ = [some (.ref a), some (.ref l), some (.ref u), some (.int (m : Nat)), v4] ∧ Kp Ps H H' ∧
        H' u = some (SetK P w u S c) ∧ c ≤ xs.length + i ∧ (∀ x : Str, S (.inr x) = true ↔ x ∈ us) ∧ i ≤ es.length ∧ logB xs xs.length es = logB us m (es.drop i)) ?_ ?_ ?_ ?_⟩
    · refine ⟨none, xs.length, _, xs, n, ?_, k2, upd_same, by omega, fun x => ?_, Nat.zero_le _, rfl⟩
      · rw [List.length_map]
        rfl
      · rw [memK_iff, List.mem_map]
        constructor
        · intro ⟨y, hy, e⟩
          rw [← Sum.inr.inj e]
          exact hy
        · intro h
          exact ⟨x, h, rfl⟩
    · rintro i σ H' _ ⟨_, _, _, _, _, _, kp, _⟩
      exact (hE.kp kp hT).at_
    · rintro i y σ H' hi ⟨v4, m, S, us, c, rfl, kp, hSet, hc, hS, hie, hlog⟩
      have hlen := Paired.length hE.evs
      have hlt : i < es.length := by
        have h1 := (List.getElem?_eq_some_iff.mp hi).1
        rw [List.length_map] at h1
        omega
      obtain ⟨ev, hev⟩ : ∃ ev, es[i]? = some ev := ⟨es[i], List.getElem?_eq_getElem hlt⟩
      obtain ⟨b, hb, hbt⟩ := pair_at (hE.kp kp hT).evs i ev hev
      have hy : y = .ref b := by
        rw [List.getElem?_map, hb] at hi
        exact (Option.some.inj hi).symm
      subst hy
      have hdrop : es.drop i = ev :: es.drop (i + 1) := by
        rw [List.drop_eq_getElem_cons hlt]
        rw [List.getElem?_eq_getElem hlt] at hev
        rw [Option.some.inj hev]
      rw [hdrop] at hlog
      have hsz : ∀ c', ev = .inn c' → c'.length ≤ sizeLine := fun c' e => hE.sz c' (e ▸ List.mem_of_getElem? hev)
      have few1 := hL.few
      have few2 := hE.few
      -- is_arrival(event)
      refine ⟨.ref b, rfl, b, ev, rfl, hbt, hsz, kp.tab, fun H3 k3 => ⟨_, rfl, ?_⟩⟩
      have kp3 := kp.trans k3
      have hSet3 := k3.ext kp.tab hSet
      have hbt3 := k3.seqT kp.tab hbt
      -- elif is_departure(event) and present > 0
      have dep : ∀ H4, Kp Ps H3 H4 → (depB ev && decide (0 < m)) = false → logB us m (ev :: es.drop (i + 1)) = false → Q (.bl false) H4 := fun H4 k4 _ hf => by
        have := q H4 (kp3.trans k4)
        rw [hlog, hf] at this
        exact this
      cases ev with
      | out =>
        refine iteF (iteF ?_)
        refine ⟨.ref b, rfl, b, .out, rfl, hbt3, fun _ e => (by cases e), kp3.tab, fun H4 k4 => ⟨_, rfl, iteT ?_⟩⟩
        refine ⟨_, rfl, _, _, rfl, rfl, _, rfl, ite2 (fun hm => ?_) (fun hm => ?_)⟩
        · have hm : (0 : Int) < (m : Nat) := of_decide_eq_true hm
          refine ⟨_, rfl, _, _, rfl, rfl, some (.ref b), m - 1, S, us, c, ?_, kp3.trans k4, k4.ext kp3.tab hSet3, by omega, hS, hlt, ?_⟩
          · show [some (V.ref a), some (V.ref l), some (V.ref u), some (V.int ((m : Nat) - 1)), some (V.ref b)] = _
            rw [show ((m : Nat) : Int) - 1 = ((m - 1 : Nat) : Int) by omega]
          · rw [hlog]
            show (if 0 < m then _ else _) = _
            rw [if_pos (by omega)]
        · have hm : ¬ 0 < m := fun z => hm (decide_eq_true (by omega))
          exact dep H4 k4 (by simp [hm]) (by show (if 0 < m then _ else _) = _; rw [if_neg hm])
      | inn x =>
        refine ite2 (fun hx => ?_) (fun hx => ?_)
        · have hx : carB x = true := hx
          refine ⟨.ref b, rfl, b, _, 1, .str x, rfl, rfl, hbt3, atI_nat (j := 1) rfl, .ref u, rfl, .inr x, u, S, c, rfl, rfl, hSet3, _, rfl, ?_⟩
          show if (!S (.inr x)) = true then _ else _
          cases hin : S (.inr x) with
          | false =>
            have hxu : ¬ x ∈ us := fun z => by
              rw [(hS x).mpr z] at hin
              cases hin
            refine iteT ⟨.ref u, rfl, ⟨u, S, c, rfl, hSet3⟩, .ref b, rfl, b, _, 1, .str x, rfl, rfl, hbt3, atI_nat (j := 1) rfl, u, .inr x, S, c, rfl, rfl, hSet3, by unfold scanBound; omega, ?_⟩
            refine ⟨_, rfl, _, _, rfl, rfl, some (.ref b), m + 1, _, x :: us, _, rfl, kp3.upd hT hu0, upd_same, ?_, fun z => ?_, hlt, ?_⟩
            · rw [hin, if_neg Bool.false_ne_true]
              omega
            · show (S (.inr z) || decide ((Sum.inr z : Key) = Sum.inr x)) = true ↔ _
              rw [Bool.or_eq_true, hS z, decide_eq_true_iff, List.mem_cons]
              constructor
              · rintro (h | h)
                · exact .inr h
                · exact .inl (Sum.inr.inj h)
              · rintro (h | h)
                · exact .inr (by rw [h])
                · exact .inl h
            · rw [hlog]
              show (if carB x = true ∧ ¬ x ∈ us then _ else _) = _
              rw [if_pos ⟨hx, hxu⟩]
          | true =>
            have hxu : x ∈ us := (hS x).mp hin
            refine iteF ?_
            refine ⟨.ref b, rfl, b, .inn x, rfl, hbt3, hsz, kp3.tab, fun H4 k4 => ⟨_, rfl, iteF (iteF ?_)⟩⟩
            exact dep H4 k4 rfl (by show (if carB x = true ∧ ¬ x ∈ us then _ else _) = _; rw [if_neg fun z => z.2 hxu])
        · have hx : ¬ carB x = true := hx
          refine iteF ?_
          refine ⟨.ref b, rfl, b, .inn x, rfl, hbt3, hsz, kp3.tab, fun H4 k4 => ⟨_, rfl, iteF (iteF ?_)⟩⟩
          exact dep H4 k4 rfl (by show (if carB x = true ∧ ¬ x ∈ us then _ else _) = _; rw [if_neg fun z => hx z.1])
    · rintro σ H' ⟨v4, m, S, us, c, rfl, kp, hSet, hc, hS, hie, hlog⟩
      have := q H' kp
      rw [hlog, List.length_map, Paired.length hE.evs, List.drop_length] at this
      exact this
end
end Ln


set_option Elab.async false
set_option linter.all false
set_option maxRecDepth 100000
set_option maxHeartbeats 2000000
namespace Ln
open PySem PySem.Spec PyProof.Rows L2 GxR
theorem scReqLog : FnScope ["start", "log"] ["start", "log"] (defScope sReqLog) := ⟨rfl, rfl, rfl, by decide +kernel, rfl, by decide +kernel, by decide +kernel⟩
theorem scIsSide : FnScope ["value"] ["value"] (defScope sIsSide) := ⟨rfl, rfl, rfl, by decide +kernel, rfl, by decide +kernel, by decide +kernel⟩
theorem scReqSides : FnScope ["log", "sides"] ["log", "sides"] (defScope sReqSides) := ⟨rfl, rfl, rfl, by decide +kernel, rfl, by decide +kernel, by decide +kernel⟩
theorem scSizes : FnScope ["start", "log", "counts", "event", "change"] ["start", "log"] (defScope sSizes) := ⟨rfl, rfl, rfl, by decide +kernel, rfl, by decide +kernel, by decide +kernel⟩
def szs : Int → List Ev → List Int
  | n, [] => [n]
  | n, .inn _ :: r => n :: szs (n + 1) r
  | n, .out :: r => n :: szs (n - 1) r
def Ev.dn : Ev → Int
  | .inn _ => 1
  | .out => -1
theorem szs_head (n : Int) (es : List Ev) : (szs n es)[0]? = some n := by
  cases es with
  | nil => rfl
  | cons e r => cases e <;> rfl
theorem szs_len : ∀ (n : Int) (es : List Ev), (szs n es).length = es.length + 1
  | _, [] => rfl
  | n, .inn _ :: r => by show (szs (n + 1) r).length + 1 = _; rw [szs_len]; rfl
  | n, .out :: r => by show (szs (n - 1) r).length + 1 = _; rw [szs_len]; rfl
theorem szs_step : ∀ (n : Int) (es : List Ev) (i : Nat) (e : Ev) (k : Int), es[i]? = some e → (szs n es)[i]? = some k → (szs n es)[i + 1]? = some (k + e.dn)
  | n, [], i, e, k, h, _ => by simp at h
  | n, .inn c :: r, 0, e, k, h, h2 => by
    have e1 := Option.some.inj h
    have e2 := Option.some.inj h2
    subst e1 e2
    show (szs (n + 1) r)[0]? = _
    rw [szs_head]
    rfl
  | n, .out :: r, 0, e, k, h, h2 => by
    have e1 := Option.some.inj h
    have e2 := Option.some.inj h2
    subst e1 e2
    show (szs (n - 1) r)[0]? = _
    rw [szs_head]
    rfl
  | n, .inn c :: r, i + 1, e, k, h, h2 => szs_step (n + 1) r i e k (by simpa using h) h2
  | n, .out :: r, i + 1, e, k, h, h2 => szs_step (n - 1) r i e k (by simpa using h) h2
def sideB (x : Str) : Bool := decide (x = "L") || decide (x = "R")
section
variable {P : Program} {w : World} {K : PySem.W.Frag} {mg : Str → Option Value} {base : Heap} {Ps : List Addr}
def spReqLog (K : PySem.W.Frag) (Ps : List Addr) : Sp := fun vs H Q _ => ∃ (a l : Addr) (xs : List Str) (as : List Addr) (es : List Ev), vs = [.ref a, .ref l] ∧ LaneAt K H a xs ∧ laneB xs = true ∧ LogAt K H l as es ∧ logB xs xs.length es = true ∧ Tabs Ps H ∧ ∀ H', Kp Ps H H' → Q .non H'
theorem ok_reqLog {f fL : Addr} {fd fdL : FuncData} (F : Fun K "require_log" "require_log" sReqLog f fd)
    (GL : FnOk P w K mg base CX0 6 fL fdL ["start", "value"] (spLog K Ps)) (mgL : mg "is_log" = some (.ref fL)) (kL : PySem.W.keepIn K (.ref fL) = true) (bL : Binds K fdL ["start", "value"] []) : FnOk P w K mg base CX0 7 f fd ["start", "log"] (spReqLog K Ps) := by
  refine F.ok scReqLog (fun vs H Q E h => ?_) (fun cdv A outer s H vs Q E hr h => ?_)
  · obtain ⟨a, l, xs, as, es, rfl, _⟩ := h
    rfl
  · obtain ⟨a, l, xs, as, es, rfl, hL, hB, hE, hB2, hT, q⟩ := h
    refine ⟨_, pss_one (ps_if (pt_not (pt_val (pe_call GL hr (by rfl) mgL kL bL .nil pass0 (pa_cons (pv 0) (pa_cons (pv 1) pa_nil))))) (pss_one ps_dead) pss_nil), ?_⟩
    refine ⟨.ref a, rfl, .ref l, rfl, a, l, xs, as, es, rfl, hL, hB, hE, hT, fun H' kp => ⟨_, rfl, ?_⟩⟩
    rw [hB2]
    exact iteF (q H' kp)
def spSide (Ps : List Addr) : Sp := fun vs H Q _ => ∃ x : Str, vs = [.str x] ∧ Tabs Ps H ∧ ∀ H', Kp Ps H H' → Q (.bl (sideB x)) H'
theorem ok_side {f : Addr} {fd : FuncData} (F : Fun K "is_side" "is_side" sIsSide f fd) (B : Bi mg) : FnOk P w K mg base CX0 1 f fd ["value"] (spSide Ps) := by
  refine F.ok scIsSide (fun vs H Q E h => ?_) (fun cdv A outer s H vs Q E hr h => ?_)
  · obtain ⟨x, rfl, _⟩ := h
    rfl
  · obtain ⟨x, rfl, hT, q⟩ := h
    refine ⟨_, pss_one (ps_ret (pe_and (pe_callB call_isi (by rfl) B.isi (by decide +kernel) (pa_cons (pv 0) (pa_cons (pe_bltn (by rfl) B.str (by decide +kernel) (v := .ty "str") rfl) pa_nil)))
      (pe_one (pe_cmpR op_in_seq (pv 0) (pe_tup (pa_cons pe_str (pa_cons pe_str pa_nil))) (by rfl))))), ?_⟩
    refine ⟨_, rfl, .str x, .ty "str", .type "str", .type "str", true, rfl, .ty _, .base (.str x), kit_ty (by decide +kernel), true, rfl, iteT ?_⟩
    refine ⟨_, rfl, by show 2 ≤ sizeLine; decide, fun p hp => ⟨p, _, rfl, .inr (SqT.of upd_same), rfl, rfl, ?_⟩⟩
    have e : inV (.str x) [.str "L", .str "R"] = sideB x := by
      unfold inV sideB
      show (decide ("L" = x) || (decide ("R" = x) || false)) = _
      rw [Bool.or_false]
      congr 1
      · exact decide_eq_decide.mpr ⟨fun h => h.symm, fun h => h.symm⟩
      · exact decide_eq_decide.mpr ⟨fun h => h.symm, fun h => h.symm⟩
    show Q (.bl (inV (.str x) [.str "L", .str "R"])) _
    rw [e]
    exact q _ (Kp.new hT hp)
end
end Ln


set_option Elab.async false
set_option linter.all false
set_option maxRecDepth 100000
set_option maxHeartbeats 2000000
namespace Ln
open PySem PySem.Spec PyProof.Rows L2 GxR
section
variable {P : Program} {w : World} {K : PySem.W.Frag} {mg : Str → Option Value} {base : Heap} {Ps : List Addr}
def spReqSides (K : PySem.W.Frag) (Ps : List Addr) : Sp := fun vs H Q _ => ∃ (l m : Addr) (as : List V) (sd : List Str), vs = [.ref l, .ref m] ∧ SqL K H l as ∧ SqL K H m (sd.map V.str) ∧ sd.length = as.length ∧ sd.all sideB = true ∧ Tabs Ps H ∧ ∀ H', Kp Ps H H' → Q .non H'
theorem ok_reqSides {f c P1 fS : Addr} {fd fdS : FuncData} (F : FunC K "require_sides" "require_sides" sReqSides f fd c) (B : Bi mg) (TB : TabB base mg c P1) (hP : P1 ∈ Ps)
    (GS : FnOk P w K mg base CX0 1 fS fdS ["value"] (spSide Ps)) (mgS : mg "is_side" = some (.ref fS)) (kS : PySem.W.keepIn K (.ref fS) = true) (bS : Binds K fdS ["value"] []) : FnOk P w K mg base CX0 3 f fd ["log", "sides"] (spReqSides K Ps) := by
  refine F.ok scReqSides (fun vs H Q E h => ?_) (fun A outer s H vs Q E hr h => ?_)
  · obtain ⟨l, m, as, sd, rfl, _⟩ := h
    rfl
  · obtain ⟨l, m, as, sd, rfl, hL, hS, hlen, hall, hT, q⟩ := h
    refine ⟨_, pss_cons (ps_if (PW.pt (pw_or (pt_not (pt_val (pe_callB call_isi (by rfl) B.isi (by decide +kernel) (pa_cons (pv 1) (pa_cons (pe_bltn (by rfl) B.lst (by decide +kernel) (v := .ty "list") rfl) pa_nil)))))
        (pw_or1 (pt_cmpR op_ne (pe_callB call_len_seq (by rfl) B.len PySem.boot_len (pa_cons (pv 1) pa_nil)) (pe_callB call_len_seq (by rfl) B.len PySem.boot_len (pa_cons (pv 0) pa_nil)) (nomark _)))))
        (pss_one ps_dead) pss_nil)
      (pss_one (ps_if (pt_not (pt_val (pe_allG (k := 1) hr rfl (by rfl) B.all TB rfl ⟨rfl, rfl, by decide +kernel, by decide +kernel, rfl, rfl⟩ (pi_list (pv 1))
          (fun _ _ _ _ _ _ _ _ hk => pe_call GS hk rfl mgS kS bS .nil pass0 (pa_cons (pv 0) pa_nil)))))
        (pss_one ps_dead) pss_nil)), ?_⟩
    refine ⟨_, rfl, .ref m, .ty "list", .type "list", .type "list", true, rfl, .ty _, tyx_lst hS, kit_ty (by decide +kernel), true, rfl, iteF ?_⟩
    refine ⟨.ref m, rfl, m, _, rfl, .inl hS, .ref l, rfl, l, _, rfl, .inl hL, rfl, _, rfl, ?_⟩
    have e0 : (!decide (V.int (((sd.map V.str).length : Nat) : Int) = V.int ((as.length : Nat) : Int))) = false := by
      rw [List.length_map, hlen, decide_eq_true rfl]
      rfl
    rw [e0]
    refine iteF ?_
    refine ⟨.ref m, rfl, m, rfl, ⟨_, hS⟩, hT P1 hP, fun i n H' => n = sd.length - i ∧ Kp Ps H H' ∧ i ≤ sd.length, fun H2 hH => ⟨sd.length, by omega, Kp.tabbed hT hP hH, Nat.zero_le _⟩, fun i n H' hW => ?_⟩
    obtain ⟨rfl, kp, hi⟩ := hW
    have hS' := kp.seqL hT hS
    by_cases hlt : i < sd.length
    · have hx : (sd.map V.str)[i]? = some (V.str sd[i]) := by rw [List.getElem?_map, List.getElem?_eq_getElem hlt]; rfl
      refine .inr ⟨⟨_, _, hS', hx⟩, fun v H3 hy => ?_⟩
      obtain ⟨rfl, fv⟩ := hy
      obtain rfl : v = V.str sd[i] := Option.some.inj ((fv _ hS').symm.trans hx)
      refine ⟨_, rfl, sd[i], rfl, kp.tab, fun H4 kp4 => ⟨_, rfl, ?_⟩⟩
      rw [List.all_eq_true.mp hall _ (List.getElem_mem hlt)]
      exact iteT ⟨_, by omega, rfl, kp.trans kp4, hlt⟩
    · exact .inl ⟨⟨_, hS', by rw [List.length_map]; omega⟩, true, rfl, iteF (q H' kp)⟩
def spSizes (K : PySem.W.Frag) (Ps : List Addr) : Sp := fun vs H Q _ => ∃ (a l : Addr) (xs : List Str) (as : List Addr) (es : List Ev), vs = [.ref a, .ref l] ∧ LaneAt K H a xs ∧ laneB xs = true ∧ LogAt K H l as es ∧ logB xs xs.length es = true ∧ Tabs Ps H ∧
  ∀ H' p, Kp Ps H H' → H p = none → H' p = some (.lst ((szs xs.length es).map V.int)) → Q (.ref p) H'
theorem Kp.setNew {H H1 : Hp} {u : Addr} {o : HO} (k : Kp Ps H H1) (hT : Tabs Ps H) (hu : H u = none) : Kp Ps H (L2.upd H1 u o) := k.upd hT hu
theorem ok_sizes {f fL : Addr} {fd fdL : FuncData} (F : Fun K "sizes" "sizes" sSizes f fd) (B : Bi mg)
    (GL : FnOk P w K mg base CX0 7 fL fdL ["start", "log"] (spReqLog K Ps)) (mgL : mg "require_log" = some (.ref fL)) (kL : PySem.W.keepIn K (.ref fL) = true) (bL : Binds K fdL ["start", "log"] []) : FnOk P w K mg base CX0 8 f fd ["start", "log"] (spSizes K Ps) := by
  refine F.ok scSizes (fun vs H Q E h => ?_) (fun cdv A outer s H vs Q E hr h => ?_)
  · obtain ⟨a, l, xs, as, es, rfl, _⟩ := h
    rfl
  · obtain ⟨a, l, xs, as, es, rfl, hL, hB, hE, hB2, hT, q⟩ := h
    refine ⟨_, pss_cons (ps_expr (pe_call GL hr (by rfl) mgL kL bL .nil pass0 (pa_cons (pv 0) (pa_cons (pv 1) pa_nil))))
      (pss_cons (ps_set (i := 2) scSizes.nd rfl (.inl rfl) (pe_lst (pa_cons (pe_callB call_len_seq (by rfl) B.len PySem.boot_len (pa_cons (pv 0) pa_nil)) pa_nil)))
      (pss_cons (ps_for PassesOwn.never rfl (pi_list (pv 1)) (pg_name (i := 3) scSizes.nd rfl (.inl rfl))
        (pss_cons (ps_set (i := 4) scSizes.nd rfl (.inl rfl) (pe_ifExp (pt_cmpR op_eq (pe_ix ix_tup (pv 3) pe_int (fun _ _ => rfl)) pe_str (nomark _)) pe_int (pe_un un_neg pe_int)))
        (pss_one (ps_expr (pe_bm PySem.F.plainAttrs_list PySem.F.slot_list_append PySem.F.type_list_append mt_append (pv 2) (pa_cons (pe_op op_add (pe_ix ix_list (pv 2) (pe_un un_neg pe_int) (fun _ _ => rfl)) (pv 4)) pa_nil))))))
      (pss_one (ps_ret (pv 2))))), ?_⟩
    refine ⟨.ref a, rfl, .ref l, rfl, a, l, xs, as, es, rfl, hL, hB, hE, hB2, hT, fun H1 k1 => ?_⟩
    have hL1 := hL.kp k1 hT
    have hE1 := hE.kp k1 hT
    refine ⟨.ref a, rfl, a, _, rfl, .inr hL1.at_, by show 1 ≤ sizeLine; decide, fun o ho => ?_⟩
    have hoo : H o = none := k1.free hT ho
    have k2 : Kp Ps H (L2.upd H1 o (.lst [V.int ((xs.map V.str).length : Nat)])) := k1.upd hT hoo
    have hlen := Paired.length hE.evs
    refine ⟨.ref l, rfl, l, rfl, ⟨_, (hE.kp k2 hT).at_⟩, for_list (K := K) (a := l) (xs := as.map V.ref) (fun i σ H' => ∃ v3 v4 : Option V, σ = [some (.ref a), some (.ref l), some (.ref o), v3, v4] ∧ Kp Ps H H' ∧ i ≤ es.length ∧ H' o = some (.lst (((szs xs.length es).take (i + 1)).map V.int))) ?_ ?_ ?_ ?_⟩
    · refine ⟨none, none, rfl, k2, Nat.zero_le _, ?_⟩
      rw [upd_same, List.take_add_one, szs_head, List.length_map]
      rfl
    · rintro i σ H' _ ⟨_, _, _, kp, _⟩
      exact (hE.kp kp hT).at_
    · rintro i y σ H' hi ⟨v3, v4, rfl, kp, hie, ho'⟩
      have hlt : i < es.length := by
        have h1 := (List.getElem?_eq_some_iff.mp hi).1
        rw [List.length_map] at h1
        omega
      have hev : es[i]? = some es[i] := List.getElem?_eq_getElem hlt
      obtain ⟨b, hb, hbt⟩ := pair_at (hE.kp kp hT).evs i _ hev
      have hy : y = .ref b := by
        rw [List.getElem?_map, hb] at hi
        exact (Option.some.inj hi).symm
      subst hy
      have hz : i < (szs xs.length es).length := by rw [szs_len]; omega
      have few2 := hE.few
      have hk : (szs xs.length es)[i]? = some (szs xs.length es)[i] := List.getElem?_eq_getElem hz
      have hlast : ((szs xs.length es).take (i + 1)).map V.int = ((szs xs.length es).take i).map V.int ++ [V.int (szs xs.length es)[i]] := by
        rw [List.take_add_one, hk, List.map_append]
        rfl
      have hstep := szs_step _ es i _ _ hev hk
      have fin : ∀ d : Int, d = (es[i]).dn → L2.upd H' o (.lst (((szs xs.length es).take (i + 1)).map V.int ++ [V.int ((szs xs.length es)[i] + d)])) o = some (.lst (((szs xs.length es).take (i + 1 + 1)).map V.int)) := fun d e => by
        rw [upd_same, List.take_add_one (i := i + 1), hstep, List.map_append, e]
        rfl
      have room : (((szs xs.length es).take (i + 1)).map V.int).length < sizeLine := by
        rw [List.length_map, List.length_take]
        exact Nat.lt_of_le_of_lt (Nat.min_le_left _ _) (small1000 (by omega))
      have lastAt : atI (((szs xs.length es).take (i + 1)).map V.int) (-1) = some (V.int (szs xs.length es)[i]) := by
        rw [hlast]
        exact atI_last _ _
      cases hE2 : es[i] with
      | inn c =>
        rw [hE2] at hbt
        refine ⟨.ref b, rfl, b, _, 0, .str "in", rfl, rfl, hbt, atI_nat (j := 0) rfl, rfl, _, rfl, ?_⟩
        rw [decide_eq_true (rfl : V.str "in" = V.str "in")]
        refine iteT ?_
        refine ⟨.ref o, rfl, .inl ⟨rfl, _, .inl (.inl ho')⟩, .ref o, rfl, 1, rfl, o, _, -1, _, rfl, rfl, .inl (.inl ho'), lastAt, .int 1, rfl, _, _, rfl, rfl, o, _, _, rfl, rfl, ho', room, ?_⟩
        exact ⟨some (.ref b), some (.int 1), rfl, kp.upd hT hoo, hlt, fin 1 (by rw [hE2]; rfl)⟩
      | out =>
        rw [hE2] at hbt
        refine ⟨.ref b, rfl, b, _, 0, .str "out", rfl, rfl, hbt, atI_nat (j := 0) rfl, rfl, _, rfl, ?_⟩
        rw [decide_eq_false (fun z => ne_oi (V.str.inj z))]
        refine iteF ⟨1, rfl, ?_⟩
        refine ⟨.ref o, rfl, .inl ⟨rfl, _, .inl (.inl ho')⟩, .ref o, rfl, 1, rfl, o, _, -1, _, rfl, rfl, .inl (.inl ho'), lastAt, .int (-1), rfl, _, _, rfl, rfl, o, _, _, rfl, rfl, ho', room, ?_⟩
        exact ⟨some (.ref b), some (.int (-1)), rfl, kp.upd hT hoo, hlt, fin (-1) (by rw [hE2]; rfl)⟩
    · rintro σ H' ⟨v3, v4, rfl, kp, hie, ho'⟩
      refine ⟨.ref o, rfl, q H' o kp hoo ?_⟩
      rw [ho', List.length_map, hlen, List.take_of_length_le (by rw [szs_len]; exact Nat.le_refl _)]
end
end Ln


set_option Elab.async false
set_option linter.all false
set_option maxRecDepth 100000
set_option maxHeartbeats 2000000
namespace Ln
open PySem PySem.Spec PyProof.Rows L2 GxR
theorem scNumbers : FnScope ["start", "log", "event"] ["start", "log"] (defScope sNumbers) := ⟨rfl, rfl, rfl, by decide +kernel, rfl, by decide +kernel, by decide +kernel⟩
theorem scMove : FnScope ["present", "event", "side"] ["present", "event", "side"] (defScope sMove) := ⟨rfl, rfl, rfl, by decide +kernel, rfl, by decide +kernel, by decide +kernel⟩
theorem scReplay : FnScope ["start", "log", "sides", "present", "departed", "event", "side", "car"] ["start", "log", "sides"] (defScope sReplay) := ⟨rfl, rfl, rfl, by decide +kernel, rfl, by decide +kernel, by decide +kernel⟩
/-- the cars that arrive -/
def arrs : List Ev → List Str
  | [] => []
  | .inn c :: r => c :: arrs r
  | .out :: r => arrs r
theorem arrs_app : ∀ (a b : List Ev), arrs (a ++ b) = arrs a ++ arrs b
  | [], b => rfl
  | .inn c :: r, b => by show c :: arrs (r ++ b) = _; rw [arrs_app]; rfl
  | .out :: r, b => arrs_app r b
theorem arrs_len : ∀ (a : List Ev), (arrs a).length ≤ a.length
  | [] => Nat.le_refl _
  | .inn c :: r => Nat.succ_le_succ (arrs_len r)
  | .out :: r => Nat.le_succ_of_le (arrs_len r)
section
variable {P : Program} {w : World} {K : PySem.W.Frag} {mg : Str → Option Value} {base : Heap} {Ps : List Addr}
def spNumbers (K : PySem.W.Frag) (Ps : List Addr) : Sp := fun vs H Q _ => ∃ (a l : Addr) (xs : List Str) (as : List Addr) (es : List Ev), vs = [.ref a, .ref l] ∧ LaneAt K H a xs ∧ laneB xs = true ∧ LogAt K H l as es ∧ logB xs xs.length es = true ∧ Tabs Ps H ∧
  ∀ H' p, Kp Ps H H' → H p = none → H' p = some (.lst ((xs ++ arrs es).map V.str)) → Q (.ref p) H'
theorem ok_numbers {f fL : Addr} {fd fdL : FuncData} (F : Fun K "numbers" "numbers" sNumbers f fd) (B : Bi mg)
    (GL : FnOk P w K mg base CX0 7 fL fdL ["start", "log"] (spReqLog K Ps)) (mgL : mg "require_log" = some (.ref fL)) (kL : PySem.W.keepIn K (.ref fL) = true) (bL : Binds K fdL ["start", "log"] []) : FnOk P w K mg base CX0 8 f fd ["start", "log"] (spNumbers K Ps) := by
  refine F.ok scNumbers (fun vs H Q E h => ?_) (fun cdv A outer s H vs Q E hr h => ?_)
  · obtain ⟨a, l, xs, as, es, rfl, _⟩ := h
    rfl
  · obtain ⟨a, l, xs, as, es, rfl, hL, hB, hE, hB2, hT, q⟩ := h
    refine ⟨_, pss_cons (ps_expr (pe_call GL hr (by rfl) mgL kL bL .nil pass0 (pa_cons (pv 0) (pa_cons (pv 1) pa_nil))))
      (pss_one (ps_ret (pe_op op_cat (pe_callTy call_list_of (by rfl) B.lst (by decide +kernel) (pa_cons (pv 0) pa_nil))
        (pe_lc (own := [("event", 2)]) (g := gName 2) (by rfl) scNumbers.nd (pi_list (pv 1)) (blkOk_by (own := [("event", 2)]) (N := ["start", "log", "event"]) (sc := defScope sNumbers) (by decide +kernel))
          (fun _ _ _ _ _ => pg_name (i := 2) scNumbers.nd rfl (Or.inl rfl)) (fun _ _ _ _ _ => pts_one (pt_cmpR op_eq (pe_ix (r := rIxT K) ix_tup (pv 2) pe_int (fun _ _ => rfl)) pe_str (nomark _))) (fun _ _ _ _ _ => pe_ix (r := rIxT K) ix_tup (pv 2) pe_int (fun _ _ => rfl)))))), ?_⟩
    refine ⟨.ref a, rfl, .ref l, rfl, a, l, xs, as, es, rfl, hL, hB, hE, hB2, hT, fun H1 k1 => ?_⟩
    have hL1 := hL.kp k1 hT
    refine ⟨.ref a, rfl, a, _, rfl, .inr hL1.at_, fun o ho => ?_⟩
    have hoo : H o = none := k1.free hT ho
    have k2 : Kp Ps H (L2.upd H1 o (.lst (xs.map V.str))) := k1.upd hT hoo
    have hlen := Paired.length hE.evs
    refine ⟨.ref l, rfl, l, rfl, ⟨_, (hE.kp k2 hT).at_⟩, fun D hD => ?_⟩
    have hDD : H D = none := k2.free hT hD
    have hDo : D ≠ o := fun z => by
      rw [z, upd_same] at hD
      cases hD
    refine lc_list (K := K) (a := l) (xs := as.map V.ref) (fun i H' => Kp Ps H H' ∧ i ≤ es.length ∧ H' o = some (.lst (xs.map V.str)) ∧ H' D = some (.lst ((arrs (es.take i)).map V.str))) ?_ ?_ ?_ ?_
    · exact ⟨k2.upd hT hDD, Nat.zero_le _, by rw [upd_ne hDo.symm, upd_same], upd_same⟩
    · rintro i H' _ ⟨kp, _⟩
      exact (hE.kp kp hT).at_
    · rintro i y H' hi ⟨kp, hie, ho', hD'⟩
      have hlt : i < es.length := by
        have h1 := (List.getElem?_eq_some_iff.mp hi).1
        rw [List.length_map] at h1
        omega
      have hev : es[i]? = some es[i] := List.getElem?_eq_getElem hlt
      obtain ⟨b, hb, hbt⟩ := pair_at (hE.kp kp hT).evs i _ hev
      have hy : y = .ref b := by
        rw [List.getElem?_map, hb] at hi
        exact (Option.some.inj hi).symm
      subst hy
      have few2 := hE.few
      have htake : es.take (i + 1) = es.take i ++ [es[i]] := by rw [List.take_add_one, hev]; rfl
      refine ⟨rfl, ?_⟩
      cases hE2 : es[i] with
      | inn c =>
        rw [hE2] at hbt htake
        refine ⟨.ref b, rfl, b, _, 0, .str "in", rfl, rfl, hbt, atI_nat (j := 0) rfl, rfl, _, rfl, ?_⟩
        rw [decide_eq_true (rfl : V.str "in" = V.str "in")]
        refine iteT ⟨.ref b, rfl, b, _, 1, .str c, rfl, rfl, hbt, atI_nat (j := 1) rfl, _, hD', ?_, kp.upd hT hDD, hlt, ?_, ?_⟩
        · rw [List.length_map]
          refine small1000 ?_
          have := arrs_len (es.take i)
          rw [List.length_take] at this
          omega
        · rw [upd_ne hDo.symm]
          exact ho'
        · rw [upd_same, htake, arrs_app, List.map_append]
          rfl
      | out =>
        rw [hE2] at hbt htake
        refine ⟨.ref b, rfl, b, _, 0, .str "out", rfl, rfl, hbt, atI_nat (j := 0) rfl, rfl, _, rfl, ?_⟩
        rw [decide_eq_false (fun z => ne_oi (V.str.inj z))]
        refine iteF ⟨kp, hlt, ho', ?_⟩
        rw [hD', htake, arrs_app]
        show _ = some (HO.lst ((arrs (es.take i) ++ []).map V.str))
        rw [List.append_nil]
    · rintro H' ⟨kp, hie, ho', hD'⟩
      rw [List.length_map, hlen, List.take_length] at hD'
      refine ⟨o, D, _, _, rfl, rfl, ho', hD', ?_, fun p hp => ?_⟩
      · have h1 := hL.few
        have h2 := hE.few
        have h3 := arrs_len es
        rw [List.length_map, List.length_map]
        exact Nat.le_of_lt (small1000 (by omega))
      · have hpp : H p = none := kp.free hT hp
        refine q _ p (kp.upd hT hpp) hpp ?_
        rw [upd_same, List.map_append]
end
end Ln


set_option Elab.async false
set_option linter.all false
set_option maxRecDepth 100000
set_option maxHeartbeats 2000000
namespace Ln
open PySem PySem.Spec PyProof.Rows L2 GxR
/-- the lane and the departed cars after one event -/
def stepR (p : List Str × List Str) (x : Ev × Str) : List Str × List Str :=
  match x.1 with
  | .inn c => (if x.2 = "L" then c :: p.1 else p.1 ++ [c], p.2)
  | .out => if x.2 = "L" then (p.1.drop 1, p.2 ++ p.1.take 1) else (p.1.dropLast, p.2 ++ p.1.drop (p.1.length - 1))
/-- behind the first i events -/
def atR (xs : List Str) (es : List Ev) (sd : List Str) (i : Nat) : List Str × List Str := ((es.zip sd).take i).foldl stepR (xs, [])
theorem atR_succ {xs : List Str} {es : List Ev} {sd : List Str} {i : Nat} {e : Ev} {x : Str} (h1 : es[i]? = some e) (h2 : sd[i]? = some x) : atR xs es sd (i + 1) = stepR (atR xs es sd i) (e, x) := by
  unfold atR
  have : (es.zip sd)[i]? = some (e, x) := by rw [List.getElem?_zip_eq_some]; exact ⟨h1, h2⟩
  rw [List.take_add_one, this, List.foldl_append]
  rfl
/-- how many are present, and that the rest of the log goes on -/
def Live (xs : List Str) (es : List Ev) (i m : Nat) : Prop := ∃ us, logB us m (es.drop i) = true
theorem live_step {xs : List Str} {es : List Ev} {i m : Nat} {e : Ev} (h : Live xs es i m) (he : es[i]? = some e) : match e with
  | .inn _ => Live xs es (i + 1) (m + 1)
  | .out => 0 < m ∧ Live xs es (i + 1) (m - 1) := by
  obtain ⟨us, hl⟩ := h
  have hlt := (List.getElem?_eq_some_iff.mp he).1
  have hd : es.drop i = e :: es.drop (i + 1) := by
    rw [List.drop_eq_getElem_cons hlt, (List.getElem?_eq_some_iff.mp he).2]
  rw [hd] at hl
  cases e with
  | inn c =>
    have hl : (if carB c = true ∧ ¬ c ∈ us then logB (c :: us) (m + 1) (es.drop (i + 1)) else false) = true := hl
    by_cases q : carB c = true ∧ ¬ c ∈ us
    · rw [if_pos q] at hl
      exact ⟨_, hl⟩
    · rw [if_neg q] at hl
      cases hl
  | out =>
    have hl : (if 0 < m then logB us (m - 1) (es.drop (i + 1)) else false) = true := hl
    by_cases q : 0 < m
    · rw [if_pos q] at hl
      exact ⟨q, _, hl⟩
    · rw [if_neg q] at hl
      cases hl
theorem side_cases {x : Str} (h : sideB x = true) : x = "L" ∨ x = "R" := by
  unfold sideB at h
  rcases Bool.or_eq_true _ _ ▸ h with h | h
  · exact .inl (of_decide_eq_true h)
  · exact .inr (of_decide_eq_true h)
theorem ne_RL : ¬ (("R" : Str) = "L") := by decide +kernel
section
variable {P : Program} {w : World} {K : PySem.W.Frag} {mg : Str → Option Value} {base : Heap} {Ps : List Addr}
def spReplay (K : PySem.W.Frag) (Ps : List Addr) : Sp := fun vs H Q _ => ∃ (a l m : Addr) (xs : List Str) (as : List Addr) (es : List Ev) (sd : List Str), vs = [.ref a, .ref l, .ref m] ∧ LaneAt K H a xs ∧ laneB xs = true ∧ LogAt K H l as es ∧ logB xs xs.length es = true ∧
  SqL K H m (sd.map V.str) ∧ sd.length = es.length ∧ sd.all sideB = true ∧ Tabs Ps H ∧
  ∀ H' p t d, Kp Ps H H' → H p = none → H t = none → H d = none → H' p = some (.tup [.ref t, .ref d]) → H' t = some (.tup ((atR xs es sd es.length).1.map V.str)) → H' d = some (.lst ((atR xs es sd es.length).2.map V.str)) → Q (.ref p) H'
def spMove (K : PySem.W.Frag) : Sp := fun vs H Q _ => ∃ (u b : Addr) (sx : Str) (lane : List Str) (e : Ev), vs = [.ref u, .ref b, .str sx] ∧ H u = some (.lst (lane.map V.str)) ∧ SqT K H b e.vals ∧ (sx = "L" ∨ sx = "R") ∧ lane.length ≤ 900 ∧
  (∀ c, e = .inn c → Q .non (L2.upd H u (.lst ((stepR (lane, []) (e, sx)).1.map V.str)))) ∧ (e = .out → lane ≠ [] ∧ ∀ x, (stepR (lane, []) (e, sx)).2 = [x] → Q (.str x) (L2.upd H u (.lst ((stepR (lane, []) (e, sx)).1.map V.str))))
theorem stepR_g (x g : List Str) (e : Ev × Str) : stepR (x, g) e = ((stepR (x, []) e).1, g ++ (stepR (x, []) e).2) := by
  obtain ⟨ev, s⟩ := e
  cases ev with
  | inn c => exact Prod.ext rfl (List.append_nil g).symm
  | out =>
    show (if s = "L" then (x.drop 1, g ++ x.take 1) else (x.dropLast, g ++ x.drop (x.length - 1)) : List Str × List Str) = ((if s = "L" then (x.drop 1, [] ++ x.take 1) else (x.dropLast, [] ++ x.drop (x.length - 1)) : List Str × List Str).1, g ++ (if s = "L" then (x.drop 1, [] ++ x.take 1) else (x.dropLast, [] ++ x.drop (x.length - 1)) : List Str × List Str).2)
    split <;> rfl
theorem ok_move {f : Addr} {fd : FuncData} (F : Fun K "move" "move" sMove f fd) (B : Bi mg) : FnOk P w K mg base CX0 1 f fd ["present", "event", "side"] (spMove K) := by
  refine F.ok scMove (fun vs H Q E h => ?_) (fun cdv A outer s H vs Q E hr h => ?_)
  · obtain ⟨u, b, sx, lane, e, rfl, _⟩ := h
    rfl
  · obtain ⟨u, b, sx, lane, e, rfl, hu, hbt, hsd, hlen, qi, qo⟩ := h
    refine ⟨_, pss_cons (ps_if (pt_cmpR op_eq (pe_ix ix_tup (pv 1) pe_int (fun _ _ => rfl)) pe_str (nomark _))
        (pss_cons (ps_expr (pe_bm PySem.F.plainAttrs_list PySem.F.slot_list_insert PySem.F.type_list_insert mt_insert (pv 0) (pa_cons (pe_ifExp (pt_cmpR op_eq (pv 2) pe_str (nomark _)) pe_int (pe_callB call_len_seq (by rfl) B.len PySem.boot_len (pa_cons (pv 0) pa_nil))) (pa_cons (pe_ix ix_tup (pv 1) pe_int (fun _ _ => rfl)) pa_nil))))
          (pss_one (ps_ret pe_non))) pss_nil)
      (pss_one (ps_ret (pe_bm PySem.F.plainAttrs_list PySem.F.slot_list_pop PySem.F.type_list_pop mt_popAt (pv 0) (pa_cons (pe_ifExp (pt_cmpR op_eq (pv 2) pe_str (nomark _)) pe_int (pe_un un_neg pe_int)) pa_nil)))), ?_⟩
    have lenb : (lane.map V.str).length < sizeLine := by rw [List.length_map]; exact small1000 (by omega)
    cases e with
    | inn c =>
      have qi := qi c rfl
      refine ⟨.ref b, rfl, b, _, 0, .str "in", rfl, rfl, hbt, atI_nat (j := 0) rfl, rfl, _, rfl, ?_⟩
      rw [decide_eq_true (rfl : V.str "in" = V.str "in")]
      refine iteT ?_
      rcases hsd with rfl | rfl
      · refine ⟨.ref u, rfl, .inl ⟨rfl, _, .inl (.inl hu)⟩, _, rfl, rfl, _, rfl, ?_⟩
        rw [decide_eq_true (rfl : V.str "L" = V.str "L")]
        refine iteT ⟨.ref b, rfl, b, _, 1, .str c, rfl, rfl, hbt, atI_nat (j := 1) rfl, u, _, 0, _, rfl, rfl, hu, lenb, by decide, by decide, ?_⟩
        exact qi
      · refine ⟨.ref u, rfl, .inl ⟨rfl, _, .inl (.inl hu)⟩, _, rfl, rfl, _, rfl, ?_⟩
        rw [decide_eq_false (fun z => ne_RL (V.str.inj z))]
        refine iteF ⟨.ref u, rfl, u, _, rfl, .inl (.inl (.inl hu)), .ref b, rfl, b, _, 1, .str c, rfl, rfl, hbt, atI_nat (j := 1) rfl, u, _, _, _, rfl, rfl, hu, lenb, by omega, by rw [List.length_map]; omega, ?_⟩
        have e1 : (List.take (Int.toNat (((List.map V.str lane).length : Nat) : Int)) (List.map V.str lane) ++ [V.str c] ++ List.drop (Int.toNat (((List.map V.str lane).length : Nat) : Int)) (List.map V.str lane)) = ((stepR (lane, []) (.inn c, "R")).1.map V.str) := by
          show _ = ((if ("R" : Str) = "L" then c :: lane else lane ++ [c]).map V.str)
          rw [if_neg ne_RL, Int.toNat_natCast, List.take_length, List.drop_length, List.append_nil, List.map_append]
          rfl
        rw [e1]
        exact qi
    | out =>
      obtain ⟨hne, qo⟩ := qo rfl
      refine ⟨.ref b, rfl, b, _, 0, .str "out", rfl, rfl, hbt, atI_nat (j := 0) rfl, rfl, _, rfl, ?_⟩
      rw [decide_eq_false (fun z => ne_oi (V.str.inj z))]
      refine iteF ?_
      rcases hsd with rfl | rfl
      · obtain ⟨x, r, rfl⟩ : ∃ x r, lane = x :: r := by
          cases lane with
          | nil => exact absurd rfl hne
          | cons x r => exact ⟨x, r, rfl⟩
        refine ⟨.ref u, rfl, .inl ⟨rfl, _, .inl (.inl hu)⟩, _, rfl, rfl, _, rfl, ?_⟩
        rw [decide_eq_true (rfl : V.str "L" = V.str "L")]
        refine iteT ⟨u, _, 0, 0, V.str x, rfl, rfl, hu, by decide, by decide, ?_, rfl, ?_⟩
        · exact (ixN_seq (i := 0) (j := 0) (by unfold ixN; rw [if_pos (by decide), if_pos (by rw [List.length_map, List.length_cons]; omega)]; rfl)).1
        exact qo x rfl
      · obtain ⟨x, r, rfl⟩ : ∃ x r, lane = r ++ [x] := ⟨_, _, (List.dropLast_concat_getLast hne).symm⟩
        have em : (r ++ [x]).map V.str = r.map V.str ++ [V.str x] := by rw [List.map_append]; rfl
        refine ⟨.ref u, rfl, .inl ⟨rfl, _, .inl (.inl hu)⟩, _, rfl, rfl, _, rfl, ?_⟩
        rw [decide_eq_false (fun z => ne_RL (V.str.inj z))]
        refine iteF ⟨1, rfl, u, _, -1, r.length, V.str x, rfl, rfl, hu, by decide, by decide, ?_, ?_, ?_⟩
        · refine (ixN_seq (i := -1) (j := r.length) ?_).1
          have el : ((r ++ [x]).map V.str).length = r.length + 1 := by rw [List.length_map, List.length_append]; rfl
          rw [el]
          unfold ixN
          rw [if_neg (by decide), if_pos (by omega)]
          congr 1
          omega
        · rw [em, List.getElem?_append_right (by rw [List.length_map]; exact Nat.le_refl _), List.length_map, Nat.sub_self]
          rfl
        have e2 : (stepR (r ++ [x], []) (.out, "R")) = (r, [x]) := by
          show (if ("R" : Str) = "L" then ((r ++ [x]).drop 1, [] ++ (r ++ [x]).take 1) else ((r ++ [x]).dropLast, [] ++ (r ++ [x]).drop ((r ++ [x]).length - 1)) : List Str × List Str) = _
          rw [if_neg ne_RL, show (r ++ [x]).length - 1 = r.length by rw [List.length_append]; rfl, List.drop_left, List.dropLast_concat]
          rfl
        have qo := qo x (by rw [e2])
        rw [e2] at qo
        have e3 : ((r ++ [x]).map V.str).eraseIdx r.length = r.map V.str := by
          rw [em, List.eraseIdx_append_of_length_le (by rw [List.length_map]; exact Nat.le_refl _), List.length_map, Nat.sub_self]
          show r.map V.str ++ [] = _
          rw [List.append_nil]
        rw [e3]
        exact qo
theorem ok_replay {f fL fS fM : Addr} {fd fdL fdS fdM : FuncData} (F : Fun K "replay" "replay" sReplay f fd) (B : Bi mg)
    (GL : FnOk P w K mg base CX0 7 fL fdL ["start", "log"] (spReqLog K Ps)) (mgL : mg "require_log" = some (.ref fL)) (kL : PySem.W.keepIn K (.ref fL) = true) (bL : Binds K fdL ["start", "log"] [])
    (GS : FnOk P w K mg base CX0 3 fS fdS ["log", "sides"] (spReqSides K Ps)) (mgS : mg "require_sides" = some (.ref fS)) (kS : PySem.W.keepIn K (.ref fS) = true) (bS : Binds K fdS ["log", "sides"] [])
    (GM : FnOk P w K mg base CX0 1 fM fdM ["present", "event", "side"] (spMove K)) (mgM : mg "move" = some (.ref fM)) (kM : PySem.W.keepIn K (.ref fM) = true) (bM : Binds K fdM ["present", "event", "side"] []) : FnOk P w K mg base CX0 8 f fd ["start", "log", "sides"] (spReplay K Ps) := by
  refine F.ok scReplay (fun vs H Q E h => ?_) (fun cdv A outer s H vs Q E hr h => ?_)
  · obtain ⟨a, l, m, xs, as, es, sd, rfl, _⟩ := h
    rfl
  · obtain ⟨a, l, m, xs, as, es, sd, rfl, hL, hB, hE, hB2, hS, hsl, hsa, hT, q⟩ := h
    refine ⟨_, pss_cons (ps_expr (pe_call GL hr (by rfl) mgL kL bL .nil pass0 (pa_cons (pv 0) (pa_cons (pv 1) pa_nil))))
      (pss_cons (ps_expr (pe_call GS (hr.mono (by decide)) (by rfl) mgS kS bS .nil pass0 (pa_cons (pv 1) (pa_cons (pv 2) pa_nil))))
      (pss_cons (ps_set (i := 3) scReplay.nd rfl (.inl rfl) (pe_callTy call_list_of (by rfl) B.lst (by decide +kernel) (pa_cons (pv 0) pa_nil)))
      (pss_cons (ps_set (i := 4) scReplay.nd rfl (.inl rfl) (pe_lst pa_nil))
      (pss_cons (ps_for PassesOwn.never rfl (pi_zip (by rfl) B.zip (pa_cons (pv 1) (pa_cons (pv 2) pa_nil)))
          (pg_tup rfl (pgs_cons (pg_name (i := 5) scReplay.nd rfl (.inl rfl)) (pgs_cons (pg_name (i := 6) scReplay.nd rfl (.inl rfl)) pgs_nil)))
        (pss_cons (ps_set (i := 7) scReplay.nd rfl (.inl rfl) (pe_call GM (hr.mono (by decide)) (by rfl) mgM kM bM .nil pass0 (pa_cons (pv 3) (pa_cons (pv 5) (pa_cons (pv 6) pa_nil)))))
          (pss_one (ps_if (pt_cmpR op_notN (pv 7) pe_non (nomark _))
            (pss_one (ps_expr (pe_bm PySem.F.plainAttrs_list PySem.F.slot_list_append PySem.F.type_list_append mt_append (pv 4) (pa_cons (pv 7) pa_nil)))) pss_nil))))
      (pss_one (ps_ret (pe_tup (pa_cons (pe_callTy call_tuple_of (by rfl) B.tup (by decide +kernel) (pa_cons (pv 3) pa_nil)) (pa_cons (pv 4) pa_nil))))))))), ?_⟩
    refine ⟨.ref a, rfl, .ref l, rfl, a, l, xs, as, es, rfl, hL, hB, hE, hB2, hT, fun H1 k1 => ?_⟩
    have hlen := Paired.length hE.evs
    refine ⟨.ref l, rfl, .ref m, rfl, l, m, _, sd, rfl, (hE.kp k1 hT).at_, k1.seqL hT hS, by rw [List.length_map]; omega, hsa, k1.tab, fun H2 k2' => ?_⟩
    have k2 := k1.trans k2'
    refine ⟨.ref a, rfl, a, _, rfl, .inr (hL.kp k2 hT).at_, fun u hu => ?_⟩
    have hu0 : H u = none := k2.free hT hu
    have k3 : Kp Ps H (L2.upd H2 u (.lst (xs.map V.str))) := k2.upd hT hu0
    refine ⟨Nat.zero_le _, fun d hd => ?_⟩
    have hd0 : H d = none := k3.free hT hd
    have hdu : d ≠ u := fun z => by
      rw [z, upd_same] at hd
      cases hd
    have k4 : Kp Ps H (L2.upd (L2.upd H2 u (.lst (xs.map V.str))) d (.lst [])) := k3.upd hT hd0
    have few1 := hL.few
    have few2 := hE.few
    refine ⟨.ref l, rfl, .ref m, rfl, l, m, as.map V.ref, sd.map V.str, rfl, (hE.kp k4 hT).at_, k4.seqL hT hS, RZ.for_zipL (K := K) (a := l) (b := m) (xs := as.map V.ref) (ys := sd.map V.str) (by rw [List.length_map, List.length_map]; omega)
      (fun i σ H' => ∃ (v5 v6 v7 : Option V) (n : Nat), σ = [some (.ref a), some (.ref l), some (.ref m), some (.ref u), some (.ref d), v5, v6, v7] ∧ Kp Ps H H' ∧ i ≤ es.length ∧ H' u = some (.lst ((atR xs es sd i).1.map V.str)) ∧ H' d = some (.lst ((atR xs es sd i).2.map V.str)) ∧
        (atR xs es sd i).1.length = n ∧ n ≤ xs.length + i ∧ (atR xs es sd i).2.length ≤ i ∧ Live xs es i n) ?_ ?_ ?_ ?_⟩
    · exact ⟨none, none, none, xs.length, rfl, k4, Nat.zero_le _, by rw [upd_ne hdu.symm, upd_same]; rfl, by rw [upd_same]; rfl, rfl, Nat.le_refl _, Nat.le_refl _, xs, hB2⟩
    · rintro i σ H' ⟨_, _, _, _, _, kp, _⟩
      exact ⟨(hE.kp kp hT).at_, kp.seqL hT hS⟩
    · rintro i y z T σ H' hi hsi ⟨v5, v6, v7, n, rfl, kp, hie, hu', hd', hn, hnb, hgb, hlive⟩ hTn
      have hlt : i < es.length := by
        have h1 := (List.getElem?_eq_some_iff.mp hi).1
        rw [List.length_map] at h1
        omega
      have hlt2 : i < sd.length := by omega
      obtain ⟨ev, hev⟩ : ∃ ev, es[i]? = some ev := ⟨es[i], List.getElem?_eq_getElem hlt⟩
      obtain ⟨sx, hsv⟩ : ∃ sx, sd[i]? = some sx := ⟨sd[i], List.getElem?_eq_getElem hlt2⟩
      have hT0 : H T = none := kp.free hT hTn
      have kp1 : Kp Ps H (L2.upd H' T (.tup [y, z])) := kp.upd hT hT0
      have nTu : u ≠ T := ne_of_none hu' hTn
      have nTd : d ≠ T := ne_of_none hd' hTn
      obtain ⟨b, hb, hbt⟩ := pair_at (hE.kp kp1 hT).evs i _ hev
      have hy : y = .ref b := by
        rw [List.getElem?_map, hb] at hi
        exact (Option.some.inj hi).symm
      subst hy
      have hz : z = .str sx := by
        rw [List.getElem?_map, hsv] at hsi
        exact (Option.some.inj hsi).symm
      subst hz
      have hu1 : (L2.upd H' T (.tup [.ref b, .str sx])) u = some (.lst ((atR xs es sd i).1.map V.str)) := by rw [upd_ne nTu]; exact hu'
      have hd1 : (L2.upd H' T (.tup [.ref b, .str sx])) d = some (.lst ((atR xs es sd i).2.map V.str)) := by rw [upd_ne nTd]; exact hd'
      have hsuc := atR_succ (xs := xs) hev hsv
      have hls := live_step hlive hev
      have hsd := side_cases (List.all_eq_true.mp hsa _ (List.mem_of_getElem? hsv))
      refine ⟨T, _, rfl, .inl (.inl upd_same), rfl, _, _, rfl, _, _, rfl, rfl, ?_⟩
      generalize hlane : (atR xs es sd i).1 = lane at *
      generalize hgone : (atR xs es sd i).2 = gone at *
      have hsuc : atR xs es sd (i + 1) = stepR (lane, gone) (ev, sx) := by rw [hsuc, ← hlane, ← hgone]
      rw [stepR_g lane gone] at hsuc
      have hs1 : (atR xs es sd (i + 1)).1 = (stepR (lane, []) (ev, sx)).1 := by rw [hsuc]
      have hs2 : (atR xs es sd (i + 1)).2 = gone ++ (stepR (lane, []) (ev, sx)).2 := by rw [hsuc]
      refine ⟨.ref u, rfl, .ref b, rfl, _, rfl, u, b, sx, lane, ev, rfl, hu1, hbt, hsd, by omega, fun c hc => ?_, fun ho => ?_⟩
      · subst hc
        refine ⟨_, rfl, rfl, _, rfl, iteF ?_⟩
        refine ⟨_, _, _, n + 1, rfl, kp1.upd hT hu0, hlt, ?_, ?_, ?_, by omega, ?_, hls⟩
        · rw [upd_same, hs1]
        · rw [upd_ne hdu, hs2]
          show _ = some (HO.lst ((gone ++ []).map V.str))
          rw [List.append_nil]
          exact hd1
        · rw [hs1, ← hn]
          show (if sx = "L" then c :: lane else lane ++ [c]).length = _
          split
          · rfl
          · rw [List.length_append]
            rfl
        · rw [hs2]
          show (gone ++ []).length ≤ _
          rw [List.append_nil]
          omega
      · subst ho
        obtain ⟨hpos, hls⟩ := hls
        refine ⟨fun z => by rw [z, List.length_nil] at hn; omega, fun x hx => ?_⟩
        refine ⟨_, rfl, rfl, _, rfl, ?_⟩
        rw [decide_eq_false (show ¬ (V.str x = V.non) from fun z => by cases z)]
        have lenb2 : (gone.map V.str).length < sizeLine := by rw [List.length_map]; exact small1000 (by omega)
        refine iteT ⟨.ref d, rfl, .inl ⟨rfl, _, .inl (.inl (by rw [upd_ne hdu]; exact hd1))⟩, _, rfl, d, _, _, rfl, rfl, by rw [upd_ne hdu]; exact hd1, lenb2, ?_⟩
        refine ⟨_, _, _, n - 1, rfl, (kp1.upd hT hu0).upd hT hd0, hlt, ?_, ?_, ?_, by omega, ?_, hls⟩
        · rw [upd_ne hdu.symm, upd_same, hs1]
        · rw [upd_same, hs2, hx, List.map_append]
          rfl
        · rw [hs1]
          show (if sx = "L" then (lane.drop 1, [] ++ lane.take 1) else (lane.dropLast, [] ++ lane.drop (lane.length - 1)) : List Str × List Str).1.length = _
          split
          · show (lane.drop 1).length = _
            rw [List.length_drop, hn]
          · show lane.dropLast.length = _
            rw [List.length_dropLast, hn]
        · rw [hs2, hx, List.length_append]
          show gone.length + 1 ≤ _
          omega
    · rintro σ H' ⟨v5, v6, v7, n, rfl, kp, hie, hu', hd', hn, hnb, hgb, hlive⟩
      rw [List.length_map, hlen] at hu' hd'
      refine ⟨.ref u, rfl, u, _, rfl, .inl ⟨.inl (.inl hu'), fun t ht => ?_⟩⟩
      have ht0 : H t = none := kp.free hT ht
      have ntd : d ≠ t := ne_of_none hd' ht
      have kpt : Kp Ps H (L2.upd H' t (.tup ((atR xs es sd es.length).1.map V.str))) := kp.upd hT ht0
      refine ⟨.ref d, rfl, by show 2 ≤ sizeLine; decide, fun p hp => ?_⟩
      have hp0 : H p = none := kpt.free hT hp
      have npt : t ≠ p := fun z => by
        rw [← z, upd_same] at hp
        cases hp
      have npd : d ≠ p := fun z => by
        rw [← z, upd_ne ntd, hd'] at hp
        cases hp
      exact q _ p t d (kpt.upd hT hp0) hp0 ht0 hd0 upd_same (by rw [upd_ne npt, upd_same]) (by rw [upd_ne npd, upd_ne ntd]; exact hd')
end
end Ln


set_option Elab.async false
set_option linter.all false
set_option maxRecDepth 100000
set_option maxHeartbeats 2000000
namespace Ln
open PySem PySem.Spec PyProof.Rows L2 GxR
structure Bl (mg : Str → Option Value) : Prop where
  max : mg "max" = none
  min : mg "min" = none
  abs : mg "abs" = none
  rng : mg "range" = none
  rep : mg "repr" = none
theorem scSource : FnScope ["script", "k", "cell"] ["script", "k"] (defScope sSource) := ⟨rfl, rfl, rfl, by decide +kernel, rfl, by decide +kernel, by decide +kernel⟩
theorem scDraw : FnScope ["source", "limit", "found", "mixed"] ["source", "limit"] (defScope sDraw) := ⟨rfl, rfl, rfl, by decide +kernel, rfl, by decide +kernel, by decide +kernel⟩
/-- i ** j of great i -/
def CPowW (i j : Int) : Prop := 0 ≤ j ∧ j ≤ 10 ∧ i.natAbs < 2 ^ 1000
theorem op_powW {X : Cx} : OpR X (binaryOp .Pow) (rI CPowW fun i j => .int (i ^ j.toNat)) := opI fun i j _ _ _ _ _ hc q => by
  obtain ⟨h0, h1, h2⟩ := hc
  refine pow_int h0 ?_ q
  have hb : Builtin.Int.intBits i ≤ 1000 := by
    unfold Builtin.Int.intBits
    split
    · omega
    · have := PySem.Flt.log2_lt_of (show 0 < 1000 by decide) h2
      omega
  calc (Builtin.Int.intBits i : Int) * j ≤ 1000 * 10 := Int.mul_le_mul (by omega) h1 h0 (by decide)
    _ ≤ 2 ^ 27 := by decide
/-- a source of draws: at most n have been made -/
def SrcV (n : Nat) (l : List V) : Prop := ∃ a b c : Int, l = [.int a, .int b, .int c] ∧ 0 ≤ a ∧ 0 ≤ b ∧ b < 2 ^ 130 ∧ 0 ≤ c ∧ c ≤ n
theorem SrcV.mono {n m : Nat} {l : List V} (h : SrcV n l) (hm : n ≤ m) : SrcV m l := by
  obtain ⟨a, b, c, e, h1, h2, h3, h4, h5⟩ := h
  exact ⟨a, b, c, e, h1, h2, h3, h4, by omega⟩
theorem SrcV.len {n : Nat} {l : List V} (h : SrcV n l) : l.length = 3 := by
  obtain ⟨a, b, c, e, _⟩ := h
  rw [e]
  rfl
section
variable {P : Program} {w : World} {K : PySem.W.Frag} {mg : Str → Option Value} {base : Heap} {Ps : List Addr}
def spSource (K : PySem.W.Frag) : Sp := fun vs H Q _ => ∃ (a : Addr) (ns : List Int) (k : Nat), vs = [.ref a, .int k] ∧ SqL K H a (ns.map V.int) ∧ k ≤ 8 ∧ ∀ p l, H p = none → SrcV 0 l → Q (.ref p) (upd H p (.lst l))
theorem ok_source {f : Addr} {fd : FuncData} (F : Fun K "_law_source" "_law_source" sSource f fd) (B : Bi mg) (B2 : Bl mg) : FnOk P w K mg base CX0 1 f fd ["script", "k"] (spSource K) := by
  refine F.ok scSource (fun vs H Q E h => ?_) (fun cdv A outer s H vs Q E hr h => ?_)
  · obtain ⟨a, ns, k, rfl, _⟩ := h
    rfl
  · obtain ⟨a, ns, k, rfl, hS, hk, q⟩ := h
    refine ⟨_, pss_cons (ps_set (i := 2) scSource.nd rfl (.inl rfl) (pe_ifExp (pt_cmpR op_lt (pv 1) (pe_callB call_len_seq (by rfl) B.len PySem.boot_len (pa_cons (pv 0) pa_nil)) (nomark _)) (pe_ix ix_list (pv 0) (pv 1) (fun _ _ => rfl)) pe_int))
      (pss_one (ps_ret (pe_lst (pa_cons (pe_callB (call_max2 rfl) (by rfl) B2.max (by decide +kernel) (pa_cons pe_int (pa_cons (pe_op op_sub (pe_callB call_abs (by rfl) B2.abs (by decide +kernel) (pa_cons (pv 2) pa_nil)) (pe_op op_pow pe_int pe_int)) pa_nil)))
        (pa_cons (pe_op op_add (pe_op op_mod (pv 2) (pe_op op_add (pe_op op_pow pe_int pe_int) pe_int)) (pe_op op_mul pe_int (pv 1))) (pa_cons pe_int pa_nil)))))), ?_⟩
    have go : ∀ cell : Int, (tRet (tLst (tCons (tCB (fun xs H Q => ∃ i j, xs = [.int i, .int j] ∧ Q (.int (if j > i then j else i)) H) (tCons (tC (.int 0)) (tCons (tOp (rI0 fun i j => .int (i - j)) (tCB (fun xs H Q => ∃ i, xs = [.int i] ∧ Q (.int (if i < 0 then -i else i)) H) (tCons (tVar 2) tNil)) (tOp (rI CPow fun i j => .int (i ^ j.toNat)) (tC (.int 10)) (tC (.int 18)))) tNil)))
        (tCons (tOp (rI0 fun i j => .int (i + j)) (tOp (rI (fun _ j => 0 < j) fun i j => .int (i % j)) (tVar 2) (tOp (rI0 fun i j => .int (i + j)) (tOp (rI CPow fun i j => .int (i ^ j.toNat)) (tC (.int 10)) (tC (.int 38))) (tC (.int 133)))) (tOp (rI CMul fun i j => .int (i * j)) (tC (.int 31607)) (tVar 1))) (tCons (tC (.int 0)) tNil))))) { nx := fun _ H' => Q .non H', rt := Q } [some (.ref a), some (.int k), some (.int cell)] H := by
      intro cell
      refine ⟨_, rfl, _, rfl, 10, 18, rfl, rfl, ⟨by decide, by decide, by decide⟩, _, _, rfl, rfl, _, _, rfl, ?_⟩
      refine ⟨_, rfl, 10, 38, rfl, rfl, ⟨by decide, by decide, by decide⟩, _, _, rfl, rfl, _, _, rfl, rfl, (by show (0 : Int) < 10 ^ Int.toNat 38 + 133; decide), _, rfl, _, _, rfl, rfl, .inl ⟨by decide, by decide⟩, _, _, rfl, rfl, by show 3 ≤ sizeLine; decide, fun p hp => ?_⟩
      refine q p _ hp ⟨_, _, 0, rfl, ?_, ?_, ?_, by decide, by decide⟩
      · split <;> omega
      · have h1 : (0 : Int) ≤ cell % (10 ^ Int.toNat 38 + 133) := Int.emod_nonneg _ (by decide)
        omega
      · have h1 : cell % (10 ^ Int.toNat 38 + 133) < 10 ^ Int.toNat 38 + 133 := Int.emod_lt_of_pos _ (by decide)
        have h2 : (10 : Int) ^ Int.toNat 38 + 133 + 31607 * 8 < 2 ^ 130 := by decide
        omega
    refine ⟨_, rfl, .ref a, rfl, a, _, rfl, .inl hS, _, _, rfl, rfl, _, rfl, ite2 (fun h => ?_) (fun h => ?_)⟩
    · have h : (k : Int) < ((ns.map V.int).length : Nat) := of_decide_eq_true h
      have hk2 : k < ns.length := by
        rw [List.length_map] at h
        omega
      refine ⟨.ref a, rfl, _, rfl, a, _, k, .int ns[k], rfl, rfl, hS, atI_nat (by rw [List.getElem?_map, List.getElem?_eq_getElem hk2]; rfl), ?_⟩
      exact go _
    · exact go 0
def spDraw : Sp := fun vs H Q _ => ∃ (s : Addr) (l : List V) (n : Nat) (lim : Int), vs = [.ref s, .int lim] ∧ H s = some (.lst l) ∧ SrcV n l ∧ n ≤ 1000000 ∧ 1 ≤ lim ∧ lim ≤ 100000 ∧ ∀ l' r, SrcV (n + 1) l' → 0 ≤ r → r < lim → Q (.int r) (upd H s (.lst l'))
theorem ok_draw {f : Addr} {fd : FuncData} (F : Fun K "_law_draw" "_law_draw" sDraw f fd) : FnOk P w K mg base CX0 1 f fd ["source", "limit"] spDraw := by
  refine F.ok scDraw (fun vs H Q E h => ?_) (fun cdv A outer s H vs Q E hr h => ?_)
  · obtain ⟨s0, l, n, lim, rfl, _⟩ := h
    rfl
  · obtain ⟨s0, l, n, lim, rfl, hs, ⟨a, b, c, rfl, ha, hb, hb2, hc, hcn⟩, hn, hl1, hl2, q⟩ := h
    refine ⟨_, pss_cons (ps_if (pt_cmpR op_gt (pe_ix ix_list (pv 0) pe_int (fun _ _ => rfl)) pe_int (nomark _))
        (pss_cons (ps_set (i := 2) scDraw.nd rfl (.inl rfl) (pe_op op_mod (pe_ix ix_list (pv 0) pe_int (fun _ _ => rfl)) (pv 1)))
        (pss_cons (ps_asg (pe_op op_fdiv (pe_ix ix_list (pv 0) pe_int (fun _ _ => rfl)) (pv 1)) (pg_sub (pv 0) pe_int set_list))
        (pss_one (ps_ret (pv 2))))) pss_nil)
      (pss_cons (ps_asg (pe_op op_add (pe_ix ix_list (pv 0) pe_int (fun _ _ => rfl)) pe_int) (pg_sub (pv 0) pe_int set_list))
      (pss_cons (ps_set (i := 3) scDraw.nd rfl (.inl rfl) (pe_op op_mod (pe_op op_powW (pe_op op_add (pe_ix ix_list (pv 0) pe_int (fun _ _ => rfl)) (pe_op op_mul pe_int (pe_ix ix_list (pv 0) pe_int (fun _ _ => rfl)))) pe_int) (pe_op op_add (pe_op op_pow pe_int pe_int) pe_int)))
      (pss_cons (ps_set (i := 3) scDraw.nd rfl (.inl rfl) (pe_op op_mod (pe_op op_powW (pe_op op_add (pv 3) (pe_op op_mul pe_int (pe_ix ix_list (pv 0) pe_int (fun _ _ => rfl)))) pe_int) (pe_op op_add (pe_op op_pow pe_int pe_int) pe_int)))
      (pss_one (ps_ret (pe_op op_mod (pe_op op_fdiv (pv 3) pe_int) (pv 1))))))), ?_⟩
    have hS := SqL.of (K := K) hs
    refine ⟨.ref s0, rfl, s0, _, 0, .int a, rfl, rfl, hS, atI_nat (j := 0) rfl, _, _, rfl, rfl, _, rfl, ite2 (fun h => ?_) (fun h => ?_)⟩
    · refine ⟨.ref s0, rfl, s0, _, 0, .int a, rfl, rfl, hS, atI_nat (j := 0) rfl, _, rfl, _, _, rfl, rfl, by omega, ?_⟩
      refine ⟨.ref s0, rfl, s0, _, 0, .int a, rfl, rfl, hS, atI_nat (j := 0) rfl, _, rfl, _, _, rfl, rfl, ⟨by omega, by omega⟩, ?_⟩
      refine ⟨.ref s0, rfl, s0, _, _, 0, rfl, rfl, hs, rfl, ?_⟩
      refine ⟨_, rfl, q _ _ ⟨a / lim, b, c, rfl, Int.ediv_nonneg ha (by omega), hb, hb2, hc, by omega⟩ (Int.emod_nonneg _ (by omega)) (Int.emod_lt_of_pos _ (by omega))⟩
    · refine ⟨.ref s0, rfl, s0, _, 2, .int c, rfl, rfl, hS, atI_nat (j := 2) rfl, _, _, rfl, rfl, ?_⟩
      refine ⟨.ref s0, rfl, s0, _, _, 2, rfl, rfl, hs, rfl, ?_⟩
      have hS2 : SqL K (upd H s0 (.lst [.int a, .int b, .int (c + 1)])) s0 [.int a, .int b, .int (c + 1)] := SqL.of upd_same
      have nat_lt : ∀ x y : Int, 0 ≤ x → x ≤ y → y.natAbs < 2 ^ 1000 → x.natAbs < 2 ^ 1000 := fun x y h0 h1 h2 => Nat.lt_of_le_of_lt (by omega) h2
      have big : ((2 ^ 140 : Int)).natAbs < 2 ^ 1000 := by decide +kernel
      refine ⟨.ref s0, rfl, s0, _, 1, .int b, rfl, rfl, hS2, atI_nat (j := 1) rfl, .ref s0, rfl, s0, _, 2, .int (c + 1), rfl, rfl, hS2, atI_nat (j := 2) rfl, _, _, rfl, rfl, .inl ⟨by decide, by decide⟩, _, _, rfl, rfl, _, 3, rfl, rfl, ⟨by decide, by decide, ?_⟩, 10, 37, rfl, rfl, ⟨by decide, by decide, by decide⟩, _, _, rfl, rfl, _, _, rfl, rfl, (by show (0 : Int) < 10 ^ Int.toNat 37 + 43; decide), ?_⟩
      · refine nat_lt _ (2 ^ 140) (by omega) ?_ big
        have : (2 : Int) ^ 130 + 49979687 * 1000001 ≤ 2 ^ 140 := by decide
        omega
      · have m1 : ∀ z : Int, 0 ≤ z % (10 ^ Int.toNat 37 + 43) ∧ z % (10 ^ Int.toNat 37 + 43) ≤ 2 ^ 130 := fun z => by
          have h1 : 0 ≤ z % (10 ^ Int.toNat 37 + 43) := Int.emod_nonneg _ (by decide)
          have h2 : z % (10 ^ Int.toNat 37 + 43) < 10 ^ Int.toNat 37 + 43 := Int.emod_lt_of_pos _ (by decide)
          have h3 : (10 : Int) ^ Int.toNat 37 + 43 ≤ 2 ^ 130 := by decide
          omega
        generalize hmx : (b + 49979687 * (c + 1)) ^ Int.toNat 3 % (10 ^ Int.toNat 37 + 43) = mx
        have m1' : 0 ≤ mx ∧ mx ≤ 2 ^ 130 := by
          rw [← hmx]
          exact m1 _
        refine ⟨_, rfl, .ref s0, rfl, s0, _, 2, .int (c + 1), rfl, rfl, hS2, atI_nat (j := 2) rfl, _, _, rfl, rfl, .inl ⟨by decide, by decide⟩, _, _, rfl, rfl, _, 3, rfl, rfl, ⟨by decide, by decide, ?_⟩, 10, 36, rfl, rfl, ⟨by decide, by decide, by decide⟩, _, _, rfl, rfl, _, _, rfl, rfl, (by show (0 : Int) < 10 ^ Int.toNat 36 + 67; decide), ?_⟩
        · refine nat_lt _ (2 ^ 140) (by omega) ?_ big
          have : (2 : Int) ^ 130 + 15485863 * 1000001 ≤ 2 ^ 140 := by decide
          omega
        · generalize (mx + 15485863 * (c + 1)) ^ Int.toNat 3 % (10 ^ Int.toNat 36 + 67) = my
          refine ⟨_, rfl, _, _, rfl, rfl, ⟨by decide, by decide⟩, _, rfl, _, _, rfl, rfl, by show (0 : Int) < lim; omega, ?_⟩
          exact q _ _ ⟨a, b, c + 1, rfl, ha, hb, hb2, by omega, by omega⟩ (Int.emod_nonneg _ (by omega)) (Int.emod_lt_of_pos _ (by omega))
end
end Ln


set_option Elab.async false
set_option linter.all false
set_option maxRecDepth 100000
set_option maxHeartbeats 2000000
namespace Ln
open PySem PySem.Spec PyProof.Rows L2 GxR
theorem scMixed : FnScope ["source", "things", "spare", "k"] ["source", "things"] (defScope sMixed) := ⟨rfl, rfl, rfl, by decide +kernel, rfl, by decide +kernel, by decide +kernel⟩
/-- what stood stands, the source apart -/
def Ch (s : Addr) (H H' : Hp) : Prop := ∀ b o, H b = some o → b ≠ s → H' b = some o
theorem Ch.refl {s : Addr} {H : Hp} : Ch s H H := fun _ _ e _ => e
theorem Ch.trans {s : Addr} {H H1 H2 : Hp} (a : Ch s H H1) (b : Ch s H1 H2) : Ch s H H2 := fun c o e n => b c o (a c o e n) n
theorem Ch.src {s : Addr} {H : Hp} {o : HO} : Ch s H (upd H s o) := fun b q e n => by rw [upd_ne n]; exact e
theorem Ch.new {s p : Addr} {H H1 : Hp} {o : HO} (k : Ch s H H1) (hp : H p = none) : Ch s H (upd H1 p o) := fun b q e n => by rw [upd_ne (ne_of_none e hp)]; exact k b q e n
theorem Ch.seqL {K : PySem.W.Frag} {s a : Addr} {H H1 : Hp} {xs : List V} (k : Ch s H H1) (h : SqL K H a xs) (n : a ≠ s) : SqL K H1 a xs := by
  rcases h with (e | ⟨ob, e⟩) | e
  · exact .inl (.inl (k _ _ e n))
  · exact .inl (.inr ⟨ob, k _ _ e n⟩)
  · exact .inr e
theorem Ch.seqT {K : PySem.W.Frag} {s a : Addr} {H H1 : Hp} {xs l : List V} (k : Ch s H H1) (h : SqT K H a xs) (hs : H s = some (.lst l)) : SqT K H1 a xs := by
  rcases h with (e | ⟨ob, e⟩) | e
  · exact .inl (.inl (k _ _ e fun z => by rw [z, hs] at e; cases e))
  · exact .inl (.inr ⟨ob, k _ _ e fun z => by rw [z, hs] at e; cases e⟩)
  · exact .inr e
/-- a new address stays apart from the source -/
theorem Ch.free {s p : Addr} {H H1 : Hp} {l : List V} (k : Ch s H H1) (hs : H s = some (.lst l)) (hs1 : ∃ l1, H1 s = some (.lst l1)) (hp : H1 p = none) : H p = none := by
  by_cases z : p = s
  · obtain ⟨l1, e⟩ := hs1
    rw [z, e] at hp
    cases hp
  · cases q : H p with
    | none => rfl
    | some u =>
      rw [k p u q z] at hp
      cases hp
theorem Ch.tabs {s : Addr} {Ps : List Addr} {H H1 : Hp} {l : List V} (k : Ch s H H1) (hs : H s = some (.lst l)) (hT : Tabs Ps H) : Tabs Ps H1 := fun q hq => by
  obtain ⟨ps, e, t⟩ := hT q hq
  exact ⟨ps, k q _ e (fun z => by rw [z, hs] at e; cases e), t⟩
theorem erase_perm {α : Type} {l : List α} {k : Nat} {x : α} (h : l[k]? = some x) : (x :: l.eraseIdx k).Perm l := by
  obtain ⟨hk, e⟩ := List.getElem?_eq_some_iff.mp h
  have e1 : l = l.take k ++ x :: l.drop (k + 1) := by
    rw [← e, ← List.drop_eq_getElem_cons hk, List.take_append_drop]
  rw [List.eraseIdx_eq_take_drop_succ]
  conv => rhs; rw [e1]
  exact List.perm_middle.symm
theorem map_erase {α β : Type} (f : α → β) : ∀ (l : List α) (k : Nat), (l.map f).eraseIdx k = (l.eraseIdx k).map f
  | [], _ => rfl
  | _ :: _, 0 => rfl
  | x :: r, k + 1 => by
    show f x :: (r.map f).eraseIdx k = f x :: (r.eraseIdx k).map f
    rw [map_erase f r k]
abbrev rLenSeq (K : PySem.W.Frag) : List V → Hp → VK → Prop := fun xs H Q => ∃ p ys, xs = [.ref p] ∧ (SqL K H p ys ∨ SqT K H p ys) ∧ Q (.int ((ys.length : Nat) : Int)) H
section
variable {P : Program} {w : World} {K : PySem.W.Frag} {mg : Str → Option Value} {base : Heap} {Ps : List Addr}
def spMixed (K : PySem.W.Frag) : Sp := fun vs H Q _ => ∃ (s t : Addr) (l : List V) (n : Nat) (xs : List Str), vs = [.ref s, .ref t] ∧ H s = some (.lst l) ∧ SrcV n l ∧ n + xs.length ≤ 1000000 ∧ SqL K H t (xs.map V.str) ∧ t ≠ s ∧ xs.length ≤ 1000 ∧
  ∀ (H' : Hp) (p : Addr) (ys : List Str) (l' : List V), Ch s H H' → H p = none → ys.Perm xs → SrcV (n + xs.length) l' → H' s = some (.lst l') → H' p = some (.lst (ys.map V.str)) → Q (.ref p) H'
theorem ok_mixed {f fD : Addr} {fd fdD : FuncData} (F : Fun K "_law_mixed" "_law_mixed" sMixed f fd) (B : Bi mg) (B2 : Bl mg)
    (GD : FnOk P w K mg base CX0 1 fD fdD ["source", "limit"] spDraw) (mgD : mg "_law_draw" = some (.ref fD)) (kD : PySem.W.keepIn K (.ref fD) = true) (bD : Binds K fdD ["source", "limit"] []) : FnOk P w K mg base CX0 2 f fd ["source", "things"] (spMixed K) := by
  refine F.ok scMixed (fun vs H Q E h => ?_) (fun cdv A outer s H vs Q E hr h => ?_)
  · obtain ⟨s0, t, l, n, xs, rfl, _⟩ := h
    rfl
  · obtain ⟨s0, t, l, n, xs, rfl, hs, hl, hn, hS, hts, hfew, q⟩ := h
    refine ⟨_, pss_cons (ps_set (i := 2) scMixed.nd rfl (.inr rfl) (pe_callTy call_list_of (by rfl) B.lst (by decide +kernel) (pa_cons (pv 1) pa_nil)))
      (pss_one (ps_ret (pe_lc (own := [("k", 3)]) (g := gName 3) (tt := tYes) (te := tBM K "list" rPopAt (tVar 2) (tCons (tCall spDraw [] E0 (tCons (tVar 0) (tCons (tCB (rLenSeq K) (tCons (tVar 2) tNil)) tNil))) tNil)) (by rfl) scMixed.nd
        (pi_range1 (by rfl) B2.rng (pa_cons (pe_callB call_len_seq (by rfl) B.len PySem.boot_len (pa_cons (pv 1) pa_nil)) pa_nil))
        (blkOk_by (own := [("k", 3)]) (N := ["source", "things", "spare", "k"]) (sc := defScope sMixed) (by decide +kernel))
        (fun _ _ _ _ _ => pg_name (i := 3) scMixed.nd rfl (Or.inl rfl)) (fun _ _ _ _ _ => pts_nil)
        (fun _ _ _ _ _ => pe_bm PySem.F.plainAttrs_list PySem.F.slot_list_pop PySem.F.type_list_pop mt_popAt (pv 2) (pa_cons (pe_call GD hr (by rfl) mgD kD bD .nil pass0 (pa_cons (pv 0) (pa_cons (pe_callB call_len_seq (by rfl) B.len PySem.boot_len (pa_cons (pv 2) pa_nil)) pa_nil))) pa_nil))))), ?_⟩
    refine ⟨.ref t, rfl, t, _, rfl, .inl hS, fun u hu => ?_⟩
    have hus : u ≠ s0 := fun z => by
      rw [z, hs] at hu
      cases hu
    have c1 : Ch s0 H (upd H u (.lst (xs.map V.str))) := Ch.refl.new hu
    refine ⟨.ref t, rfl, t, _, rfl, .inl (c1.seqL hS hts), xs.length, ?_, by omega, by omega, fun D hD => ?_⟩
    · rw [List.length_map]
    have hDu : D ≠ u := fun z => by
      rw [z, upd_same] at hD
      cases hD
    have hD0 : H D = none := by
      rw [upd_ne hDu] at hD
      exact hD
    have hDs : D ≠ s0 := fun z => by
      rw [z, hs] at hD0
      cases hD0
    refine lc_range (lo := 0) (n := xs.length) (fun i H' => ∃ (l' : List V) (ys zs : List Str), Ch s0 H H' ∧ i ≤ xs.length ∧ SrcV (n + i) l' ∧ H' s0 = some (.lst l') ∧ H' u = some (.lst (zs.map V.str)) ∧ H' D = some (.lst (ys.map V.str)) ∧ (ys ++ zs).Perm xs ∧ ys.length = i) ?_ ?_ ?_
    · exact ⟨l, [], xs, (Ch.refl.new hu).new hD0, Nat.zero_le _, hl, by rw [upd_ne hDs.symm, upd_ne hus.symm]; exact hs, by rw [upd_ne hDu.symm, upd_same], by rw [upd_same]; rfl, List.Perm.refl _, rfl⟩
    · rintro i H' hi ⟨l', ys, zs, ch, _, hl', hs', hu', hD', hp, hy⟩
      have hlen : ys.length + zs.length = xs.length := by
        have := hp.length_eq
        rw [List.length_append] at this
        exact this
      refine ⟨rfl, ?_⟩
      unfold tYes
      refine iteT ?_
      refine ⟨.ref u, rfl, .inl ⟨rfl, _, .inl (.inl hu')⟩, .ref s0, rfl, .ref u, rfl, u, _, rfl, .inl (.inl (.inl hu')), ?_⟩
      refine ⟨s0, l', n + i, _, rfl, hs', hl', by omega, by rw [List.length_map]; omega, by rw [List.length_map]; omega, fun l2 r hl2 h0 h1 => ?_⟩
      rw [List.length_map] at h1
      obtain ⟨k, rfl⟩ : ∃ k : Nat, r = (k : Int) := ⟨r.toNat, by omega⟩
      have hk : k < zs.length := by omega
      have hz : zs[k]? = some zs[k] := List.getElem?_eq_getElem hk
      have hu2 : (upd H' s0 (.lst l2)) u = some (.lst (zs.map V.str)) := by rw [upd_ne hus]; exact hu'
      have hpe := erase_perm hz
      refine ⟨u, _, k, k, V.str zs[k], rfl, rfl, hu2, by omega, by omega, ?_, by rw [List.getElem?_map, hz]; rfl, ys.map V.str, ?_, ?_, ?_⟩
      · refine (ixN_seq (i := (k : Int)) (j := k) ?_).1
        unfold ixN
        rw [if_pos (by omega), if_pos (by rw [List.length_map]; omega)]
        rfl
      · rw [upd_ne hDu, upd_ne hDs]
        exact hD'
      · rw [List.length_map]
        exact small1000 (by omega)
      · refine ⟨l2, ys ++ [zs[k]], zs.eraseIdx k, ((ch.trans Ch.src).new hu).new hD0, hi, ?_, ?_, ?_, ?_, ?_, ?_⟩
        · rw [← Nat.add_assoc]
          exact hl2
        · rw [upd_ne hDs.symm, upd_ne hus.symm, upd_same]
        · rw [upd_ne hDu.symm, upd_same, map_erase]
        · rw [upd_same, List.map_append]
          rfl
        · rw [List.append_assoc]
          exact ((List.Perm.append_left ys hpe)).trans hp
        · rw [List.length_append, hy]
          rfl
    · rintro H' ⟨l', ys, zs, ch, _, hl', hs', hu', hD', hp, hy⟩
      have hz : zs = [] := by
        have := hp.length_eq
        rw [List.length_append, hy] at this
        exact List.length_eq_zero_iff.mp (by omega)
      rw [hz, List.append_nil] at hp
      exact q H' D ys l' ch hD0 hp hl' hs' hD'
end
end Ln


set_option Elab.async false
set_option linter.all false
set_option maxRecDepth 100000
set_option maxHeartbeats 2000000
namespace Ln
open PySem PySem.Spec PyProof.Rows L2 GxR
theorem scHap : FnScope ["source", "present", "spare", "most", "found", "left", "lean", "k", "arrives"] ["source", "present", "spare", "most"] (defScope sHap) := ⟨rfl, rfl, rfl, by decide +kernel, rfl, by decide +kernel, by decide +kernel⟩
/-- how many are present behind a log, if it can be -/
def cnt : Nat → List Ev → Option Nat
  | n, [] => some n
  | n, .inn _ :: r => cnt (n + 1) r
  | n, .out :: r => if 0 < n then cnt (n - 1) r else none
theorem cnt_snoc : ∀ (n : Nat) (es : List Ev) (e : Ev) (m : Nat), cnt n es = some m → cnt n (es ++ [e]) = cnt m [e]
  | n, [], e, m, h => by
    obtain rfl : n = m := Option.some.inj h
    rfl
  | n, .inn c :: r, e, m, h => cnt_snoc (n + 1) r e m h
  | n, .out :: r, e, m, h => by
    show (if 0 < n then cnt (n - 1) (r ++ [e]) else none) = _
    have h : (if 0 < n then cnt (n - 1) r else none) = some m := h
    by_cases q : 0 < n
    · rw [if_pos q] at h ⊢
      exact cnt_snoc (n - 1) r e m h
    · rw [if_neg q] at h
      cases h
/-- a log of new cars that counts is a log -/
theorem logB_of : ∀ (es : List Ev) (us : List Str) (n m : Nat), cnt n es = some m → (∀ c ∈ arrs es, carB c = true ∧ ¬ c ∈ us) → (arrs es).Nodup → logB us n es = true
  | [], _, _, _, _, _, _ => rfl
  | .inn c :: r, us, n, m, h, hc, hn => by
    show (if carB c = true ∧ ¬ c ∈ us then logB (c :: us) (n + 1) r else false) = true
    have hn : (c :: arrs r).Nodup := hn
    obtain ⟨h1, h2⟩ := List.nodup_cons.mp hn
    rw [if_pos (hc c List.mem_cons_self)]
    refine logB_of r (c :: us) (n + 1) m h (fun d hd => ⟨(hc d (List.mem_cons_of_mem _ hd)).1, fun z => ?_⟩) h2
    rcases List.mem_cons.mp z with z | z
    · exact h1 (z ▸ hd)
    · exact (hc d (List.mem_cons_of_mem _ hd)).2 z
  | .out :: r, us, n, m, h, hc, hn => by
    show (if 0 < n then logB us (n - 1) r else false) = true
    have h : (if 0 < n then cnt (n - 1) r else none) = some m := h
    by_cases q : 0 < n
    · rw [if_pos q] at h ⊢
      exact logB_of r us (n - 1) m h hc hn
    · rw [if_neg q] at h
      cases h
/-- the tuples stand -/
def KT (H H' : Hp) : Prop := ∀ b xs, H b = some (.tup xs) → H' b = some (.tup xs)
theorem KT.upd {H : Hp} {a : Addr} {o : HO} (h : ∀ xs, H a ≠ some (.tup xs)) : KT H (upd H a o) := fun b xs e => by
  rw [upd_ne (fun z => h xs (by rw [← z]; exact e))]
  exact e
theorem KT.trans {H H1 H2 : Hp} (a : KT H H1) (b : KT H1 H2) : KT H H2 := fun c xs e => b c xs (a c xs e)
/-- the events' own tuples -/
def EvT (H : Hp) (as : List Addr) (es : List Ev) : Prop := Paired (fun a (e : Ev) => H a = some (.tup e.vals)) as es
theorem EvT.kt {H H' : Hp} {as : List Addr} {es : List Ev} (h : EvT H as es) (k : KT H H') : EvT H' as es := Paired.imp h fun _ _ q => k _ _ q
theorem EvT.at_ {K : PySem.W.Frag} {H : Hp} {as : List Addr} {es : List Ev} (h : EvT H as es) : EvsAt K H as es := Paired.imp h fun _ _ q => SqT.of q
theorem dp_strs {K : PySem.W.Frag} {H : Hp} : ∀ xs : List Str, DpAll K H (xs.map V.str) (xs.map PyData.str)
  | [] => .nil
  | x :: r => .cons (.str x) (dp_strs r)
theorem lay_strs : ∀ xs : List Str, (∀ x ∈ xs, PyData.strOk x = true) → PyData.canLayAll0 (xs.map PyData.str) = true
  | [], _ => rfl
  | x :: r, h => by
    simp only [List.map_cons, PyData.canLayAll0, PyData.canLay0, lay_strs r fun y hy => h y (List.mem_cons_of_mem _ hy), h x List.mem_cons_self]
    rfl
theorem dep_strs : ∀ xs : List Str, PyData.depthAll (xs.map PyData.str) ≤ 1
  | [] => by simp [PyData.depthAll]
  | x :: r => by
    have := dep_strs r
    simp only [List.map_cons, PyData.depthAll, PyData.depth]
    omega
theorem shaped_strs (xs : List Str) (h : ∀ x ∈ xs, PyData.strOk x = true) : SeqAt.shaped (.list (xs.map PyData.str)) = true := by
  unfold SeqAt.shaped
  rw [Bool.and_eq_true]
  refine ⟨by rw [PyData.canLay0]; exact lay_strs xs h, decide_eq_true ?_⟩
  have := dep_strs xs
  simp only [PyData.depth]
  omega
theorem eqv_nil (xs : List Str) : PyData.eqv (.list (xs.map PyData.str)) (.list []) = xs.isEmpty := by
  cases xs with
  | nil => rfl
  | cons x r => simp [PyData.eqv, PyData.eqvAll]
theorem car_ok {x : Str} (h : carB x = true) : PyData.strOk x = true := by
  unfold carB at h
  rw [Bool.and_eq_true] at h
  have h2 := List.all_eq_true.mp h.2
  unfold PyData.strOk
  rw [← Array.all_toList, List.all_eq_true]
  intro c hc
  have := h2 c hc
  unfold lowB at this
  rw [Bool.and_eq_true] at this
  have := of_decide_eq_true this.2
  exact decide_eq_true (by omega)
/-- the loop of _law_happened: at turn i -/
def HapInv (H : Hp) (s0 t o u : Addr) (n n0 most : Nat) (zs : List Str) (r1 : Int) (c i : Nat) (σ : L2.St) (H' : Hp) : Prop := ∃ (l' : List V) (as : List Addr) (es : List Ev) (k m : Nat) (v7 v8 : Option V),
  σ = [some (.ref s0), some (.int (m : Nat)), some (.ref t), some (.int most), some (.ref o), some (.ref u), some (.int (2 + r1)), v7, v8] ∧ Ch s0 H H' ∧ i ≤ c ∧ H' s0 = some (.lst l') ∧ SrcV (n + 2 + i) l' ∧ H' u = some (.lst ((zs.drop k).map V.str)) ∧
  H' o = some (.lst (as.map V.ref)) ∧ EvT H' as es ∧ (∀ a ∈ as, H a = none) ∧ es.length ≤ i ∧ arrs es = zs.take k ∧ cnt n0 es = some m
theorem cnt_le : ∀ (n : Nat) (es : List Ev) (m : Nat), cnt n es = some m → m ≤ n + es.length
  | n, [], m, h => by
    obtain rfl : n = m := Option.some.inj h
    exact Nat.le_refl _
  | n, .inn c :: r, m, h => by
    have := cnt_le (n + 1) r m h
    show m ≤ n + (r.length + 1)
    omega
  | n, .out :: r, m, h => by
    have h : (if 0 < n then cnt (n - 1) r else none) = some m := h
    by_cases q : 0 < n
    · rw [if_pos q] at h
      have := cnt_le (n - 1) r m h
      show m ≤ n + (r.length + 1)
      omega
    · rw [if_neg q] at h
      cases h
section
variable {P : Program} {w : World} {K : PySem.W.Frag} {mg : Str → Option Value} {base : Heap} {Ps : List Addr}
def spHap (K : PySem.W.Frag) : Sp := fun vs H Q _ => ∃ (s t : Addr) (l : List V) (n n0 most : Nat) (zs : List Str), vs = [.ref s, .int n0, .ref t, .int most] ∧ H s = some (.lst l) ∧ SrcV n l ∧ n + 200 ≤ 1000000 ∧ most ≤ 120 ∧ n0 ≤ 400 ∧ SqL K H t (zs.map V.str) ∧ t ≠ s ∧ zs.length ≤ 400 ∧ (∀ z ∈ zs, carB z = true) ∧
  ∀ (H' : Hp) (p : Addr) (as : List Addr) (es : List Ev) (k m : Nat) (l' : List V), Ch s H H' → H p = none → (∀ a ∈ as, H a = none) → es.length ≤ most → arrs es = zs.take k → cnt n0 es = some m → SrcV (n + 122) l' → H' s = some (.lst l') → H' p = some (.lst (as.map V.ref)) → EvT H' as es → Q (.ref p) H'
theorem ok_hap {f fD : Addr} {fd fdD : FuncData} (F : Fun K "_law_happened" "_law_happened" sHap f fd) (B : Bi mg) (B2 : Bl mg)
    (GD : FnOk P w K mg base CX0 1 fD fdD ["source", "limit"] spDraw) (mgD : mg "_law_draw" = some (.ref fD)) (kD : PySem.W.keepIn K (.ref fD) = true) (bD : Binds K fdD ["source", "limit"] []) : FnOk P w K mg base CX0 2 f fd ["source", "present", "spare", "most"] (spHap K) := by
  refine F.ok scHap (fun vs H Q E h => ?_) (fun cdv A outer s H vs Q E hr h => ?_)
  · obtain ⟨s0, t, l, n, n0, most, zs, rfl, _⟩ := h
    rfl
  · obtain ⟨s0, t, l, n, n0, most, zs, rfl, hs, hl, hn, hmost, hn0, hS, hts, hzl, hzc, q⟩ := h
    have hu : A.units + 3 + 64 < cLine := hr.units
    refine ⟨_, pss_cons (ps_set (i := 4) scHap.nd rfl (.inl rfl) (pe_lst pa_nil))
      (pss_cons (ps_set (i := 5) scHap.nd rfl (.inl rfl) (pe_callTy call_list_of (by rfl) B.lst (by decide +kernel) (pa_cons (pv 2) pa_nil)))
      (pss_cons (ps_set (i := 6) scHap.nd rfl (.inl rfl) (pe_op op_add pe_int (pe_call GD hr (by rfl) mgD kD bD .nil pass0 (pa_cons (pv 0) (pa_cons pe_int pa_nil)))))
      (pss_cons (ps_for PassesOwn.never rfl (pi_range1 (by rfl) B2.rng (pa_cons (pe_call GD hr (by rfl) mgD kD bD .nil pass0 (pa_cons (pv 0) (pa_cons (pe_op op_add (pv 3) pe_int) pa_nil))) pa_nil)) (pg_name (i := 7) scHap.nd rfl (.inl rfl))
        (pss_cons (ps_set (i := 8) scHap.nd rfl (.inl rfl) (pe_cmpR op_gt (pe_call GD hr (by rfl) mgD kD bD .nil pass0 (pa_cons (pv 0) (pa_cons (pv 6) pa_nil))) pe_int (nomark _)))
        (pss_one (ps_if (PW.pt (pw_and (pt_cmpR (op_neD hu) (pv 5) (pe_lst pa_nil) (nomark _)) (pw_and (pt_cmpR op_lt (pv 1) pe_int (nomark _)) (pw_and1 (PW.pt (pw_or (pt_cmpR op_eq (pv 1) pe_int (nomark _)) (pw_or1 (pt_val (pv 8)))))))))
          (pss_cons (ps_expr (pe_bm PySem.F.plainAttrs_list PySem.F.slot_list_append PySem.F.type_list_append mt_append (pv 4) (pa_cons (pe_tup (pa_cons pe_str (pa_cons (pe_bm PySem.F.plainAttrs_list PySem.F.slot_list_pop PySem.F.type_list_pop mt_popAt (pv 5) (pa_cons pe_int pa_nil)) pa_nil))) pa_nil)))
            (pss_one (ps_set (i := 1) scHap.nd rfl (.inl rfl) (pe_op op_add (pv 1) pe_int))))
          (pss_one (ps_if (pt_cmpR op_gt (pv 1) pe_int (nomark _))
            (pss_cons (ps_expr (pe_bm PySem.F.plainAttrs_list PySem.F.slot_list_append PySem.F.type_list_append mt_append (pv 4) (pa_cons (pe_tup (pa_cons pe_str pa_nil)) pa_nil)))
              (pss_one (ps_set (i := 1) scHap.nd rfl (.inl rfl) (pe_op op_sub (pv 1) pe_int)))) pss_nil))))))
      (pss_one (ps_ret (pv 4)))))), ?_⟩
    -- found = []; left = list(spare)
    refine ⟨Nat.zero_le _, fun o ho => ?_⟩
    have hos : o ≠ s0 := fun z => by rw [z, hs] at ho; cases ho
    have ch1 : Ch s0 H (upd H o (.lst [])) := Ch.refl.new ho
    refine ⟨.ref t, rfl, t, _, rfl, .inl (ch1.seqL hS hts), fun u hu1 => ?_⟩
    have huo : u ≠ o := fun z => by rw [z, upd_same] at hu1; cases hu1
    rw [upd_ne huo] at hu1
    have hus : u ≠ s0 := fun z => by rw [z, hs] at hu1; cases hu1
    -- lean
    have hs2 : (upd (upd H o (.lst [])) u (.lst (zs.map V.str))) s0 = some (.lst l) := by rw [upd_ne hus.symm, upd_ne hos.symm]; exact hs
    refine ⟨.ref s0, rfl, s0, l, n, 3, rfl, hs2, hl, by omega, by decide, by decide, fun l1 r1 hl1 h10 h13 => ?_⟩
    refine ⟨_, _, rfl, rfl, .ref s0, rfl, .int most, rfl, _, _, rfl, rfl, s0, l1, n + 1, _, rfl, upd_same, hl1, by omega, by omega, by omega, fun l2 r2 hl2 h20 h2m => ?_⟩
    refine ⟨r2, rfl, by omega, by omega, ?_⟩
    refine for_range (lo := 0) (n := r2.toNat) (HapInv H s0 t o u n n0 most zs r1 r2.toNat) ?_ ?_ ?_
    · exact ⟨l2, [], [], 0, n0, none, none, rfl, fun b q e ne => by rw [upd_ne ne, upd_ne ne, upd_ne (ne_of_none e hu1), upd_ne (ne_of_none e ho)]; exact e, Nat.zero_le _, upd_same, hl2, by rw [upd_ne hus, upd_ne hus, upd_same]; rfl, by rw [upd_ne hos, upd_ne hos, upd_ne huo.symm, upd_same]; rfl, .nil, fun a ha => (by cases ha), Nat.le_refl _, rfl, rfl⟩
    · rintro i σ H' hi ⟨l', as, es, k, m, v7, v8, rfl, ch, _, hs', hl', hu', ho', hev, hfr, hel, har, hct⟩
      have hr2 : r2.toNat ≤ 120 := by omega
      -- arrives
      refine ⟨.ref s0, rfl, _, rfl, s0, l', n + 2 + i, _, rfl, hs', hl', by omega, by omega, by omega, fun l3 r3 hl3 h30 h3m => ?_⟩
      refine ⟨_, _, rfl, rfl, ?_⟩
      have hs3 : (upd H' s0 (.lst l3)) s0 = some (.lst l3) := upd_same
      have hu3 : (upd H' s0 (.lst l3)) u = some (.lst ((zs.drop k).map V.str)) := by rw [upd_ne hus]; exact hu'
      have ho3 : (upd H' s0 (.lst l3)) o = some (.lst (as.map V.ref)) := by rw [upd_ne hos]; exact ho'
      have hev3 : EvT (upd H' s0 (.lst l3)) as es := hev.kt (KT.upd fun xs e => by rw [hs'] at e; cases e)
      have ch3 : Ch s0 H (upd H' s0 (.lst l3)) := ch.trans Ch.src
      generalize upd H' s0 (.lst l3) = H3 at *
      have lenA : (as.map V.ref).length < sizeLine := by
        rw [List.length_map, Paired.length hev]
        exact small1000 (by omega)
      -- elif present > 0
      have els : ∀ H4 : Hp, Ch s0 H H4 → H4 s0 = some (.lst l3) → H4 u = some (.lst ((zs.drop k).map V.str)) → H4 o = some (.lst (as.map V.ref)) → EvT H4 as es → ∀ v7 v8 : Option V,
          ∀ D : Ends, (∀ σ H', HapInv H s0 t o u n n0 most zs r1 r2.toNat (i + 1) σ H' → D.nx σ H') →
          (tIfS (tTest (tOp (rI0 fun i j => .bl (decide (j < i))) (tVar 1) (tC (.int 0)))) (tSeq (tDrop (tBM K "list" rAppend (tVar 4) (tCons (tTup (tCons (tC (.str "out")) tNil)) tNil))) (tAsg (tOp (rI0 fun i j => .int (i - j)) (tVar 1) (tC (.int 1))) (gName 1))) tNext)
            D [some (.ref s0), some (.int (m : Nat)), some (.ref t), some (.int most), some (.ref o), some (.ref u), some (.int (2 + r1)), v7, v8] H4 := by
        intro H4 ch4 hs4 hu4 ho4 hev4 v7 v8 D hD
        refine ⟨_, rfl, _, _, rfl, rfl, _, rfl, ite2 (fun hm => ?_) (fun hm => ?_)⟩
        · have hm : (0 : Int) < (m : Nat) := of_decide_eq_true hm
          refine ⟨.ref o, rfl, .inl ⟨rfl, _, .inl (.inl ho4)⟩, by show 1 ≤ sizeLine; decide, fun e he => ?_⟩
          have heo : o ≠ e := ne_of_none ho4 he
          have heu : u ≠ e := ne_of_none hu4 he
          have hes : s0 ≠ e := ne_of_none hs4 he
          have he0 : H e = none := ch4.free hs ⟨_, hs4⟩ he
          refine ⟨o, _, _, rfl, rfl, by rw [upd_ne heo]; exact ho4, lenA, ?_⟩
          refine ⟨_, rfl, _, _, rfl, rfl, hD _ _ ⟨l3, as ++ [e], es ++ [.out], k, m - 1, v7, v8, ?_, (ch4.new he0).new ho, hi, ?_, ?_, ?_, ?_, ?_, ?_, ?_, ?_, ?_⟩⟩
          · show [some (V.ref s0), some (V.int (((m : Nat) : Int) - 1)), some (V.ref t), some (V.int most), some (V.ref o), some (V.ref u), some (V.int (2 + r1)), v7, v8] = _
            rw [show ((m : Nat) : Int) - 1 = ((m - 1 : Nat) : Int) by omega]
          · rw [upd_ne hos.symm, upd_ne hes]
            exact hs4
          · rw [show n + 2 + (i + 1) = n + 2 + i + 1 by omega]
            exact hl3
          · rw [upd_ne huo, upd_ne heu]
            exact hu4
          · rw [upd_same, List.map_append]
            rfl
          · refine Paired.snoc ?_ ?_
            · exact (hev4.kt (KT.upd fun xs e' => by rw [he] at e'; cases e')).kt (KT.upd fun xs e' => by rw [upd_ne heo, ho4] at e'; cases e')
            · show (upd _ _ _) e = _
              rw [upd_ne heo.symm, upd_same]
              rfl
          · intro b hb
            rcases List.mem_append.mp hb with hb | hb
            · exact hfr b hb
            · rw [List.mem_singleton.mp hb]
              exact he0
          · rw [List.length_append]
            show es.length + 1 ≤ _
            omega
          · rw [arrs_app, har]
            show zs.take k ++ [] = _
            rw [List.append_nil]
          · rw [cnt_snoc _ _ _ _ hct]
            show (if 0 < m then some (m - 1) else none) = _
            rw [if_pos (by omega)]
        · exact hD _ _ ⟨l3, as, es, k, m, v7, v8, rfl, ch4, hi, hs4, by rw [show n + 2 + (i + 1) = n + 2 + i + 1 by omega]; exact hl3, hu4, ho4, hev4, hfr, by omega, har, hct⟩
      -- if left != [] and present < 40 and (present == 0 or arrives)
      refine ⟨.ref u, rfl, Nat.zero_le _, fun e0 he0 => ?_⟩
      have hE0 : H e0 = none := ch3.free hs ⟨_, hs3⟩ he0
      have n0o : o ≠ e0 := ne_of_none ho3 he0
      have n0u : u ≠ e0 := ne_of_none hu3 he0
      have n0s : s0 ≠ e0 := ne_of_none hs3 he0
      have hu5 : (upd H3 e0 (.lst [])) u = some (.lst ((zs.drop k).map V.str)) := by rw [upd_ne n0u]; exact hu3
      have ho5 : (upd H3 e0 (.lst [])) o = some (.lst (as.map V.ref)) := by rw [upd_ne n0o]; exact ho3
      have hs5 : (upd H3 e0 (.lst [])) s0 = some (.lst l3) := by rw [upd_ne n0s]; exact hs3
      have ch5 := ch3.new (o := .lst []) hE0
      have hev5 : EvT (upd H3 e0 (.lst [])) as es := hev3.kt (KT.upd fun xs e' => by rw [he0] at e'; cases e')
      refine ⟨.list ((zs.drop k).map PyData.str), .list [], .lst (.inl (.inl hu5)) (dp_strs _), .lst (.inl (.inl upd_same)) .nil, shaped_strs _ fun x hx => car_ok (hzc x (List.mem_of_mem_drop hx)), by decide +kernel, ?_⟩
      rw [eqv_nil]
      generalize upd H3 e0 (.lst []) = H5 at *
      have skip : ∀ v7 v8 : Option V, _ := fun v7 v8 => els H5 ch5 hs5 hu5 ho5 hev5 v7 v8
      refine ⟨_, rfl, ?_⟩
      cases hdr : zs.drop k with
      | nil => exact iteF (iteF (skip _ _ _ fun σ H' h => h))
      | cons c rest =>
        have hk : zs[k]? = some c := by
          have : (zs.drop k)[0]? = some c := by rw [hdr]; rfl
          rw [List.getElem?_drop] at this
          exact this
        have hrest : rest = zs.drop (k + 1) := by
          have : (zs.drop k).drop 1 = rest := by rw [hdr]; rfl
          rw [List.drop_drop] at this
          exact this.symm
        rw [hdr] at hu5
        have yes : ∀ v7 v8 : Option V, ∀ D : Ends, (∀ σ H', HapInv H s0 t o u n n0 most zs r1 r2.toNat (i + 1) σ H' → D.nx σ H') →
            (tSeq (tDrop (tBM K "list" rAppend (tVar 4) (tCons (tTup (tCons (tC (.str "in")) (tCons (tBM K "list" rPopAt (tVar 5) (tCons (tC (.int 0)) tNil)) tNil))) tNil))) (tAsg (tOp (rI0 fun i j => .int (i + j)) (tVar 1) (tC (.int 1))) (gName 1)))
              D [some (.ref s0), some (.int (m : Nat)), some (.ref t), some (.int most), some (.ref o), some (.ref u), some (.int (2 + r1)), v7, v8] H5 := by
          intro v7 v8 D hD
          refine ⟨.ref o, rfl, .inl ⟨rfl, _, .inl (.inl ho5)⟩, .ref u, rfl, .inl ⟨rfl, _, .inl (.inl hu5)⟩, u, _, 0, 0, V.str c, rfl, rfl, hu5, by decide, by decide, ?_, rfl, by show 2 ≤ sizeLine; decide, fun e he => ?_⟩
          · exact (ixN_seq (i := 0) (j := 0) (by unfold ixN; rw [if_pos (by decide), if_pos (by rw [List.length_map, List.length_cons]; omega)]; rfl)).1
          have heu : e ≠ u := fun z => by
            rw [z, upd_same] at he
            cases he
          rw [upd_ne heu] at he
          have heo : o ≠ e := ne_of_none ho5 he
          have hes : s0 ≠ e := ne_of_none hs5 he
          have he0 : H e = none := ch5.free hs ⟨_, hs5⟩ he
          refine ⟨o, _, _, rfl, rfl, by rw [upd_ne heo, upd_ne huo.symm]; exact ho5, lenA, ?_⟩
          refine ⟨_, rfl, _, _, rfl, rfl, hD _ _ ⟨l3, as ++ [e], es ++ [.inn c], k + 1, m + 1, v7, v8, rfl, ((ch5.new hu1).new he0).new ho, hi, ?_, ?_, ?_, ?_, ?_, ?_, ?_, ?_, ?_⟩⟩
          · rw [upd_ne hos.symm, upd_ne hes, upd_ne hus.symm]
            exact hs5
          · rw [show n + 2 + (i + 1) = n + 2 + i + 1 by omega]
            exact hl3
          · rw [upd_ne huo, upd_ne heu.symm, upd_same, ← hrest]
            rfl
          · rw [upd_same, List.map_append]
            rfl
          · refine Paired.snoc ?_ ?_
            · exact ((hev5.kt (KT.upd fun xs e' => by rw [hu5] at e'; cases e')).kt (KT.upd fun xs e' => by rw [upd_ne heu, he] at e'; cases e')).kt (KT.upd fun xs e' => by rw [upd_ne heo, upd_ne huo.symm, ho5] at e'; cases e')
            · show (upd _ _ _) e = _
              rw [upd_ne heo.symm, upd_same]
              rfl
          · intro b hb
            rcases List.mem_append.mp hb with hb | hb
            · exact hfr b hb
            · rw [List.mem_singleton.mp hb]
              exact he0
          · rw [List.length_append]
            show es.length + 1 ≤ _
            omega
          · rw [arrs_app, har, List.take_add_one, hk]
            rfl
          · rw [cnt_snoc _ _ _ _ hct]
            rfl
        refine iteT ⟨_, rfl, _, _, rfl, rfl, _, rfl, ite2 (fun h40 => ?_) (fun h40 => ?_)⟩
        · refine ⟨_, rfl, rfl, _, rfl, ite2 (fun hm0 => ?_) (fun hm0 => ?_)⟩
          · exact iteT (yes _ _ _ fun σ H' h => h)
          · refine ⟨_, rfl, _, rfl, ite2 (fun ha => ?_) (fun ha => ?_)⟩
            · exact yes _ _ _ fun σ H' h => h
            · exact skip _ _ _ fun σ H' h => h
        · exact iteF (skip _ _ _ fun σ H' h => h)
    · rintro σ H' ⟨l', as, es, k, m, v7, v8, rfl, ch, _, hs', hl', hu', ho', hev, hfr, hel, har, hct⟩
      exact ⟨.ref o, rfl, q H' o as es k m l' ch ho hfr (by omega) har hct (hl'.mono (by omega)) hs' ho' hev⟩
end
end Ln


set_option Elab.async false
set_option linter.all false
set_option maxRecDepth 100000
set_option maxHeartbeats 4000000
namespace Ln
open PySem PySem.Spec PyProof.Rows L2 GxR
/-! ### cars, lanes and logs that are right -/
theorem logB_cars : ∀ (es : List Ev) (us : List Str) (n : Nat), logB us n es = true → ∀ c ∈ arrs es, carB c = true
  | .inn c :: r, us, n, h, d, hd => by
    have h : (if carB c = true ∧ ¬ c ∈ us then logB (c :: us) (n + 1) r else false) = true := h
    by_cases q : carB c = true ∧ ¬ c ∈ us
    · rw [if_pos q] at h
      rcases List.mem_cons.mp (show d ∈ c :: arrs r from hd) with e | e
      · rw [e]
        exact q.1
      · exact logB_cars r _ _ h d e
    · rw [if_neg q] at h
      cases h
  | .out :: r, us, n, h, d, hd => by
    have h : (if 0 < n then logB us (n - 1) r else false) = true := h
    by_cases q : 0 < n
    · rw [if_pos q] at h
      exact logB_cars r _ _ h d hd
    · rw [if_neg q] at h
      cases h
theorem mem_arrs {c : Str} : ∀ {es : List Ev}, Ev.inn c ∈ es → c ∈ arrs es
  | .inn d :: r, h => by
    rcases List.mem_cons.mp h with e | e
    · injection e with e
      rw [e]
      exact List.mem_cons_self
    · exact List.mem_cons_of_mem _ (mem_arrs e)
  | .out :: r, h => by
    rcases List.mem_cons.mp h with e | e
    · cases e
    · exact mem_arrs (es := r) e
theorem carLen {x : Str} (h : carB x = true) : x.length ≤ 4 := by
  unfold carB at h
  rw [Bool.and_eq_true, Bool.and_eq_true] at h
  exact of_decide_eq_true h.1.2
theorem car_sz {x : Str} (h : carB x = true) : x.length ≤ sizeLine := Nat.le_trans (carLen h) (by decide)
theorem carsOf {xs : List Str} (h : laneB xs = true) : ∀ x ∈ xs, carB x = true := fun x hx => by
  unfold Ln.laneB at h
  rw [Bool.and_eq_true] at h
  exact List.all_eq_true.mp h.1 x hx
theorem shapedT (xs : List Str) (h : ∀ x ∈ xs, carB x = true) : SeqAt.shaped (.tuple (xs.map PyData.str)) = true := by
  unfold SeqAt.shaped
  rw [Bool.and_eq_true]
  refine ⟨by rw [PyData.canLay0]; exact lay_strs xs fun x hx => car_ok (h x hx), decide_eq_true ?_⟩
  have := dep_strs xs
  simp only [PyData.depth]
  omega
theorem logB_sub : ∀ (es : List Ev) (us vs : List Str) (n : Nat), (∀ u ∈ vs, u ∈ us) → logB us n es = true → logB vs n es = true
  | [], _, _, _, _, _ => rfl
  | .inn c :: r, us, vs, n, hs, h => by
    have h : (if carB c = true ∧ ¬ c ∈ us then logB (c :: us) (n + 1) r else false) = true := h
    show (if carB c = true ∧ ¬ c ∈ vs then logB (c :: vs) (n + 1) r else false) = true
    by_cases q : carB c = true ∧ ¬ c ∈ us
    · rw [if_pos q] at h
      rw [if_pos ⟨q.1, fun z => q.2 (hs c z)⟩]
      refine logB_sub r (c :: us) (c :: vs) (n + 1) (fun u hu => ?_) h
      rcases List.mem_cons.mp hu with e | e
      · rw [e]
        exact List.mem_cons_self
      · exact List.mem_cons_of_mem _ (hs u e)
    · rw [if_neg q] at h
      cases h
  | .out :: r, us, vs, n, hs, h => by
    have h : (if 0 < n then logB us (n - 1) r else false) = true := h
    show (if 0 < n then logB vs (n - 1) r else false) = true
    by_cases q : 0 < n
    · rw [if_pos q] at h ⊢
      exact logB_sub r us vs (n - 1) hs h
    · rw [if_neg q] at h
      cases h
/-- no car arrives twice -/
theorem logB_nodup : ∀ (es : List Ev) (us : List Str) (n : Nat), logB us n es = true → us.Nodup → (us ++ arrs es).Nodup
  | [], us, n, _, hu => by
    show (us ++ []).Nodup
    rw [List.append_nil]
    exact hu
  | .inn c :: r, us, n, h, hu => by
    have h : (if carB c = true ∧ ¬ c ∈ us then logB (c :: us) (n + 1) r else false) = true := h
    by_cases q : carB c = true ∧ ¬ c ∈ us
    · rw [if_pos q] at h
      have ih := logB_nodup r (c :: us) (n + 1) h (List.nodup_cons.mpr ⟨q.2, hu⟩)
      exact (List.perm_middle (a := c) (l₁ := us) (l₂ := arrs r)).symm.nodup_iff.mp ih
    · rw [if_neg q] at h
      cases h
  | .out :: r, us, n, h, hu => by
    have h : (if 0 < n then logB us (n - 1) r else false) = true := h
    by_cases q : 0 < n
    · rw [if_pos q] at h
      exact logB_nodup r us (n - 1) h hu
    · rw [if_neg q] at h
      cases h
theorem laneB_nodup {xs : List Str} (h : laneB xs = true) : xs.Nodup := by
  unfold laneB at h
  rw [Bool.and_eq_true] at h
  exact of_decide_eq_true h.2
theorem laneB_rev {xs : List Str} (h : laneB xs = true) : laneB xs.reverse = true := by
  unfold laneB
  rw [Bool.and_eq_true]
  exact ⟨List.all_eq_true.mpr fun x hx => carsOf h x (List.mem_reverse.mp hx), decide_eq_true ((List.reverse_perm xs).nodup_iff.mpr (laneB_nodup h))⟩
end Ln


set_option Elab.async false
set_option linter.all false
set_option maxRecDepth 100000
set_option maxHeartbeats 4000000
namespace Ln
open PySem PySem.Spec PyProof.Rows L2 GxR
/-! ### values of any plain kind -/
mutual
inductive Dv (K : PySem.W.Frag) (H : Hp) : V → PyData → Prop
  | non : Dv K H .non .none
  | bl (b : Bool) : Dv K H (.bl b) (.bool b)
  | int (i : Int) : Dv K H (.int i) (.int i)
  | str (x : Str) (h : x.length ≤ sizeLine) : Dv K H (.str x) (.str x)
  | lst {a : Addr} {xs : List V} {ds : List PyData} : SqL K H a xs → DvAll K H xs ds → Dv K H (.ref a) (.list ds)
  | tup {a : Addr} {xs : List V} {ds : List PyData} : SqT K H a xs → DvAll K H xs ds → Dv K H (.ref a) (.tuple ds)
  | dic {a : Addr} : H a = some (.dK []) → Dv K H (.ref a) (.dict [])
inductive DvAll (K : PySem.W.Frag) (H : Hp) : List V → List PyData → Prop
  | nil : DvAll K H [] []
  | cons {v : V} {vs : List V} {d : PyData} {ds : List PyData} : Dv K H v d → DvAll K H vs ds → DvAll K H (v :: vs) (d :: ds)
end
/-- the built-in type of a value -/
def tyD : PyData → String
  | .none => "NoneType"
  | .bool _ => "bool"
  | .int _ => "int"
  | .str _ => "str"
  | .list _ => "list"
  | .tuple _ => "tuple"
  | .dict _ => "dict"
theorem Dv.ty {K : PySem.W.Frag} {H : Hp} {v : V} {d : PyData} (h : Dv K H v d) : TyX K H v (.type (tyD d)) := by
  cases h with
  | non => exact .base .non
  | bl b => exact .base (.bl b)
  | int i => exact .base (.int i)
  | str x _ => exact .base (.str x)
  | lst s _ => exact tyx_lst s
  | tup s _ => exact tyx_tup s
  | dic e => exact .base (.dK e)
def isTup : PyData → Bool
  | .tuple _ => true
  | _ => false
def isLst : PyData → Bool
  | .list _ => true
  | _ => false
def isStr : PyData → Bool
  | .str _ => true
  | _ => false
theorem kit_tup : ∀ d : PyData, kitB (tyD d) "tuple" = some (isTup d)
  | .none => show kitB "NoneType" "tuple" = some false by decide +kernel
  | .bool _ => show kitB "bool" "tuple" = some false by decide +kernel
  | .int _ => show kitB "int" "tuple" = some false by decide +kernel
  | .str _ => show kitB "str" "tuple" = some false by decide +kernel
  | .list _ => show kitB "list" "tuple" = some false by decide +kernel
  | .tuple _ => show kitB "tuple" "tuple" = some true by decide +kernel
  | .dict _ => show kitB "dict" "tuple" = some false by decide +kernel
theorem kit_lst : ∀ d : PyData, kitB (tyD d) "list" = some (isLst d)
  | .none => show kitB "NoneType" "list" = some false by decide +kernel
  | .bool _ => show kitB "bool" "list" = some false by decide +kernel
  | .int _ => show kitB "int" "list" = some false by decide +kernel
  | .str _ => show kitB "str" "list" = some false by decide +kernel
  | .list _ => show kitB "list" "list" = some true by decide +kernel
  | .tuple _ => show kitB "tuple" "list" = some false by decide +kernel
  | .dict _ => show kitB "dict" "list" = some false by decide +kernel
theorem kit_str : ∀ d : PyData, kitB (tyD d) "str" = some (isStr d)
  | .none => show kitB "NoneType" "str" = some false by decide +kernel
  | .bool _ => show kitB "bool" "str" = some false by decide +kernel
  | .int _ => show kitB "int" "str" = some false by decide +kernel
  | .str _ => show kitB "str" "str" = some true by decide +kernel
  | .list _ => show kitB "list" "str" = some false by decide +kernel
  | .tuple _ => show kitB "tuple" "str" = some false by decide +kernel
  | .dict _ => show kitB "dict" "str" = some false by decide +kernel
section
variable {K : PySem.W.Frag} {H H1 : Hp} {Ps : List Addr}
theorem sqL_sm {a : Addr} {xs : List V} (h : SqL K H a xs) (k : L2.Same H H1) : SqL K H1 a xs := by
  rcases h with (e | ⟨ob, e⟩) | e
  · exact .inl (.inl (k _ _ e))
  · exact .inl (.inr ⟨ob, k _ _ e⟩)
  · exact .inr e
theorem sqT_sm {a : Addr} {xs : List V} (h : SqT K H a xs) (k : L2.Same H H1) : SqT K H1 a xs := by
  rcases h with (e | ⟨ob, e⟩) | e
  · exact .inl (.inl (k _ _ e))
  · exact .inl (.inr ⟨ob, k _ _ e⟩)
  · exact .inr e
mutual
theorem Dv.same (k : L2.Same H H1) : ∀ {v : V} {d : PyData}, Dv K H v d → Dv K H1 v d
  | _, _, .non => .non
  | _, _, .bl b => .bl b
  | _, _, .int i => .int i
  | _, _, .str x h => .str x h
  | _, _, .lst s a => .lst (sqL_sm s k) (DvAll.same k a)
  | _, _, .tup s a => .tup (sqT_sm s k) (DvAll.same k a)
  | _, _, .dic e => .dic (k _ _ e)
theorem DvAll.same (k : L2.Same H H1) : ∀ {vs : List V} {ds : List PyData}, DvAll K H vs ds → DvAll K H1 vs ds
  | _, _, .nil => .nil
  | _, _, .cons a b => .cons (Dv.same k a) (DvAll.same k b)
end
mutual
theorem Dv.kp (k : Kp Ps H H1) (hT : Tabs Ps H) : ∀ {v : V} {d : PyData}, Dv K H v d → Dv K H1 v d
  | _, _, .non => .non
  | _, _, .bl b => .bl b
  | _, _, .int i => .int i
  | _, _, .str x h => .str x h
  | _, _, .lst s a => .lst (k.seqL hT s) (DvAll.kp k hT a)
  | _, _, .tup s a => .tup (k.seqT hT s) (DvAll.kp k hT a)
  | _, _, .dic e => .dic (k.at_ _ _ e (tab_ne hT e fun q z => by cases z))
theorem DvAll.kp (k : Kp Ps H H1) (hT : Tabs Ps H) : ∀ {vs : List V} {ds : List PyData}, DvAll K H vs ds → DvAll K H1 vs ds
  | _, _, .nil => .nil
  | _, _, .cons a b => .cons (Dv.kp k hT a) (DvAll.kp k hT b)
end
theorem DvAll.len : ∀ {vs : List V} {ds : List PyData}, DvAll K H vs ds → vs.length = ds.length
  | _, _, .nil => rfl
  | _, _, .cons _ b => by rw [List.length_cons, List.length_cons, DvAll.len b]
theorem DvAll.at_ : ∀ {vs : List V} {ds : List PyData}, DvAll K H vs ds → ∀ {i : Nat} {d : PyData}, ds[i]? = some d → ∃ v, vs[i]? = some v ∧ Dv K H v d
  | _, _, .nil, i, d, h => by simp at h
  | _, _, .cons a b, 0, d, h => by
    cases h
    exact ⟨_, rfl, a⟩
  | _, _, .cons a b, i + 1, d, h => DvAll.at_ b (i := i) h
/-- parts that are all texts -/
def strsD : List PyData → Option (List Str)
  | [] => some []
  | .str x :: r => (strsD r).map (x :: ·)
  | _ :: _ => none
theorem DvAll.strs : ∀ {vs : List V} {ds : List PyData} {xs : List Str}, DvAll K H vs ds → strsD ds = some xs → vs = xs.map V.str ∧ ds = xs.map PyData.str ∧ ∀ x ∈ xs, x.length ≤ sizeLine
  | _, _, xs, .nil, h => by
    cases h
    exact ⟨rfl, rfl, fun _ h => nomatch h⟩
  | _, d :: ds, xs, .cons a b, h => by
    cases a with
    | str x hx =>
      have h : (strsD ds).map (x :: ·) = some xs := h
      cases q : strsD ds with
      | none => rw [q] at h; cases h
      | some ys =>
        rw [q] at h
        cases h
        obtain ⟨e1, e2, e3⟩ := DvAll.strs b q
        refine ⟨by rw [e1]; rfl, by rw [e2]; rfl, fun y hy => ?_⟩
        rcases List.mem_cons.mp hy with e | e
        · rw [e]; exact hx
        · exact e3 y e
    | _ => cases h
end
def carD : PyData → Bool
  | .str x => carB x
  | _ => false
def laneD : PyData → Bool
  | .tuple ds => match strsD ds with
    | some xs => laneB xs
    | none => false
  | _ => false
theorem strs_of_cars : ∀ {ds : List PyData}, ds.all carD = true → ∃ xs, strsD ds = some xs
  | [], _ => ⟨[], rfl⟩
  | d :: r, h => by
    rw [List.all_cons, Bool.and_eq_true] at h
    obtain ⟨xs, e⟩ := strs_of_cars h.2
    cases d with
    | str x => exact ⟨x :: xs, by show (strsD r).map (x :: ·) = _; rw [e]; rfl⟩
    | _ => exact (Bool.false_ne_true h.1).elim
theorem fn_or {P : Program} {w : World} {mg : Str → Option Value} {base : Heap} {K : PySem.W.Frag} {CX : CXT} {k : Nat} {f : Addr} {fd : FuncData} {ps : List Str} {s1 s2 : Sp} (h1 : FnOk P w K mg base CX k f fd ps s1) (h2 : FnOk P w K mg base CX k f fd ps s2) : FnOk P w K mg base CX k f fd ps fun vs H Q E => s1 vs H Q E ∨ s2 vs H Q E :=
  ⟨fun vs H Q E h => h.elim (h1.len vs H Q E) (h2.len vs H Q E), fun A outer s H args us vs Q E hr he hb hv hs => hs.elim (h1.run A outer s H args us vs Q E hr he hb hv) (h2.run A outer s H args us vs Q E hr he hb hv)⟩
section
variable {P : Program} {w : World} {K : PySem.W.Frag} {mg : Str → Option Value} {base : Heap} {Ps : List Addr}
/-- what is not a text is no car -/
def spCarN (K : PySem.W.Frag) : Sp := fun vs H Q _ => ∃ (v : V) (d : PyData), vs = [v] ∧ Dv K H v d ∧ isStr d = false ∧ Q (.bl false) H
theorem ok_carN {f c P1 : Addr} {fd : FuncData} (F : FunC K "is_car" "is_car" sIsCar f fd c) (B : Bi mg) (TB : TabB base mg c P1) (hP : P1 ∈ Ps) : FnOk P w K mg base CX0 2 f fd ["value"] (spCarN K) := by
  refine F.ok scIsCar (fun vs H Q E h => ?_) (fun A outer s H vs Q E hr h => ?_)
  · obtain ⟨z, d, rfl, _⟩ := h
    rfl
  · obtain ⟨z, d, rfl, hd, hn, q⟩ := h
    refine ⟨_, pss_cons (ps_if (PW.pt (pw_or (pt_not (pt_val (pe_callB call_isi (by rfl) B.isi (by decide +kernel) (pa_cons (pv 0) (pa_cons (pe_bltn (by rfl) B.str (by decide +kernel) (v := .ty "str") rfl) pa_nil)))))
        (pw_or1 (pt_not (pt_chain op_le op_le pe_int (pe_callB call_len_str (by rfl) B.len PySem.boot_len (pa_cons (pv 0) pa_nil)) pe_int)))))
        (pss_one (ps_ret pe_bl)) pss_nil)
      (pss_one (ps_ret (pe_allG (k := 0) hr rfl (by rfl) B.all TB rfl ⟨rfl, rfl, by decide +kernel, by decide +kernel, rfl, rfl⟩ (pi_str (pv 0))
        (fun _ _ _ _ _ _ _ _ _ => pe_chain op_le_str op_le_str pe_str (pv 0) pe_str)))), ?_⟩
    refine ⟨_, rfl, z, .ty "str", .type (tyD d), .type "str", isStr d, rfl, .ty _, hd.ty, kit_ty (kit_str d), isStr d, rfl, ?_⟩
    rw [hn]
    exact iteT q
def spCarA (K : PySem.W.Frag) (Ps : List Addr) : Sp := fun vs H Q _ => ∃ (v : V) (d : PyData), vs = [v] ∧ Dv K H v d ∧ Tabs Ps H ∧ ∀ H', Kp Ps H H' → Q (.bl (carD d)) H'
theorem ok_carA {f : Addr} {fd : FuncData} (h1 : FnOk P w K mg base CX0 2 f fd ["value"] (spCar Ps)) (h2 : FnOk P w K mg base CX0 2 f fd ["value"] (spCarN K)) : FnOk P w K mg base CX0 2 f fd ["value"] (spCarA K Ps) :=
  (fn_or h1 h2).imp fun vs H Q E ⟨v, d, e, hd, hT, q⟩ => by
    cases hd with
    | str x hx => exact .inl ⟨x, e, hx, hT, q⟩
    | non => exact .inr ⟨_, _, e, .non, rfl, q H (Kp.refl hT)⟩
    | bl b => exact .inr ⟨_, _, e, .bl b, rfl, q H (Kp.refl hT)⟩
    | int i => exact .inr ⟨_, _, e, .int i, rfl, q H (Kp.refl hT)⟩
    | lst s a => exact .inr ⟨_, _, e, .lst s a, rfl, q H (Kp.refl hT)⟩
    | tup s a => exact .inr ⟨_, _, e, .tup s a, rfl, q H (Kp.refl hT)⟩
    | dic z => exact .inr ⟨_, _, e, .dic z, rfl, q H (Kp.refl hT)⟩
/-- is_lane of what is no tuple of texts -/
def spLaneN (K : PySem.W.Frag) (Ps : List Addr) : Sp := fun vs H Q _ => ∃ (v : V) (d : PyData), vs = [v] ∧ Dv K H v d ∧ (∀ ds, d = .tuple ds → strsD ds = none) ∧ Tabs Ps H ∧ ∀ H', Kp Ps H H' → Q (.bl false) H'
theorem ok_laneN {f c P1 fC : Addr} {fd fdC : FuncData} (F : FunC K "is_lane" "is_lane" sIsLane f fd c) (B : Bi mg) (TB : TabB base mg c P1) (hP : P1 ∈ Ps)
    (GC : FnOk P w K mg base CX0 2 fC fdC ["value"] (spCarA K Ps)) (mgC : mg "is_car" = some (.ref fC)) (kC : PySem.W.keepIn K (.ref fC) = true) (bC : Binds K fdC ["value"] []) : FnOk P w K mg base CX0 4 f fd ["value"] (spLaneN K Ps) := by
  refine F.ok scIsLane (fun vs H Q E h => ?_) (fun A outer s H vs Q E hr h => ?_)
  · obtain ⟨a, d, rfl, _⟩ := h
    rfl
  · obtain ⟨v, d, rfl, hd, hn, hT, q⟩ := h
    refine ⟨_, pss_cons (ps_if (PW.pt (pw_or (pt_not (pt_val (pe_callB call_isi (by rfl) B.isi (by decide +kernel) (pa_cons (pv 0) (pa_cons (pe_bltn (by rfl) B.tup (by decide +kernel) (v := .ty "tuple") rfl) pa_nil)))))
        (pw_or1 (pt_not (pt_val (pe_allG (k := 2) hr rfl (by rfl) B.all TB rfl ⟨rfl, rfl, by decide +kernel, by decide +kernel, rfl, rfl⟩ (pi_tup (pv 0))
          (fun _ _ _ _ _ _ _ _ hk => pe_call GC hk rfl mgC kC bC .nil pass0 (pa_cons (pv 0) pa_nil))))))))
        (pss_one (ps_ret pe_bl)) pss_nil)
      (pss_one (ps_ret (pe_cmpR op_eq (pe_callB call_len_setK (by rfl) B.len PySem.boot_len (pa_cons (pe_callTy (cr_setT rfl) (by rfl) B.set (by decide +kernel) (pa_cons (pv 0) pa_nil)) pa_nil))
        (pe_callB call_len_seq (by rfl) B.len PySem.boot_len (pa_cons (pv 0) pa_nil)) (nomark _)))), ?_⟩
    refine ⟨_, rfl, v, .ty "tuple", .type (tyD d), .type "tuple", isTup d, rfl, .ty _, hd.ty, kit_ty (kit_tup d), isTup d, rfl, ?_⟩
    by_cases ht : isTup d = true
    · rw [ht]
      refine iteF ?_
      cases hd with
      | @tup a xs ds hS hA =>
        have hno := hn ds rfl
        refine ⟨.ref a, rfl, a, rfl, ⟨_, hS⟩, hT P1 hP, fun i m H' => m = ds.length - i ∧ Kp Ps H H' ∧ i ≤ ds.length ∧ (ds.take i).all carD = true, fun H2 hH => ⟨ds.length, by omega, Kp.tabbed hT hP hH, Nat.zero_le _, rfl⟩, fun i m H' hW => ?_⟩
        obtain ⟨rfl, kp, hi, hall⟩ := hW
        have hS' := kp.seqT hT hS
        have hlx := hA.len
        by_cases hlt : i < ds.length
        · obtain ⟨y, hx, hy⟩ := hA.at_ (List.getElem?_eq_getElem hlt)
          refine .inr ⟨⟨_, _, hS', hx⟩, fun v H3 hyv => ?_⟩
          obtain ⟨rfl, fv⟩ := hyv
          obtain rfl : v = y := Option.some.inj ((fv _ hS').symm.trans hx)
          refine ⟨_, rfl, _, _, rfl, hy.kp kp hT, kp.tab, fun H4 kp4 => ⟨_, rfl, ?_⟩⟩
          refine ite2 (fun hc => ?_) (fun hc => ?_)
          · refine ⟨_, ?_, rfl, kp.trans kp4, hlt, ?_⟩
            · omega
            · rw [List.take_add_one, List.getElem?_eq_getElem hlt, List.all_append, hall]
              simp [hc]
          · exact ⟨false, rfl, iteT (q H4 (kp.trans kp4))⟩
        · exfalso
          rw [List.take_of_length_le (by omega)] at hall
          obtain ⟨zs, hz⟩ := strs_of_cars hall
          rw [hno] at hz
          cases hz
      | _ => cases ht
    · have ht : isTup d = false := by simpa using ht
      rw [ht]
      exact iteT (q H (Kp.refl hT))
def spLaneA (K : PySem.W.Frag) (Ps : List Addr) : Sp := fun vs H Q _ => ∃ (v : V) (d : PyData), vs = [v] ∧ Dv K H v d ∧ (∀ ds, d = .tuple ds → ds.length ≤ 1000) ∧ Tabs Ps H ∧ ∀ H', Kp Ps H H' → Q (.bl (laneD d)) H'
theorem ok_laneA {f : Addr} {fd : FuncData} (h1 : FnOk P w K mg base CX0 4 f fd ["value"] (spLane K Ps)) (h2 : FnOk P w K mg base CX0 4 f fd ["value"] (spLaneN K Ps)) : FnOk P w K mg base CX0 4 f fd ["value"] (spLaneA K Ps) :=
  (fn_or h1 h2).imp fun vs H Q E ⟨v, d, e, hd, hl, hT, q⟩ => by
    cases hd with
    | @tup a xs ds s al =>
      cases hs : strsD ds with
      | some ys =>
        obtain ⟨e1, e2, e3⟩ := al.strs hs
        subst e1
        have q : ∀ H', Kp Ps H H' → Q (.bl (match strsD ds with | some xs => laneB xs | none => false)) H' := q
        rw [hs] at q
        refine .inl ⟨a, ys, e, s, ?_, e3, hT, q⟩
        have := hl ds rfl
        rw [e2, List.length_map] at this
        exact this
      | none =>
        have q : ∀ H', Kp Ps H H' → Q (.bl (match strsD ds with | some xs => laneB xs | none => false)) H' := q
        rw [hs] at q
        exact .inr ⟨_, _, e, .tup s al, (fun ds2 e2 => by cases e2; exact hs), hT, q⟩
    | str x hx => exact .inr ⟨_, _, e, .str x hx, (fun _ z => nomatch z), hT, q⟩
    | non => exact .inr ⟨_, _, e, .non, (fun _ z => nomatch z), hT, q⟩
    | bl b => exact .inr ⟨_, _, e, .bl b, (fun _ z => nomatch z), hT, q⟩
    | int i => exact .inr ⟨_, _, e, .int i, (fun _ z => nomatch z), hT, q⟩
    | lst s a => exact .inr ⟨_, _, e, .lst s a, (fun _ z => nomatch z), hT, q⟩
    | dic z => exact .inr ⟨_, _, e, .dic z, (fun _ z => nomatch z), hT, q⟩
end
end Ln


set_option Elab.async false
set_option linter.all false
set_option maxRecDepth 100000
set_option maxHeartbeats 4000000
namespace Ln
open PySem PySem.Spec PyProof.Rows L2 GxR
/-! ### events and logs of any plain kind -/
def hasWD (wd : Str) (n : Nat) : PyData → Bool
  | .tuple (.str y :: ds) => decide (ds.length + 1 = n) && decide (y = wd)
  | _ => false
def arrBD : PyData → Bool
  | .tuple [.str y, d] => decide (y = "in") && carD d
  | _ => false
def depBD : PyData → Bool
  | .tuple [.str y] => decide (y = "out")
  | _ => false
theorem depBD_has (d : PyData) : depBD d = hasWD "out" 1 d := by
  match d with
  | .tuple [.str y] => show _ = (decide (0 + 1 = 1) && decide (y = "out")); rw [decide_eq_true rfl, Bool.true_and]; rfl
  | .tuple (.str y :: e :: r) => show false = (decide ((e :: r).length + 1 = 1) && decide (y = "out")); rw [decide_eq_false (by rw [List.length_cons]; omega), Bool.false_and]
  | .tuple [] => rfl
  | .tuple (.none :: _) => rfl
  | .tuple (.bool _ :: _) => rfl
  | .tuple (.int _ :: _) => rfl
  | .tuple (.list _ :: _) => rfl
  | .tuple (.tuple _ :: _) => rfl
  | .tuple (.dict _ :: _) => rfl
  | .none => rfl
  | .bool _ => rfl
  | .int _ => rfl
  | .str _ => rfl
  | .list _ => rfl
  | .dict _ => rfl
theorem has2 {wd : Str} {d : PyData} (h : hasWD wd 2 d = true) : ∃ e, d = .tuple [.str wd, e] := by
  match d, h with
  | .tuple (.str y :: r), h =>
    have h : (decide (r.length + 1 = 2) && decide (y = wd)) = true := h
    rw [Bool.and_eq_true] at h
    have h1 := of_decide_eq_true h.1
    have h2 := of_decide_eq_true h.2
    match r, h1 with
    | [e], _ => exact ⟨e, by rw [h2]⟩
    | [], h1 => exact absurd h1 (by decide)
    | _ :: _ :: _, h1 => exact absurd h1 (by rw [List.length_cons, List.length_cons]; omega)
theorem arr_has {d : PyData} (h : hasWD "in" 2 d = false) : arrBD d = false := by
  cases q : arrBD d with
  | false => rfl
  | true =>
    match d, q with
    | .tuple [.str y, e], q =>
      have q : (decide (y = "in") && carD e) = true := q
      rw [Bool.and_eq_true] at q
      have h : (decide (1 + 1 = 2) && decide (y = "in")) = false := h
      rw [q.1] at h
      cases h
def carO : PyData → Option Str
  | .tuple [_, .str c] => some c
  | _ => none
/-- may the values be a log, the cars used, n present -/
def logW : List Str → Nat → List PyData → Bool
  | _, _, [] => true
  | u, n, d :: r => if arrBD d = true then (carO d).elim false (fun c => if ¬ c ∈ u then logW (c :: u) (n + 1) r else false) else if depBD d = true then (if 0 < n then logW u (n - 1) r else false) else false
theorem logW_cons {u : List Str} {n : Nat} {d : PyData} {r : List PyData} : logW u n (d :: r) = if arrBD d = true then (carO d).elim false (fun c => if ¬ c ∈ u then logW (c :: u) (n + 1) r else false) else if depBD d = true then (if 0 < n then logW u (n - 1) r else false) else false := rfl
def logD (xs : List Str) : PyData → Bool
  | .list ds => logW xs xs.length ds
  | _ => false
theorem arr_of {d : PyData} (h : arrBD d = true) : ∃ c, d = .tuple [.str "in", .str c] ∧ carB c = true := by
  match d, h with
  | .tuple [.str y, e], h =>
    have h : (decide (y = "in") && carD e) = true := h
    rw [Bool.and_eq_true] at h
    have h1 := of_decide_eq_true h.1
    match e, h.2 with
    | .str c, h2 => exact ⟨c, by rw [h1], h2⟩
theorem arr_not_dep {d : PyData} (h : arrBD d = true) : depBD d = false := by
  obtain ⟨c, rfl, _⟩ := arr_of h
  rfl
section
variable {P : Program} {w : World} {K : PySem.W.Frag} {mg : Str → Option Value} {base : Heap} {Ps : List Addr}
def spHasWA (K : PySem.W.Frag) : Sp := fun vs H Q _ => ∃ (v : V) (d : PyData) (wd : Str) (n : Nat), vs = [v, .str wd, .int n] ∧ Dv K H v d ∧ 1 ≤ n ∧ Q (.bl (hasWD wd n d)) H
theorem ok_hasWA {f : Addr} {fd : FuncData} (F : Fun K "has_word" "has_word" sHasW f fd) (B : Bi mg) : FnOk P w K mg base CX0 1 f fd ["value", "word", "length"] (spHasWA K) := by
  refine F.ok scHasW (fun vs H Q E h => ?_) (fun cdv A outer s H vs Q E hr h => ?_)
  · obtain ⟨v, d, wd, n, rfl, _⟩ := h
    rfl
  · obtain ⟨v, d, wd, n, rfl, hd, hn, q⟩ := h
    refine ⟨_, pss_one (ps_ret (pe_and (pe_callB call_isi (by rfl) B.isi (by decide +kernel) (pa_cons (pv 0) (pa_cons (pe_bltn (by rfl) B.tup (by decide +kernel) (v := .ty "tuple") rfl) pa_nil)))
      (pe_and (pe_cmpR op_eq (pe_callB call_len_seq (by rfl) B.len PySem.boot_len (pa_cons (pv 0) pa_nil)) (pv 2) (nomark _))
      (pe_and (pe_callB call_isi (by rfl) B.isi (by decide +kernel) (pa_cons (pe_ix ix_tup (pv 0) pe_int (fun _ _ => rfl)) (pa_cons (pe_bltn (by rfl) B.str (by decide +kernel) (v := .ty "str") rfl) pa_nil)))
      (pe_one (pe_cmpR op_eq (pe_ix ix_tup (pv 0) pe_int (fun _ _ => rfl)) (pv 1) (nomark _))))))), ?_⟩
    refine ⟨v, rfl, v, .ty "tuple", .type (tyD d), .type "tuple", isTup d, rfl, .ty _, hd.ty, kit_ty (kit_tup d), isTup d, rfl, ?_⟩
    by_cases ht : isTup d = true
    · rw [ht]
      cases hd with
      | @tup a xs ds hS hA =>
        refine iteT ⟨.ref a, rfl, a, _, rfl, .inr hS, .int n, rfl, rfl, _, rfl, ?_⟩
        have hl := hA.len
        refine ite2 (fun hz => ?_) (fun hz => ?_)
        · have hz : (xs.length : Int) = n := V.int.inj (of_decide_eq_true hz)
          have hl2 : ds.length = n := by omega
          match ds, hA, hl2, q with
          | [], _, hl2, _ => exact absurd hl2 (by rw [List.length_nil]; omega)
          | d0 :: r, hA, hl2, q =>
            obtain ⟨v0, h0, hd0⟩ := hA.at_ (i := 0) (d := d0) rfl
            refine ⟨.ref a, rfl, a, _, 0, v0, rfl, rfl, hS, atI_nat (j := 0) h0, v0, .ty "str", .type (tyD d0), .type "str", isStr d0, rfl, .ty _, hd0.ty, kit_ty (kit_str d0), isStr d0, rfl, ?_⟩
            cases hd0 with
            | str y hy =>
              refine iteT ⟨.ref a, rfl, a, _, 0, .str y, rfl, rfl, hS, atI_nat (j := 0) h0, .str wd, rfl, rfl, ?_⟩
              have e2 : decide (V.str y = V.str wd) = decide (y = wd) := decide_eq_decide.mpr ⟨fun z => V.str.inj z, fun z => by rw [z]⟩
              rw [e2]
              have q : Q (.bl (decide (r.length + 1 = n) && decide (y = wd))) H := q
              rw [decide_eq_true (by rw [List.length_cons] at hl2; exact hl2), Bool.true_and] at q
              exact q
            | non => exact iteF q
            | bl b => exact iteF q
            | int i => exact iteF q
            | lst s a => exact iteF q
            | tup s a => exact iteF q
            | dic e => exact iteF q
        · have hz : ¬ (xs.length : Int) = n := fun z => hz (decide_eq_true (by rw [z]))
          have hl2 : ¬ ds.length = n := by omega
          have e : hasWD wd n (.tuple ds) = false := by
            match ds, hl2 with
            | [], _ => rfl
            | .str y :: r, hl2 =>
              show (decide (r.length + 1 = n) && _) = false
              rw [decide_eq_false (by rw [List.length_cons] at hl2; exact hl2), Bool.false_and]
            | .none :: _, _ => rfl
            | .bool _ :: _, _ => rfl
            | .int _ :: _, _ => rfl
            | .list _ :: _, _ => rfl
            | .tuple _ :: _, _ => rfl
            | .dict _ :: _, _ => rfl
          rw [e] at q
          exact q
      | _ => cases ht
    · have ht : isTup d = false := by simpa using ht
      rw [ht]
      have e : hasWD wd n d = false := by
        cases d with
        | tuple ds => cases ht
        | _ => rfl
      rw [e] at q
      exact iteF q
def spEvA (K : PySem.W.Frag) (Ps : List Addr) (g : PyData → Bool) : Sp := fun vs H Q _ => ∃ (v : V) (d : PyData), vs = [v] ∧ Dv K H v d ∧ Tabs Ps H ∧ ∀ H', Kp Ps H H' → Q (.bl (g d)) H'
theorem ok_arrA {f fH fC : Addr} {fd fdH fdC : FuncData} (F : Fun K "is_arrival" "is_arrival" sIsArr f fd)
    (GH : FnOk P w K mg base CX0 1 fH fdH ["value", "word", "length"] (spHasWA K)) (mgH : mg "has_word" = some (.ref fH)) (kH : PySem.W.keepIn K (.ref fH) = true) (bH : Binds K fdH ["value", "word", "length"] [])
    (GC : FnOk P w K mg base CX0 2 fC fdC ["value"] (spCarA K Ps)) (mgC : mg "is_car" = some (.ref fC)) (kC : PySem.W.keepIn K (.ref fC) = true) (bC : Binds K fdC ["value"] []) : FnOk P w K mg base CX0 3 f fd ["value"] (spEvA K Ps arrBD) := by
  refine F.ok scIsArr (fun vs H Q E h => ?_) (fun cdv A outer s H vs Q E hr h => ?_)
  · obtain ⟨a, e, rfl, _⟩ := h
    rfl
  · obtain ⟨v, d, rfl, hd, hT, q⟩ := h
    refine ⟨_, pss_one (ps_ret (pe_and (pe_call GH (hr.mono (by decide)) (by rfl) mgH kH bH .nil pass0 (pa_cons (pv 0) (pa_cons pe_str (pa_cons pe_int pa_nil))))
      (pe_one (pe_call GC hr (by rfl) mgC kC bC .nil pass0 (pa_cons (pe_ix ix_tup (pv 0) pe_int (fun _ _ => rfl)) pa_nil))))), ?_⟩
    refine ⟨v, rfl, v, d, "in", 2, rfl, hd, by decide, _, rfl, ?_⟩
    cases hh : hasWD "in" 2 d with
    | true =>
      obtain ⟨e, rfl⟩ := has2 hh
      cases hd with
      | @tup a xs ds hS hA =>
        obtain ⟨v1, h1, hd1⟩ := hA.at_ (i := 1) (d := e) rfl
        have q : ∀ H', Kp Ps H H' → Q (.bl (decide (("in" : Str) = "in") && carD e)) H' := q
        rw [decide_eq_true rfl, Bool.true_and] at q
        exact iteT ⟨.ref a, rfl, a, _, 1, v1, rfl, rfl, hS, atI_nat (j := 1) h1, v1, e, rfl, hd1, hT, q⟩
    | false =>
      have := q H (Kp.refl hT)
      rw [arr_has hh] at this
      exact iteF this
theorem ok_depA {f fH : Addr} {fd fdH : FuncData} (F : Fun K "is_departure" "is_departure" sIsDep f fd)
    (GH : FnOk P w K mg base CX0 1 fH fdH ["value", "word", "length"] (spHasWA K)) (mgH : mg "has_word" = some (.ref fH)) (kH : PySem.W.keepIn K (.ref fH) = true) (bH : Binds K fdH ["value", "word", "length"] []) : FnOk P w K mg base CX0 2 f fd ["value"] (spEvA K Ps depBD) := by
  refine F.ok scIsDep (fun vs H Q E h => ?_) (fun cdv A outer s H vs Q E hr h => ?_)
  · obtain ⟨a, e, rfl, _⟩ := h
    rfl
  · obtain ⟨v, d, rfl, hd, hT, q⟩ := h
    refine ⟨_, pss_one (ps_ret (pe_call GH hr (by rfl) mgH kH bH .nil pass0 (pa_cons (pv 0) (pa_cons pe_str (pa_cons pe_int pa_nil))))), ?_⟩
    refine ⟨v, rfl, v, d, "out", 1, rfl, hd, by decide, ?_⟩
    rw [← depBD_has]
    exact q H (Kp.refl hT)
end
end Ln


set_option Elab.async false
set_option linter.all false
set_option maxRecDepth 100000
set_option maxHeartbeats 4000000
namespace Ln
open PySem PySem.Spec PyProof.Rows L2 GxR
section
variable {P : Program} {w : World} {K : PySem.W.Frag} {mg : Str → Option Value} {base : Heap} {Ps : List Addr}
def spLogA (K : PySem.W.Frag) (Ps : List Addr) : Sp := fun vs H Q _ => ∃ (a : Addr) (v : V) (xs : List Str) (d : PyData), vs = [.ref a, v] ∧ LaneAt K H a xs ∧ laneB xs = true ∧ Dv K H v d ∧ (∀ ds, d = .list ds → ds.length ≤ 1000) ∧ Tabs Ps H ∧ ∀ H', Kp Ps H H' → Q (.bl (logD xs d)) H'
theorem ok_logA {f fR fA fD : Addr} {fd fdR fdA fdD : FuncData} (F : Fun K "is_log" "is_log" sIsLog f fd) (B : Bi mg)
    (GR : FnOk P w K mg base CX0 5 fR fdR ["value"] (spReqLane K Ps)) (mgR : mg "require_lane" = some (.ref fR)) (kR : PySem.W.keepIn K (.ref fR) = true) (bR : Binds K fdR ["value"] [])
    (GA : FnOk P w K mg base CX0 3 fA fdA ["value"] (spEvA K Ps arrBD)) (mgA : mg "is_arrival" = some (.ref fA)) (kA : PySem.W.keepIn K (.ref fA) = true) (bA : Binds K fdA ["value"] [])
    (GD : FnOk P w K mg base CX0 2 fD fdD ["value"] (spEvA K Ps depBD)) (mgD : mg "is_departure" = some (.ref fD)) (kD : PySem.W.keepIn K (.ref fD) = true) (bD : Binds K fdD ["value"] []) :
    FnOk P w K mg base CX0 6 f fd ["start", "value"] (spLogA K Ps) := by
  refine F.ok scIsLog (fun vs H Q E h => ?_) (fun cdv A outer s H vs Q E hr h => ?_)
  · obtain ⟨a, v, xs, d, rfl, _⟩ := h
    rfl
  · obtain ⟨a, v, xs, d, rfl, hL, hB, hd, hlen, hT, q⟩ := h
    refine ⟨_, pss_cons (ps_expr (pe_call GR hr (by rfl) mgR kR bR .nil pass0 (pa_cons (pv 0) pa_nil)))
      (pss_cons (ps_if (pt_not (pt_val (pe_callB call_isi (by rfl) B.isi (by decide +kernel) (pa_cons (pv 1) (pa_cons (pe_bltn (by rfl) B.lst (by decide +kernel) (v := .ty "list") rfl) pa_nil))))) (pss_one (ps_ret pe_bl)) pss_nil)
      (pss_cons (ps_set (i := 2) scIsLog.nd rfl (.inl rfl) (pe_callTy (cr_setT rfl) (by rfl) B.set (by decide +kernel) (pa_cons (pv 0) pa_nil)))
      (pss_cons (ps_set (i := 3) scIsLog.nd rfl (.inl rfl) (pe_callB call_len_seq (by rfl) B.len PySem.boot_len (pa_cons (pv 0) pa_nil)))
      (pss_cons (ps_for PassesOwn.never rfl (pi_list (pv 1)) (pg_name (i := 4) scIsLog.nd rfl (.inl rfl))
        (pss_one (ps_if (PW.pt (pw_and (pt_val (pe_call GA (hr.mono (by decide)) (by rfl) mgA kA bA .nil pass0 (pa_cons (pv 4) pa_nil))) (pw_and1 (pt_cmpR or_snotinK (pe_ix ix_tup (pv 4) pe_int (fun _ _ => rfl)) (pv 2) (by rfl)))))
          (pss_cons (ps_expr (pe_saddK (pv 2) (pa_cons (pe_ix ix_tup (pv 4) pe_int (fun _ _ => rfl)) pa_nil))) (pss_one (ps_aug (i := 3) scIsLog.nd rfl (.inl rfl) pe_int ip_add)))
          (pss_one (ps_if (PW.pt (pw_and (pt_val (pe_call GD (hr.mono (by decide)) (by rfl) mgD kD bD .nil pass0 (pa_cons (pv 4) pa_nil))) (pw_and1 (pt_cmpR op_gt (pv 3) pe_int (nomark _)))))
            (pss_one (ps_aug (i := 3) scIsLog.nd rfl (.inl rfl) pe_int ip_sub))
            (pss_one (ps_ret pe_bl)))))))
      (pss_one (ps_ret pe_bl)))))), ?_⟩
    -- require_lane(start)
    refine ⟨.ref a, rfl, a, xs, rfl, hL.at_, by have := hL.few; omega, hL.sz, hB, hT, fun H1 k1 => ?_⟩
    have hL1 := hL.kp k1 hT
    have hd1 := hd.kp k1 hT
    refine ⟨v, rfl, v, .ty "list", .type (tyD d), .type "list", isLst d, rfl, .ty _, hd1.ty, kit_ty (kit_lst d), isLst d, rfl, ?_⟩
    by_cases ht : isLst d = true
    · rw [ht]
      refine iteF ?_
      cases hd with
      | @lst l vs ds hS hA =>
        have hfew := hlen ds rfl
        have hvl := hA.len
        have hS1 := k1.seqL hT hS
        -- used = set(start); present = len(start)
        refine ⟨.ref a, rfl, a, xs, rfl, hL1.at_, by have := hL.few; omega, fun u n hu hn _ => ?_⟩
        have hu0 : H u = none := k1.free hT hu
        have k2 : Kp Ps H (upd H1 u (SetK P w u (memK (xs.map Sum.inr)) n)) := k1.upd hT hu0
        have hL2 := hL.kp k2 hT
        refine ⟨.ref a, rfl, a, _, rfl, .inr hL2.at_, ?_⟩
        refine ⟨.ref l, rfl, l, rfl, ⟨_, k2.seqL hT hS⟩, for_list (K := K) (a := l) (xs := vs) (fun i σ H' => ∃ (v4 : Option V) (m : Nat) (S : Key → Bool) (us : List Str) (c : Nat), σ = [some (.ref a), some (.ref l), some (.ref u), some (.int (m : Nat)), v4] ∧ Kp Ps H H' ∧
          H' u = some (SetK P w u S c) ∧ c ≤ xs.length + i ∧ (∀ x : Str, S (.inr x) = true ↔ x ∈ us) ∧ i ≤ ds.length ∧ logW xs xs.length ds = logW us m (ds.drop i)) ?_ ?_ ?_ ?_⟩
        · refine ⟨none, xs.length, _, xs, n, ?_, k2, upd_same, by omega, fun x => ?_, Nat.zero_le _, rfl⟩
          · rw [List.length_map]
            rfl
          · rw [memK_iff, List.mem_map]
            constructor
            · intro ⟨y, hy, e⟩
              rw [← Sum.inr.inj e]
              exact hy
            · intro h
              exact ⟨x, h, rfl⟩
        · rintro i σ H' _ ⟨_, _, _, _, _, _, kp, _⟩
          exact kp.seqL hT hS
        · rintro i y σ H' hi ⟨v4, m, S, us, c, rfl, kp, hSet, hc, hSm, hie, hlog⟩
          have hlt : i < ds.length := by
            have h1 := (List.getElem?_eq_some_iff.mp hi).1
            omega
          obtain ⟨ev, hev⟩ : ∃ ev, ds[i]? = some ev := ⟨ds[i], List.getElem?_eq_getElem hlt⟩
          obtain ⟨y2, hy2, hdy⟩ := hA.at_ hev
          obtain rfl : y2 = y := Option.some.inj (hy2.symm.trans hi)
          have hdrop : ds.drop i = ev :: ds.drop (i + 1) := by
            rw [List.drop_eq_getElem_cons hlt]
            rw [List.getElem?_eq_getElem hlt] at hev
            rw [Option.some.inj hev]
          rw [hdrop] at hlog
          have few1 := hL.few
          have hdk := hdy.kp kp hT
          -- is_arrival(event)
          refine ⟨_, rfl, y2, ev, rfl, hdk, kp.tab, fun H3 k3 => ⟨_, rfl, ?_⟩⟩
          have kp3 := kp.trans k3
          have hSet3 := k3.ext kp.tab hSet
          have hd3 := hdk.kp k3 kp.tab
          have bad : ∀ H4, Kp Ps H3 H4 → logW us m (ev :: ds.drop (i + 1)) = false → Q (.bl false) H4 := fun H4 k4 hf => by
            have q : ∀ H', Kp Ps H H' → Q (.bl (logW xs xs.length ds)) H' := q
            have := q H4 (kp3.trans k4)
            rw [hlog, hf] at this
            exact this
          have eq1 := logW_cons (u := us) (n := m) (d := ev) (r := ds.drop (i + 1))
          cases ha : arrBD ev with
          | true =>
            obtain ⟨x, rfl, hx⟩ := arr_of ha
            rw [if_pos ha] at eq1
            have eq1 : logW us m (.tuple [.str "in", .str x] :: ds.drop (i + 1)) = if ¬ x ∈ us then logW (x :: us) (m + 1) (ds.drop (i + 1)) else false := eq1
            cases hd3 with
            | @tup b zs _ hb hbA =>
              obtain ⟨v1, h1, hv1⟩ := hbA.at_ (i := 1) (d := .str x) rfl
              cases hv1 with
              | str _ hxs =>
                refine iteT ⟨.ref b, rfl, b, _, 1, .str x, rfl, rfl, hb, atI_nat (j := 1) h1, .ref u, rfl, .inr x, u, S, c, rfl, rfl, hSet3, _, rfl, ?_⟩
                show if (!S (.inr x)) = true then _ else _
                cases hin : S (.inr x) with
                | false =>
                  have hxu : ¬ x ∈ us := fun z => by
                    rw [(hSm x).mpr z] at hin
                    cases hin
                  refine iteT ⟨.ref u, rfl, ⟨u, S, c, rfl, hSet3⟩, .ref b, rfl, b, _, 1, .str x, rfl, rfl, hb, atI_nat (j := 1) h1, u, .inr x, S, c, rfl, rfl, hSet3, by unfold scanBound; omega, ?_⟩
                  refine ⟨_, rfl, _, _, rfl, rfl, some (.ref b), m + 1, _, x :: us, _, rfl, kp3.upd hT hu0, upd_same, ?_, fun z => ?_, hlt, ?_⟩
                  · rw [hin, if_neg Bool.false_ne_true]
                    omega
                  · show (S (.inr z) || decide ((Sum.inr z : Key) = Sum.inr x)) = true ↔ _
                    rw [Bool.or_eq_true, hSm z, decide_eq_true_iff, List.mem_cons]
                    constructor
                    · rintro (h | h)
                      · exact .inr h
                      · exact .inl (Sum.inr.inj h)
                    · rintro (h | h)
                      · exact .inr (by rw [h])
                      · exact .inl h
                  · rw [hlog, eq1, if_pos hxu]
                | true =>
                  have hxu : x ∈ us := (hSm x).mp hin
                  refine iteF ?_
                  refine ⟨.ref b, rfl, .ref b, _, rfl, .tup hb hbA, kp3.tab, fun H4 k4 => ⟨_, rfl, ?_⟩⟩
                  refine iteF (iteF (bad H4 k4 ?_))
                  rw [eq1, if_neg fun z => z hxu]
          | false =>
            rw [if_neg (by rw [ha]; exact Bool.false_ne_true)] at eq1
            refine iteF (iteF ?_)
            refine ⟨_, rfl, y2, ev, rfl, hd3, kp3.tab, fun H4 k4 => ⟨_, rfl, ?_⟩⟩
            cases hdp : depBD ev with
            | true =>
              rw [if_pos hdp] at eq1
              refine iteT ⟨_, rfl, _, _, rfl, rfl, _, rfl, ite2 (fun hm => ?_) (fun hm => ?_)⟩
              · have hm : (0 : Int) < (m : Nat) := of_decide_eq_true hm
                refine ⟨_, rfl, _, _, rfl, rfl, some y2, m - 1, S, us, c, ?_, kp3.trans k4, k4.ext kp3.tab hSet3, by omega, hSm, hlt, ?_⟩
                · show [some (V.ref a), some (V.ref l), some (V.ref u), some (V.int ((m : Nat) - 1)), some y2] = _
                  rw [show ((m : Nat) : Int) - 1 = ((m - 1 : Nat) : Int) by omega]
                · rw [hlog, eq1, if_pos (by omega)]
              · have hm : ¬ 0 < m := fun z => hm (decide_eq_true (by omega))
                exact bad H4 k4 (by rw [eq1, if_neg hm])
            | false =>
              rw [if_neg (by rw [hdp]; exact Bool.false_ne_true)] at eq1
              exact iteF (iteF (bad H4 k4 eq1))
        · rintro σ H' ⟨v4, m, S, us, c, rfl, kp, hSet, hc, hSm, hie, hlog⟩
          have q : ∀ H', Kp Ps H H' → Q (.bl (logW xs xs.length ds)) H' := q
          have := q H' kp
          rw [hlog, hvl, List.drop_length] at this
          exact this
      | _ => cases ht
    · have ht : isLst d = false := by simpa using ht
      rw [ht]
      have e : logD xs d = false := by
        cases d with
        | list ds => cases ht
        | _ => rfl
      have := q H1 k1
      rw [e] at this
      exact iteT this
end
end Ln


set_option Elab.async false
set_option linter.all false
set_option maxRecDepth 100000
set_option maxHeartbeats 4000000
namespace Ln
open PySem PySem.Spec PyProof.Rows L2 GxR
/-! ### what is raised -/
/-- a class of the program's own, over LaneError over ValueError -/
structure Xc (K : PySem.W.Frag) (mg : Str → Option Value) (x : Str) (C : Addr) : Prop where
  g : mg x = some (.ref C)
  x : PySem.W.excIn K C [.type "ValueError", .type "Exception", .type "BaseException", .type "object"] "ValueError.__new__" = true
  k : PySem.W.keepIn K (.ref C) = true
  b : PySem.W.subIn K (.ref C) (.type "BaseException") = some true
  t : PySem.W.typeIn K (.ref C) = some (.type "type")
section
variable {P : Program} {w : World} {K : PySem.W.Frag} {mg : Str → Option Value} {base : Heap} {Ps : List Addr}
/-- a promise without exceptions, where exceptions may be -/
theorem FnOk_lift {k : Nat} {f : Addr} {fd : FuncData} {ps : List Str} {sp : Sp} (F : FnOk P w K mg base CX0 k f fd ps sp) : FnOk P w K mg base (L2.CX P w) k f fd ps sp := by
  refine ⟨F.len, fun A outer s H args us vs Q E hr he hb hv hs => ?_⟩
  refine codeAny_mono (F.run A outer s H args us vs Q E hr he hb hv hs) fun r s' h => ?_
  cases r with
  | ok x =>
    cases x with
    | ret u => exact h
    | _ => exact h
  | error e => exact h.elim
def spReqLaneX (K : PySem.W.Frag) (Ps : List Addr) (C : Addr) : Sp := fun vs H Q E => ∃ (v : V) (d : PyData), vs = [v] ∧ Dv K H v d ∧ (∀ ds, d = .tuple ds → ds.length ≤ 1000) ∧ Tabs Ps H ∧ (laneD d = true → ∀ H', Kp Ps H H' → Q .non H') ∧ (laneD d = false → ∀ H', Kp Ps H H' → E (.ref C) none H')
theorem ok_reqLaneX {f fL C : Addr} {fd fdL : FuncData} (F : Fun K "require_lane" "require_lane" sReqLane f fd) (XC : Xc K mg "InvalidLane" C)
    (GL : FnOk P w K mg base CX0 4 fL fdL ["value"] (spLaneA K Ps)) (mgL : mg "is_lane" = some (.ref fL)) (kL : PySem.W.keepIn K (.ref fL) = true) (bL : Binds K fdL ["value"] []) : FnOk P w K mg base (L2.CX P w) 5 f fd ["value"] (spReqLaneX K Ps C) := by
  refine F.okX scReqLane (fun vs H Q E h => ?_) (fun cdv A outer s H vs Q E hr h => ?_)
  · obtain ⟨v, d, rfl, _⟩ := h
    rfl
  · obtain ⟨v, d, rfl, hd, hl, hT, q1, q2⟩ := h
    refine ⟨_, pss_one (ps_if (pt_not (pt_val (pe_call GL hr (by rfl) mgL kL bL .nil pass0 (pa_cons (pv 0) pa_nil)))) (pss_one (ps_raise rfl (takes_of rfl rfl rfl rfl) (pmk_own PySem.F.excBase_ValueError XC.x XC.g XC.k (raises_own XC.b XC.t) rfl))) pss_nil), ?_⟩
    refine ⟨v, rfl, v, d, rfl, hd, hl, hT, fun H' kp => ⟨_, rfl, ?_⟩⟩
    cases h : laneD d with
    | true => exact iteF (q1 h H' kp)
    | false => exact iteT (q2 h H' kp)
end
end Ln


set_option Elab.async false
set_option linter.all false
set_option maxRecDepth 100000
set_option maxHeartbeats 4000000
namespace Ln
open PySem PySem.Spec PyProof.Rows L2 GxR
theorem pss_dead {X : Cx} {ss : List Stmt} : PSs X ss fun _ _ _ => False := ⟨fun _ _ _ _ _ _ h => h.elim⟩
/-- the cars of a lane, if it is one -/
def laneO : PyData → Option (List Str)
  | .tuple ds => match strsD ds with
    | some xs => if laneB xs = true then some xs else none
    | none => none
  | _ => none
theorem laneO_none {d : PyData} (h : laneO d = none) : laneD d = false := by
  cases d with
  | tuple ds =>
    show (match strsD ds with | some xs => laneB xs | none => false) = false
    have h : (match strsD ds with | some xs => if laneB xs = true then some xs else none | none => none) = none := h
    cases q : strsD ds with
    | none => rfl
    | some xs =>
      rw [q] at h
      show laneB xs = false
      cases z : laneB xs with
      | false => rfl
      | true =>
        have h : (if laneB xs = true then some xs else none) = none := h
        rw [if_pos z] at h
        cases h
  | _ => rfl
theorem laneO_some {d : PyData} {xs : List Str} (h : laneO d = some xs) : (∃ ds, d = .tuple ds ∧ strsD ds = some xs) ∧ laneB xs = true ∧ laneD d = true := by
  cases d with
  | tuple ds =>
    have h : (match strsD ds with | some xs => if laneB xs = true then some xs else none | none => none) = some xs := h
    cases q : strsD ds with
    | none =>
      rw [q] at h
      cases h
    | some ys =>
      rw [q] at h
      have h : (if laneB ys = true then some ys else none) = some xs := h
      cases z : laneB ys with
      | false =>
        rw [z, if_neg Bool.false_ne_true] at h
        cases h
      | true =>
        rw [z, if_pos rfl] at h
        cases h
        refine ⟨⟨ds, rfl, q⟩, z, ?_⟩
        show (match strsD ds with | some xs => laneB xs | none => false) = true
        rw [q]
        exact z
  | _ => cases h
/-- sizes of an argument -/
def SzA (d : PyData) : Prop := (∀ ds, d = .tuple ds → ds.length ≤ 400) ∧ ∀ ds, d = .list ds → ds.length ≤ 1000
/-- how a call ends that asks for validity only -/
def Out (Ps : List Addr) (o : Option Addr) (H : Hp) (Q : VK) (E : XK) : Prop := match o with
  | none => ∀ H', Kp Ps H H' → Q .non H'
  | some C => ∀ H', Kp Ps H H' → E (.ref C) none H'
def reqLogO (CL CG : Addr) (d e : PyData) : Option Addr := match laneO d with
  | none => some CL
  | some xs => if logD xs e = true then none else some CG
def reqFinO (CL CG : Addr) (d e g : PyData) : Option Addr := match reqLogO CL CG d e with
  | some C => some C
  | none => if laneD g = true then none else some CL
section
variable {P : Program} {w : World} {K : PySem.W.Frag} {mg : Str → Option Value} {base : Heap} {Ps : List Addr}
def spLogX (K : PySem.W.Frag) (Ps : List Addr) (CL : Addr) : Sp := fun vs H Q E => ∃ (v u : V) (d e : PyData), vs = [v, u] ∧ Dv K H v d ∧ Dv K H u e ∧ SzA d ∧ SzA e ∧ Tabs Ps H ∧
  (laneO d = none → ∀ H', Kp Ps H H' → E (.ref CL) none H') ∧ (∀ xs, laneO d = some xs → ∀ H', Kp Ps H H' → Q (.bl (logD xs e)) H')
def spLogXb (K : PySem.W.Frag) (Ps : List Addr) (CL : Addr) : Sp := fun vs H Q E => ∃ (v u : V) (d : PyData), vs = [v, u] ∧ Dv K H v d ∧ SzA d ∧ Tabs Ps H ∧ laneD d = false ∧ ∀ H', Kp Ps H H' → E (.ref CL) none H'
theorem ok_logXb {f fR CL : Addr} {fd fdR : FuncData} (F : Fun K "is_log" "is_log" sIsLog f fd)
    (GR : FnOk P w K mg base (L2.CX P w) 5 fR fdR ["value"] (spReqLaneX K Ps CL)) (mgR : mg "require_lane" = some (.ref fR)) (kR : PySem.W.keepIn K (.ref fR) = true) (bR : Binds K fdR ["value"] []) : FnOk P w K mg base (L2.CX P w) 6 f fd ["start", "value"] (spLogXb K Ps CL) := by
  refine F.okX scIsLog (fun vs H Q E h => ?_) (fun cdv A outer s H vs Q E hr h => ?_)
  · obtain ⟨v, u, d, rfl, _⟩ := h
    rfl
  · obtain ⟨v, u, d, rfl, hd, hz, hT, hb, q⟩ := h
    refine ⟨_, pss_cons (ps_expr (pe_call GR hr (by rfl) mgR kR bR .nil (passes_call (takes_of rfl rfl rfl rfl) fun _ _ _ _ h => h) (pa_cons (pv 0) pa_nil))) pss_dead, ?_⟩
    exact ⟨v, rfl, v, d, rfl, hd, (fun ds e => by have := hz.1 ds e; omega), hT, (fun z => by rw [hb] at z; cases z), fun _ => q⟩
theorem ok_logX {f CL : Addr} {fd : FuncData} (h1 : FnOk P w K mg base CX0 6 f fd ["start", "value"] (spLogA K Ps)) (h2 : FnOk P w K mg base (L2.CX P w) 6 f fd ["start", "value"] (spLogXb K Ps CL)) : FnOk P w K mg base (L2.CX P w) 6 f fd ["start", "value"] (spLogX K Ps CL) :=
  (fn_or (FnOk_lift h1) h2).imp fun vs H Q E ⟨v, u, d, e, ev, hd, he, hz, hz2, hT, q1, q2⟩ => by
    cases hl : laneO d with
    | none => exact .inr ⟨v, u, d, ev, hd, hz, hT, laneO_none hl, q1 hl⟩
    | some xs =>
      obtain ⟨⟨ds, rfl, hs⟩, hB, _⟩ := laneO_some hl
      cases hd with
      | @tup a vs _ hS hA =>
        obtain ⟨e1, e2, e3⟩ := hA.strs hs
        subst e1
        have hlen := hz.1 ds rfl
        rw [e2, List.length_map] at hlen
        exact .inl ⟨a, u, xs, e, ev, ⟨hS, hlen, e3⟩, hB, he, hz2.2, hT, q2 xs hl⟩
def spReqLogX (K : PySem.W.Frag) (Ps : List Addr) (CL CG : Addr) : Sp := fun vs H Q E => ∃ (v u : V) (d e : PyData), vs = [v, u] ∧ Dv K H v d ∧ Dv K H u e ∧ SzA d ∧ SzA e ∧ Tabs Ps H ∧ Out Ps (reqLogO CL CG d e) H Q E
theorem ok_reqLogX {f fL CL CG : Addr} {fd fdL : FuncData} (F : Fun K "require_log" "require_log" sReqLog f fd) (XG : Xc K mg "InvalidLog" CG)
    (GL : FnOk P w K mg base (L2.CX P w) 6 fL fdL ["start", "value"] (spLogX K Ps CL)) (mgL : mg "is_log" = some (.ref fL)) (kL : PySem.W.keepIn K (.ref fL) = true) (bL : Binds K fdL ["start", "value"] []) : FnOk P w K mg base (L2.CX P w) 7 f fd ["start", "log"] (spReqLogX K Ps CL CG) := by
  refine F.okX scReqLog (fun vs H Q E h => ?_) (fun cdv A outer s H vs Q E hr h => ?_)
  · obtain ⟨v, u, d, e, rfl, _⟩ := h
    rfl
  · obtain ⟨v, u, d, e, rfl, hd, he, hz, hz2, hT, q⟩ := h
    refine ⟨_, pss_one (ps_if (pt_not (pt_val (pe_call GL hr (by rfl) mgL kL bL .nil (passes_call (takes_of rfl rfl rfl rfl) fun _ _ _ _ h => h) (pa_cons (pv 0) (pa_cons (pv 1) pa_nil))))) (pss_one (ps_raise rfl (takes_of rfl rfl rfl rfl) (pmk_own PySem.F.excBase_ValueError XG.x XG.g XG.k (raises_own XG.b XG.t) rfl))) pss_nil), ?_⟩
    refine ⟨v, rfl, u, rfl, v, u, d, e, rfl, hd, he, hz, hz2, hT, fun hl => ?_, fun xs hl H' kp => ⟨_, rfl, ?_⟩⟩
    · unfold reqLogO at q
      rw [hl] at q
      exact q
    · unfold reqLogO at q
      rw [hl] at q
      have q : Out Ps (if logD xs e = true then none else some CG) H Q E := q
      cases z : logD xs e with
      | true =>
        rw [if_pos z] at q
        exact iteF (q H' kp)
      | false =>
        rw [if_neg (by rw [z]; exact Bool.false_ne_true)] at q
        exact iteT (q H' kp)
end
end Ln


set_option Elab.async false
set_option linter.all false
set_option maxRecDepth 100000
set_option maxHeartbeats 4000000
namespace Ln
open PySem PySem.Spec PyProof.Rows L2
/-! ### t[::-1] of a tuple -/
theorem fmap_some {α β : Type} {f : α → Option β} {g : α → β} : ∀ {xs : List α}, (∀ x ∈ xs, f x = some (g x)) → xs.filterMap f = xs.map g
  | [], _ => rfl
  | x :: r, h => by rw [List.filterMap_cons_some (h x List.mem_cons_self), fmap_some fun y hy => h y (List.mem_cons_of_mem _ hy), List.map_cons]
theorem pick_back (xs : Array Value) : ((List.range xs.size).filterMap fun (m : Nat) => xs[(((xs.size : Nat) : Int) - 1 + (m : Int) * (-1)).toNat]?).toArray = xs.toList.reverse.toArray := by
  congr 1
  have e : ∀ m ∈ List.range xs.size, xs[(((xs.size : Nat) : Int) - 1 + (m : Int) * (-1)).toNat]? = some (xs.toList.reverse.getD m .none) := fun m hm => by
    have hm := List.mem_range.mp hm
    rw [show (((xs.size : Nat) : Int) - 1 + (m : Int) * (-1)).toNat = xs.size - 1 - m by omega, ← Array.getElem?_toList, List.getD_eq_getElem?_getD, List.getElem?_reverse (by rw [Array.length_toList]; exact hm), Array.length_toList]
    have h2 : xs.size - 1 - m < xs.toList.length := by
      rw [Array.length_toList]
      omega
    rw [List.getElem?_eq_getElem h2]
    rfl
  have e2 : (List.range xs.size).filterMap (fun (m : Nat) => xs[(((xs.size : Nat) : Int) - 1 + (m : Int) * (-1)).toNat]?) = (List.range xs.size).map fun m => xs.toList.reverse.getD m .none := by
    exact fmap_some e
  rw [e2]
  refine List.ext_getElem? fun i => ?_
  by_cases h : i < xs.size
  · have h2 : i < xs.toList.reverse.length := by
      rw [List.length_reverse, Array.length_toList]
      exact h
    rw [List.getElem?_map, List.getElem?_range h, List.getElem?_eq_getElem h2]
    show some (xs.toList.reverse.getD i .none) = _
    rw [List.getD_eq_getElem?_getD, List.getElem?_eq_getElem h2]
    rfl
  · rw [List.getElem?_eq_none (by rw [List.length_map, List.length_range]; omega), List.getElem?_eq_none (by rw [List.length_reverse, Array.length_toList]; omega)]
section
variable {prog : Program} {w : World} {A : Around} {E : Value → Shared → Prop} {s : Shared}
theorem places_back (n : Nat) : Builtin.Slice.slicePlaces ((n : Int) - 1) (-1) (-1) = n := by
  unfold Builtin.Slice.slicePlaces
  rw [if_neg (by decide)]
  by_cases h : 0 < n
  · rw [if_pos (by omega), show (-(-1) : Int) = 1 from rfl, Int.ediv_one]
    omega
  · rw [if_neg (by omega)]
    omega
theorem applied_back {sl : Addr} {vs : Value} {n : Nat} {Q : Int × Int × Nat → Shared → Prop} (hs : s.heap.IsSliceOf sl .none .none vs) (ps : IsPart vs (some (-1))) (h : Q ((n : Int) - 1, -1, n) s) : wpAny (model prog w) A (Builtin.Slice.sliceApplied (.ref sl) (pure (n : Int))) Q E s := by
  obtain ⟨os, hos, hcs, hds⟩ := id hs
  unfold Builtin.Slice.sliceApplied Builtin.Slice.sliceFields
  refine wpAny_bind (wpAny_bind (wpAny_field hos hds (x := .none) rfl (wpAny_bind (wpAny_field hos hds (x := .none) rfl (wpAny_bind (wpAny_field hos hds (x := vs) rfl (wpAny_pure ?_)))))))
  refine wpAny_bind (HT.slicePart_ ps ?_)
  show wpAny _ _ (if ((-1 : Int) == 0) = true then _ else _) _ _ s
  rw [if_neg (by decide)]
  refine wpAny_bind (slicePart_none (wpAny_bind (slicePart_none (wpAny_bind (wpAny_pure ?_)))))
  show wpAny _ _ (pure ((n : Int) - 1, (-1 : Int), Builtin.Slice.slicePlaces ((n : Int) - 1) (-1) (-1))) _ _ s
  rw [places_back]
  exact wpAny_pure h
theorem getItem_tuple_back {t sl : Addr} {its : Array Value} {vs : Value} {Q : Value → Shared → Prop} (ht : IsTup s.heap t its) (hs : s.heap.IsSliceOf sl .none .none vs) (ps : IsPart vs (some (-1)))
    (h : Q (.ref s.heap.objs.size) { s with heap := s.heap.push { cls := .type "tuple", data := .seq its.toList.reverse.toArray } }) (hsz : its.size ≤ sizeLine) : wpAny (model prog w) A (getItem (.ref t) (.ref sl)) Q E s := by
  have hk : sizeOk (.seq its.toList.reverse.toArray) := by
    show its.toList.reverse.toArray.size ≤ sizeLine
    rw [List.size_toArray, List.length_reverse, Array.length_toList]
    exact hsz
  obtain ⟨os, hos, hcs, hds⟩ := id hs
  have hTs : s.TypeIs (.ref sl) "slice" := ⟨os, hos, hcs⟩
  unfold getItem
  try with_reducible refine wpAny_holding ?_
  first | refine wpAny_bind (wpAny_pure ?_) | skip
  refine wpAny_bind (wpAny_sequenceKey ht.typeIs (by decide) (wpAny_bind (wpAny_callSpecial?_slot (name := Str.ofString "__getitem__") ht.typeIs PyProof.Rows.slot_tuple_getitem (wpAny_call_entry PyProof.Rows.slot_tuple_getitem ht.typeIs entry_tuple_getitem ?_ (args_tuple_getitem _ _)))))
  show wpAny _ _ (Builtin.Tuple.tupleItemsOf (.ref t) >>= _) _ _ s
  refine wpAny_bind (tupleItemsOf_ ht (wpAny_bind (wpAny_typeOf hTs ?_)))
  rw [if_pos (by decide)]
  refine wpAny_bind (applied_back hs ps ?_)
  have hno : ¬ ((((its.size : Nat) : Int) - 1 == 0 && (-1 : Int) == 1 && its.size == its.size) = true) := fun q => by
    rw [Bool.and_eq_true, Bool.and_eq_true] at q
    exact absurd q.1.2 (by decide)
  show wpAny _ _ (if (((its.size : Nat) : Int) - 1 == 0 && (-1 : Int) == 1 && its.size == its.size) = true then _ else _) _ _ s
  rw [if_neg hno, pick_back]
  first
    | exact wpAny_bind (m := Builtin.Tuple.tupleExact _) (wpAny_newObj_type (wpAny_pure ⟨_, rfl, wpAny_pure h⟩) hk)
    | exact wpAny_bind (m := Builtin.Tuple.tupleExact _) (wpAny_newObj_type (wpAny_bind (wpAny_pure (wpAny_pure ⟨_, rfl, wpAny_pure h⟩))) hk)
    | exact wpAny_bind (wpAny_bind (m := Builtin.Tuple.tupleExact _) (wpAny_newObj_type (wpAny_pure (wpAny_pure ⟨_, rfl, wpAny_pure h⟩)) hk))
    | exact wpAny_bind (wpAny_bind (m := Builtin.Tuple.tupleExact _) (wpAny_newObj_type (wpAny_pure ⟨_, rfl, wpAny_pure h⟩) hk))
end
section
variable {X : Cx}
def tRevT (K : PySem.W.Frag) (te : TE) : TE := fun σ H Q => te σ H fun x H1 => ∃ a xs, x = .ref a ∧ SqT K H1 a xs ∧ ∀ p, H1 p = none → Q (.ref p) (upd H1 p (.tup xs.reverse))
theorem pe_revT {e : Expr} {te : TE} {k : Nat} {p1 p2 p3 pos : Pos} (he : PE X e te) : PE X (.Subscript e (.Slice none none (some (.UnaryOp .USub (.Constant (.int 1) k p1) p2)) p3) pos) (tRevT X.K te) := by
  refine ⟨fun pins s σ H Q I h => Subscript_ (thn (he.run pins s σ H _ I h) fun v s1 ⟨x, H1, I1, r1, q1⟩ => ?_)⟩
  obtain ⟨a, xs, rfl, hx, q⟩ := q1
  cases r1
  have hst : PO X (some (.UnaryOp .USub (.Constant (.int 1) k p1) p2)) (tPart (tUn (rU fun i => .int (-i)) (tC (.int 1)))) := po_some (pe_un un_neg pe_int)
  refine wpAny_Slice ?_
  rw [evalPart_none]
  refine wpAny_pure (wpAny_pure ?_)
  refine thn (hst.run pins s1 σ H1 (fun o H4 => o = some (-1) ∧ H4 = H1) I1 ⟨1, rfl, -1, rfl, rfl, rfl⟩) fun vs s4 ⟨o, H4, I4, ps, eo, e4⟩ => ?_
  subst eo e4
  have I5 : Inv X pins σ H4 { s4 with heap := s4.heap.push { cls := .type "slice", data := .fields #[.none, .none, vs] } } := I4.kept (t' := s4.toks) fun b ob q => Heap.get?_push_of_some _ q
  obtain ⟨its, r, ht, hz⟩ := I5.tuple hx
  show wpAny (model X.prog X.w) X.A (subscriptTail e (.Slice none none (some (.UnaryOp .USub (.Constant (.int 1) k p1) p2)) p3) (.ref a) (.ref s4.heap.objs.size)) (EP X pins σ Q) X.xe { s4 with heap := s4.heap.push { cls := .type "slice", data := .fields #[.none, .none, vs] } }
  refine tail_any (ops := [.ref a, .ref s4.heap.objs.size]) ht.typeIs (PyProof.Rows.slot_tuple_getitem.lookup) ?_ (by with_unfolding_all rfl)
  refine getItem_tuple_back ht (Heap.IsSliceOf.new _ .none .none vs) ps ?_ (by rw [List.size_toArray, ← r.length]; exact hz)
  refine ⟨.ref _, _, I5.laid (t' := s4.toks) (o := .tup xs.reverse) (fun b ob q => Heap.get?_push_of_some _ q) (Nat.le_refl _) ?_, rfl, q _ (I5.hok.fresh (Nat.le_refl _))⟩
  refine ⟨by rw [List.length_reverse]; exact hz, its.reverse, r.reverse, ?_⟩
  exact ⟨_, Heap.get?_push_size _ rfl, rfl, 0, rfl⟩
end
end Ln


set_option Elab.async false
set_option linter.all false
set_option maxRecDepth 100000
set_option maxHeartbeats 4000000
namespace Ln
open PySem PySem.Spec PyProof.Rows L2
/-! ### tuples that have no attributes of their own: what t.index(..) asks -/
def TupD (H : Hp) (a : Addr) (xs : List V) : Prop := ∃ ob : Obj, ob.dict = none ∧ H a = some (.frz ob (.tup xs))
theorem TupD.sq {K : PySem.W.Frag} {H : Hp} {a : Addr} {xs : List V} (h : TupD H a xs) : SqT K H a xs := by
  obtain ⟨ob, _, e⟩ := h
  exact .inl (.inr ⟨ob, e⟩)
theorem TupD.kp {Ps : List Addr} {H H1 : Hp} {a : Addr} {xs : List V} (h : TupD H a xs) (k : Kp Ps H H1) (hT : Tabs Ps H) : TupD H1 a xs := by
  obtain ⟨ob, d, e⟩ := h
  exact ⟨ob, d, k.at_ a _ e (tab_ne hT e fun q z => by cases z)⟩
theorem TupD.same {H H1 : Hp} {a : Addr} {xs : List V} (h : TupD H a xs) (k : L2.Same H H1) : TupD H1 a xs := by
  obtain ⟨ob, d, e⟩ := h
  exact ⟨ob, d, k _ _ e⟩
theorem TupD.of {H : Hp} {p : Addr} {ob : Obj} {xs : List V} (d : ob.dict = none) : TupD (upd H p (.frz ob (.tup xs))) p xs := ⟨ob, d, upd_same⟩
section
variable {X : Cx} {es : List Expr} {pos : Pos} {t : TA}
theorem objD {P : Program} {w : World} {H : Hp} {h : Heap} {xs : List V} {us : List Value} (hz : xs.length ≤ sizeLine) (r : Vals xs us) : ObjOk P w H (h.push { cls := .type "tuple", data := .seq us.toArray }) h.objs.size (.frz { cls := .type "tuple", data := .seq us.toArray } (.tup xs)) :=
  ⟨Heap.get?_push_size _ rfl, hz, us, r, ⟨_, Heap.get?_push_size _ rfl, rfl, _, rfl⟩⟩
def tTupD (t : TA) : TE := fun σ H Q => t σ H fun xs H1 => xs.length ≤ sizeLine ∧ ∀ (p : Addr) (ob : Obj), ob.dict = none → H1 p = none → Q (.ref p) (upd H1 p (.frz ob (.tup xs)))
theorem pe_tupD {x1} (h : PA X es t) : PE X (.Tuple es x1 pos) (tTupD t) := by
  refine ⟨fun pins s σ H Q I hq => ?_⟩
  refine wpAny_Tuple_spliced (thn (h.run pos pins s σ H _ I hq) fun us s1 ⟨xs, H1, I1, r, z, q⟩ => ⟨by rw [← r.length]; exact z, ?_⟩)
  have hf : H1 s1.heap.objs.size = none := I1.hok.fresh (Nat.le_refl _)
  exact ⟨.ref s1.heap.objs.size, _, I1.laid (t' := s1.toks) (fun b u e => Heap.get?_push_of_some _ e) (Nat.le_refl _) (objD z r), rfl, q _ _ rfl hf⟩
def rCatD (K : PySem.W.Frag) : R2 := fun x y H Q => ∃ a b xs ys, x = .ref a ∧ y = .ref b ∧ SqT K H a xs ∧ SqT K H b ys ∧ xs.length + ys.length ≤ sizeLine ∧
  (xs = [] → Q (.ref b) H) ∧ (xs ≠ [] → ys = [] → Q (.ref a) H) ∧ (xs ≠ [] → ys ≠ [] → ∀ (p : Addr) (ob : Obj), ob.dict = none → H p = none → Q (.ref p) (upd H p (.frz ob (.tup (xs ++ ys)))))
theorem op_catD : OpR X (binaryOp .Add) (rCatD X.K) := by
  intro pins s σ H x y v u Q I rx ry h
  obtain ⟨a, b, xs, ys, rfl, rfl, ha, hb, hz, q0, q1, q2⟩ := h
  cases rx
  cases ry
  obtain ⟨its, r1, p1, _⟩ := I.tuple ha
  obtain ⟨its2, r2, p2, _⟩ := I.tuple hb
  by_cases hx : xs = []
  · subst hx
    cases r1
    exact cat_tup0 p1 p2 ⟨.ref b, H, I, rfl, q0 rfl⟩
  · refine HT.cat_tup p1 p2 (fun z => hx (r1.nil_iff.mp z)) (fun z => ⟨.ref a, H, I, rfl, q1 hx (r2.nil_iff.mp z)⟩) (fun z => ?_) (by rw [← r1.length, ← r2.length]; exact hz)
    exact ⟨.ref s.heap.objs.size, _, I.laid (t' := s.toks) (fun b ob q => Heap.get?_push_of_some _ q) (Nat.le_refl _) (objD (by rw [List.length_append]; exact hz) (r1.append r2)), rfl, q2 hx (fun w => z (r2.nil_iff.mpr w)) _ _ rfl (I.hok.fresh (Nat.le_refl _))⟩
def rSlD (K : PySem.W.Frag) : V → Option Int → Option Int → Hp → VK → Prop := fun x lo hi H Q => ∃ a xs, x = .ref a ∧ SqT K H a xs ∧
  ¬ (HT.sIx xs.length 0 lo = 0 ∧ HT.sIx xs.length xs.length hi = xs.length) ∧ ∀ (p : Addr) (ob : Obj), ob.dict = none → H p = none → Q (.ref p) (upd H p (.frz ob (.tup (cutV xs lo hi))))
theorem sl_tupD : SlR X (rSlD X.K) := by
  intro pins s σ H x v vl vu lo hi sl Q I rx hs pl pu h
  obtain ⟨a, xs, rfl, hx, hw, q⟩ := h
  cases rx
  obtain ⟨its, r, ht, hz⟩ := I.tuple hx
  have hlen : its.toArray.size = xs.length := by rw [List.size_toArray]; exact r.length.symm
  refine ⟨"tuple", _, PyProof.Rows.slot_tuple_getitem.lookup, ht.typeIs, ?_⟩
  refine HT.getItem_tuple_cut ht hs pl pu (by rw [hlen]; exact hw) ?_ (by rw [hlen]; exact hz)
  rw [hlen]
  exact ⟨.ref s.heap.objs.size, _, I.laid (t' := s.toks) (fun b ob q => Heap.get?_push_of_some _ q) (Nat.le_refl _) (objD (xs := cutV xs lo hi) (Nat.le_trans (cutV_length xs lo hi) hz) ((r.drop (HT.sIx xs.length 0 lo)).take (HT.sIx xs.length xs.length hi - HT.sIx xs.length 0 lo))), rfl, q _ _ rfl (I.hok.fresh (Nat.le_refl _))⟩
theorem call_tuple_ofD : CallR X (.type "tuple") (fun xs H Q => ∃ p ys, xs = [.ref p] ∧ SqL X.K H p ys ∧ ∀ (l : Addr) (ob : Obj), ob.dict = none → H l = none → Q (.ref l) (upd H l (.frz ob (.tup ys)))) := by
  intro pins s σ H xs us Q I r h
  obtain ⟨p, ys, rfl, hq, q⟩ := h
  obtain ⟨u, rfl, rx⟩ := vals1 r
  cases rx
  obtain ⟨its, r', pl, hz⟩ := I.list hq
  have hlen := r'.length
  refine call_tuple_list pl.isList (fun h' kp => ?_) (by simp only [List.size_toArray] <;> omega)
  have I1 : Inv X pins σ H { s with heap := h' } := I.kept (t' := s.toks) kp
  exact ⟨.ref h'.objs.size, _, I1.laid (t' := s.toks) (fun b o e => Heap.get?_push_of_some _ e) (Nat.le_refl _) (objD hz r'), rfl, q _ _ rfl (I1.hok.fresh (Nat.le_refl _))⟩
def tRevD (K : PySem.W.Frag) (te : TE) : TE := fun σ H Q => te σ H fun x H1 => ∃ a xs, x = .ref a ∧ SqT K H1 a xs ∧ ∀ (p : Addr) (ob : Obj), ob.dict = none → H1 p = none → Q (.ref p) (upd H1 p (.frz ob (.tup xs.reverse)))
theorem pe_revD {e : Expr} {te : TE} {k : Nat} {p1 p2 p3 pos : Pos} (he : PE X e te) : PE X (.Subscript e (.Slice none none (some (.UnaryOp .USub (.Constant (.int 1) k p1) p2)) p3) pos) (tRevD X.K te) := by
  refine ⟨fun pins s σ H Q I h => Subscript_ (thn (he.run pins s σ H _ I h) fun v s1 ⟨x, H1, I1, r1, q1⟩ => ?_)⟩
  obtain ⟨a, xs, rfl, hx, q⟩ := q1
  cases r1
  have hst : PO X (some (.UnaryOp .USub (.Constant (.int 1) k p1) p2)) (tPart (tUn (rU fun i => .int (-i)) (tC (.int 1)))) := po_some (pe_un un_neg pe_int)
  refine wpAny_Slice ?_
  rw [evalPart_none]
  refine wpAny_pure (wpAny_pure ?_)
  refine thn (hst.run pins s1 σ H1 (fun o H4 => o = some (-1) ∧ H4 = H1) I1 ⟨1, rfl, -1, rfl, rfl, rfl⟩) fun vs s4 ⟨o, H4, I4, ps, eo, e4⟩ => ?_
  subst eo e4
  have I5 : Inv X pins σ H4 { s4 with heap := s4.heap.push { cls := .type "slice", data := .fields #[.none, .none, vs] } } := I4.kept (t' := s4.toks) fun b ob q => Heap.get?_push_of_some _ q
  obtain ⟨its, r, ht, hz⟩ := I5.tuple hx
  show wpAny (model X.prog X.w) X.A (subscriptTail e (.Slice none none (some (.UnaryOp .USub (.Constant (.int 1) k p1) p2)) p3) (.ref a) (.ref s4.heap.objs.size)) (EP X pins σ Q) X.xe { s4 with heap := s4.heap.push { cls := .type "slice", data := .fields #[.none, .none, vs] } }
  refine tail_any (ops := [.ref a, .ref s4.heap.objs.size]) ht.typeIs (PyProof.Rows.slot_tuple_getitem.lookup) ?_ (by with_unfolding_all rfl)
  refine getItem_tuple_back ht (Heap.IsSliceOf.new _ .none .none vs) ps ?_ (by rw [List.size_toArray, ← r.length]; exact hz)
  exact ⟨.ref _, _, I5.laid (t' := s4.toks) (fun b ob q => Heap.get?_push_of_some _ q) (Nat.le_refl _) (objD (xs := xs.reverse) (us := its.reverse) (by rw [List.length_reverse]; exact hz) r.reverse), rfl, q _ _ rfl (I5.hok.fresh (Nat.le_refl _))⟩
def tBMT (r : V → List V → Hp → VK → Prop) (to : TE) (t : TA) : TE := fun σ H Q => to σ H fun x H1 => (∃ a xs, x = .ref a ∧ TupD H1 a xs) ∧ t σ H1 fun xs H2 => r x xs H2 Q
theorem pe_bmT {o e : Expr} {es : List Expr} {to : TE} {t : TA} {name : Str} {apos cpos : Pos} {id : String} {r : V → List V → Hp → VK → Prop} (pa : PlainAttrs "tuple") (slot : Slot "tuple" name id) (hty : typeOf (.builtin id) = pure (.type "method_descriptor")) (hm : MtR X id r) (ho : PE X o to) (ha : PA X (e :: es) t)
    (hbase : attributeBase o name X.env (eval o X.env) = eval o X.env := by rfl)
    (hfew : ((backTo cpos (starEach (e :: es) X.env)).all (fun x => !x.1) && (backToKw cpos (keywordEach [] X.env)).all (fun x => x.1.isSome)
      && decide ((e :: es).length + ([] : List Keyword).length + (if ([] : List Keyword).isEmpty then 0 else 1) < 30)) = true := by rfl)
    (hline : (apos.endLine == cpos.line) = true := by rfl) (hs : starEach (e :: es) X.env = (false, eval e X.env) :: starEach es X.env := by rfl) (hplain : (backTo cpos (starEach es X.env)).any (·.1) = false := by rfl) :
    PE X (.Call (.Attribute o name apos) (e :: es) [] cpos) (tBMT r to t) := by
  refine ⟨fun pins s σ H Q I h => ?_⟩
  refine wpAny_Call_method_late hbase hfew hline rfl (thn (ho.run pins s σ H _ I h) fun v s1 ⟨x, H1, I1, r1, ⟨a, ys, ex, td⟩, q1⟩ => ?_)
  have hx : RelV x v := r1
  subst ex
  cases r1
  obtain ⟨its, _, ht, _⟩ := I1.tuple (td.sq (K := X.K))
  refine ⟨"tuple", id, pa, slot, hty, ht.typeIs, fun a' e' => ?_, ?_⟩
  · cases e'
    obtain ⟨ob, hd, e1⟩ := td
    exact ⟨ob, (I1.hok a _ e1).1, hd⟩
  have hA := ha.run cpos pins s1 σ H1 _ I1 q1
  rw [hs] at hA ⊢
  refine Calls.callWith_builtin (by show (false || (backTo cpos (starEach es X.env)).any (·.1)) = false; rw [hplain] <;> rfl) (Calls.evalArgs_plain ?_)
  exact thn hA fun us s2 ⟨vs, H2, I2, r2, q2⟩ => hm pins s2 σ H2 (.ref a) vs (.ref a) us Q I2 hx r2 q2
end
end Ln


set_option Elab.async false
set_option linter.all false
set_option maxRecDepth 100000
set_option maxHeartbeats 4000000
namespace Ln
open PySem PySem.Spec PyProof.Rows L2 GxR
section
variable {P : Program} {w : World} {K : PySem.W.Frag} {mg : Str → Option Value} {base : Heap} {Ps : List Addr}
def spCell (K : PySem.W.Frag) : Sp := fun vs H Q _ => ∃ (a : Addr) (ns : List Int) (k : Nat), vs = [.ref a, .int k] ∧ SqL K H a (ns.map V.int) ∧ ∀ c : Int, Q (.int c) H
def spBag : Sp := fun vs H Q _ => ∃ (c : Int) (k : Nat), vs = [.int c, .int k] ∧ k ≤ 64 ∧ ∀ p l, H p = none → SrcV 0 l → Q (.ref p) (upd H p (.lst l))
def spTake : Sp := fun vs H Q _ => ∃ (s : Addr) (l : List V) (n : Nat) (lim : Int), vs = [.ref s, .int lim] ∧ H s = some (.lst l) ∧ SrcV n l ∧ n ≤ 1000000 ∧ 1 ≤ lim ∧ lim ≤ 100000 ∧ ∀ l' r, SrcV (n + 1) l' → 0 ≤ r → r < lim → Q (.int r) (upd H s (.lst l'))
def spFolk (K : PySem.W.Frag) : Sp := fun vs H Q _ => ∃ (a l : Addr) (xs : List Str) (as : List Addr) (es : List Ev), vs = [.ref a, .ref l] ∧ SqT K H a (xs.map V.str) ∧ SqL K H l (as.map V.ref) ∧ EvsAt K H as es ∧ xs.length ≤ 400 ∧ es.length ≤ 400 ∧
  ∀ (H' : Hp) (p : Addr), L2.Same H H' → H p = none → H' p = some (.lst ((xs ++ arrs es).map V.str)) → Q (.ref p) H'
end
end Ln


set_option Elab.async false
set_option linter.all false
set_option maxRecDepth 100000
set_option maxHeartbeats 4000000
namespace Ln
open PySem PySem.Spec PyProof.Rows L2 GxR
/-! ### the pool of names -/
def pool0 : List Str := ["a", "b", "z", "aa", "ab", "in", "out", "l", "r", "none", "zzzz", "abcd", "abce"]
abbrev sgnS : Str := "cdefghijkmnopq"
abbrev morS : Str := "pqrstuvwxyz"
abbrev sgn (c : Nat) : Str := ⟨#[c]⟩
def pool1 (c : Nat) : List Str := [sgn c, sgn c ++ ("a" : Str)]
def pool2 (c i : Nat) : List Str := (morS.cps.toList.take i).map fun m => (sgn c ++ ("x" : Str)) ++ sgn m
def poolAt (i : Nat) : List Str := pool0 ++ (sgnS.cps.toList.take i).flatMap fun c => pool1 c ++ pool2 c 11
abbrev poolL : List Str := poolAt 14
theorem pool_len : ∀ i < 15, (poolAt i).length ≤ 195 := by decide +kernel
theorem pool_cars : ∀ x ∈ poolL, carB x = true := by decide +kernel
theorem pool_nodup : poolL.Nodup := by decide +kernel
theorem pool_len14 : poolL.length = 195 := by decide +kernel
section
variable {P : Program} {w : World} {K : PySem.W.Frag} {mg : Str → Option Value} {base : Heap} {Ps : List Addr}
def spNames : Sp := fun vs H Q _ => ∃ (s : Addr) (l : List V) (n many : Nat), vs = [.ref s, .int (many : Nat)] ∧ H s = some (.lst l) ∧ SrcV n l ∧ n + many ≤ 1000000 ∧ many ≤ 190 ∧
  ∀ (H' : Hp) (p : Addr) (ys : List Str) (l' : List V), Ch s H H' → H p = none → ys.length = many → ys.Nodup → (∀ y ∈ ys, y ∈ poolL) → SrcV (n + many) l' → H' s = some (.lst l') → H' p = some (.lst (ys.map V.str)) → Q (.ref p) H'
end
end Ln

set_option Elab.async false
set_option linter.all false
set_option maxRecDepth 100000
set_option maxHeartbeats 8000000
namespace Ln
open PySem PySem.Spec PyProof.Rows L2 GxR
/-- never more than c cars -/
def Capd (c n : Nat) (es : List Ev) : Prop := ∀ j k, cnt n (es.take j) = some k → k ≤ c
theorem capd_snoc {c n : Nat} {es : List Ev} {e : Ev} (h : Capd c n es) (h2 : ∀ k, cnt n (es ++ [e]) = some k → k ≤ c) : Capd c n (es ++ [e]) := fun j k hk => by
  by_cases hj : j ≤ es.length
  · rw [List.take_append_of_le_length hj] at hk
    exact h j k hk
  · rw [List.take_of_length_le (by rw [List.length_append, List.length_singleton]; omega)] at hk
    exact h2 k hk
/-- what _law_built gives: the lane xs at t, the log es at o -/
structure Bt (H H' : Hp) (s t o : Addr) (xs : List Str) (as : List Addr) (es : List Ev) (widest most n m : Nat) (l' : List V) : Prop where
  ch : Ch s H H'
  t0 : H t = none
  o0 : H o = none
  t1 : TupD H' t (xs.map V.str)
  o1 : H' o = some (.lst (as.map V.ref))
  ev : EvT H' as es
  fr : ∀ a ∈ as, H a = none
  few1 : xs.length ≤ widest
  few2 : es.length ≤ most
  nd : (xs ++ arrs es).Nodup
  cars : ∀ x ∈ xs ++ arrs es, carB x = true
  ct : cnt xs.length es = some m
  cap : Capd (max 40 widest) xs.length es
  src : SrcV (n + (widest + 2 * most + 3)) l'
  s1 : H' s = some (.lst l')
  pool : ∀ x ∈ xs ++ arrs es, x ∈ poolL
def BtInv (H : Hp) (ob : Obj) (s0 nm t fr o : Addr) (n n0 widest most : Nat) (xs zs : List Str) (ln : Int) (c i : Nat) (σ : L2.St) (H' : Hp) : Prop := ∃ (l' : List V) (as : List Addr) (es : List Ev) (k m : Nat) (v9 v10 v11 : Option V),
  σ = [some (.ref s0), some (.int (widest : Nat)), some (.int (most : Nat)), some (.ref nm), some (.int (m : Nat)), some (.ref t), some (.ref fr), some (.int ln), some (.ref o), v9, v10, v11] ∧ Ch s0 H H' ∧ i ≤ c ∧ H' s0 = some (.lst l') ∧ SrcV (n + i) l' ∧ H' t = some (.frz ob (.tup (xs.map V.str))) ∧ H' fr = some (.lst ((zs.drop k).map V.str)) ∧
  H' o = some (.lst (as.map V.ref)) ∧ EvT H' as es ∧ (∀ a ∈ as, H a = none) ∧ es.length ≤ i ∧ k ≤ i ∧ arrs es = zs.take k ∧ cnt n0 es = some m ∧ Capd (max 40 widest) n0 es
theorem ix4 (b0 b1 b2 b3 : Bool) {r : Int} (h0 : 0 ≤ r) (h4 : r < 4) : ∃ b : Bool, atI [V.bl b0, .bl b1, .bl b2, .bl b3] r = some (.bl b) := by
  have : r = 0 ∨ r = 1 ∨ r = 2 ∨ r = 3 := by omega
  rcases this with rfl | rfl | rfl | rfl
  · exact ⟨b0, atI_nat (j := 0) rfl⟩
  · exact ⟨b1, atI_nat (j := 1) rfl⟩
  · exact ⟨b2, atI_nat (j := 2) rfl⟩
  · exact ⟨b3, atI_nat (j := 3) rfl⟩
theorem cut_pre {xs : List V} {c : Nat} : cutV xs none (some (c : Int)) = xs.take c := by
  unfold cutV
  rw [HT.sIx_none, List.drop_zero, Nat.sub_zero, show HT.sIx xs.length xs.length (some (c : Int)) = min c xs.length from HT.sIx_nat _ _ c]
  by_cases h : c ≤ xs.length
  · rw [Nat.min_eq_left h]
  · rw [Nat.min_eq_right (by omega), List.take_of_length_le (Nat.le_refl _), List.take_of_length_le (by omega)]
section
variable {P : Program} {w : World} {K : PySem.W.Frag} {mg : Str → Option Value} {base : Heap} {Ps : List Addr}
def spBuilt : Sp := fun vs H Q _ => ∃ (s : Addr) (l : List V) (n widest most : Nat), vs = [.ref s, .int (widest : Nat), .int (most : Nat)] ∧ H s = some (.lst l) ∧ SrcV n l ∧ n + 1000 ≤ 1000000 ∧ widest + most ≤ 190 ∧
  ∀ (H' : Hp) (p t o : Addr) (xs : List Str) (as : List Addr) (es : List Ev) (m : Nat) (l' : List V), Bt H H' s t o xs as es widest most n m l' → H p = none → H' p = some (.tup [.ref t, .ref o]) → Q (.ref p) H'
end
end Ln

set_option Elab.async false
set_option linter.all false
set_option maxRecDepth 100000
set_option maxHeartbeats 4000000
namespace Ln
open PySem PySem.Spec PyProof.Rows L2
/-! ### set(xs), xs a list of whole numbers: a set that can be sorted -/
def UpI (w : World) (h : Heap) (a : Addr) (ns : List Int) (i : Nat) : Prop := ∃ m, SetR w h a (fun k => decide (k ∈ ns.take i)) m ∧ m ≤ i
theorem upI_step {w : World} {h' : Heap} {a : Addr} {ns : List Int} {i m : Nat} {k : Int} (hk : ns[i]? = some k) (hm : m ≤ i)
    (hs : SetR w h' a (fun j => decide (j ∈ ns.take i) || decide (j = k)) (if decide (k ∈ ns.take i) = true then m else m + 1)) : UpI w h' a ns (i + 1) := by
  refine ⟨_, hs.congr fun j => ?_, ?_⟩
  · rw [List.take_add_one, hk]
    show decide (j ∈ ns.take i ++ [k]) = _
    by_cases h1 : j ∈ ns.take i <;> by_cases h2 : j = k <;> simp [h1, h2]
  · split <;> omega
section
variable {P : Program} {w : World} {A : Around} {R : Result → Shared → Prop} {it : Addr} {fp wr : List Addr} {G : Array GenState → Array GenState → Prop} {n : Nat} {Pv : Nat → Value → Prop} {St : Nat → Shared → Prop}
theorem loop_ints (W : WalksS P w A.in1 it fp wr G n Pv St) (S : Addr) (hSf : S ∉ fp) (ns : List Int) (hval : ∀ (i : Nat) (v : Value), Pv i v → ∃ (k : Int) (tk : Tok), ns[i]? = some k ∧ v = .int k tk) (hb : n + 1 < scanBound) :
    ∀ (d i : Nat) (s : Shared), n - i = d → i ≤ n → St i s → UpI w s.heap S ns i →
      (∀ s', Moved (S :: wr) G s s' → UpI w s'.heap S ns n → R (.ok (.ret .none)) s') →
      codeAny (model P w) A (.builtin "set.update.loop" ⟨[.ref S, .ref it], []⟩) R s := by
  have nwr : S ∉ wr := fun z => hSf (W.sub _ z)
  have more : ∀ b ∈ wr, b ∈ S :: wr := fun b z => List.mem_cons_of_mem S z
  intro d
  induction d with
  | zero =>
    intro i s hd hi st ⟨m, hS, hm⟩ hR
    obtain rfl : i = n := by omega
    refine codeAny_builtin PyProof.Rows.F.entry_set_update_loop ?_
    rw [Around.under_plainId (PyProof.Rows.F.plain_set_update_loop) _]
    show wpAny (model P w) A.in1 (pyNext (.ref it) >>= _) _ _ s
    refine wpAny_bind (W.done s _ _ st fun s1 hmv => ?_)
    exact wpAny_pure (hR s1 (hmv.mono more) ⟨m, hS.at fun o e => hmv.heap S o nwr e, hm⟩)
  | succ d ih =>
    intro i s hd hi st ⟨m, hS, hm⟩ hR
    have hlt : i < n := by omega
    refine codeAny_builtin PyProof.Rows.F.entry_set_update_loop ?_
    rw [Around.under_plainId (PyProof.Rows.F.plain_set_update_loop) _]
    show wpAny (model P w) A.in1 (pyNext (.ref it) >>= _) _ _ s
    refine wpAny_bind (W.item i s _ _ hlt st fun v s1 hv st1 hmv => ?_)
    obtain ⟨k, tk, hk, rfl⟩ := hval i v hv
    have hS1 := hS.at fun o e => hmv.heap S o nwr e
    show wpAny (model P w) A.in1 (holding [.int k tk] (setAdd S (.int k tk)) >>= _) _ _ s1
    refine wpAny_bind (wpAny_holding ?_)
    unfold setAdd
    refine wpAny_holding (wpAny_bind ((intKind P w).pyHash (intKind_is P w k tk) ?_))
    refine setR_add_hashed (s := { s1 with toks := s1.toks + 1 }) hS1 (by omega) fun h2 sb hS2 => ?_
    refine wpAny_pure ⟨plainId_quiet (PyProof.Rows.F.plain_set_update_loop) _, ih (i + 1) _ (by omega) hlt (W.frame _ s1 _ _ st1 (Nat.le_succ _) fun b hbf o e => ?_) (upI_step hk hm hS2) fun s3 hm3 hS3 => ?_⟩
    · exact (sb.2 b fun z => hSf (z ▸ hbf)).trans e
    · refine hR s3 (Moved.trans W.gtrans ((hmv.mono more).then_heap (Nat.le_succ _) fun b o hbw e => ?_) hm3) hS3
      exact (sb.2 b fun z => hbw (by rw [z]; exact List.mem_cons_self)).trans e
end
abbrev sObjL (w : World) : Obj := { cls := .type "set", dict := none, data := .set #[] 0 (.fresh 0 0 (!w.params.followText "set-order")) }
section
variable {P : Program} {w : World} {A : Around} {E : Value → Shared → Prop} {s : Shared}
theorem call_set_ints {l : Addr} {items : Array Value} {ns : List Int} {Q : Value → Shared → Prop}
    (hh : A.handled = none) (hl : s.heap.IsList l items) (hi : ∀ (i : Nat) (v : Value), items[i]? = some v → ∃ (k : Int) (tk : Tok), ns[i]? = some k ∧ v = .int k tk) (hb : items.size + 1 < scanBound)
    (h : ∀ (h' : Heap) (tk : Nat), UpI w h' s.heap.objs.size ns items.size → (∀ b o, b < s.heap.objs.size → s.heap.get? b = some o → h'.get? b = some o) → Q (.ref s.heap.objs.size) { s with heap := h', toks := tk }) :
    wpAny (model P w) A (call (.type "set") [.ref l]) Q E s := by
  obtain ⟨mro1, mro2, hmro⟩ := PySem.F.called_set.mro
  have made := PySem.F.called_set.made
  have subs := PySem.F.called_set.sub
  refine wpAny_call (codeAny_of_tree ?_)
  show wpAny (model P w) _ (callAny (.type "set") _) _ _ _
  refine wpAny_pure ⟨Code.quiet_builtin _ (by decide +kernel), codeAny_builtin (PySem.F.entry_type_call) ?_⟩
  rw [Around.under_plain (weight_type_call_type "set" [Value.ref l] []) rfl]
  have notT := PySem.F.called_set.notType
  have canC := PySem.F.called_set.canCreate
  have chk := PySem.F.typeCall_set_1 (Value.ref l)
  repeat (any_goals (first | assumption | wp_step))
  refine codeAny_mono (code_set_led1 (.ref l) (E := E) (Q₁ := fun ob s1 => ob = .ref s.heap.objs.size ∧ s1 = { s with heap := s.heap.push (sObjL w) }) ⟨rfl, rfl⟩) fun r s1 hr => ?_
  match r, hr with
  | .error e, hr => exact hr
  | .ok .next, hr => exact hr.elim
  | .ok .brk, hr => exact hr.elim
  | .ok .cont, hr => exact hr.elim
  | .ok (.ret ob), hr =>
    obtain ⟨rfl, rfl⟩ := hr
    have hS : (s.heap.push (sObjL w)).get? s.heap.objs.size = some (sObjL w) := Heap.get?_push_size _ rfl
    have tyS : Shared.TypeIs { s with heap := s.heap.push (sObjL w) } (.ref s.heap.objs.size) "set" := ⟨_, hS, rfl⟩
    have lkI := PySem.F.called_set.init.lookup
    have bdI := PySem.F.called_set.init.bind (.ref s.heap.objs.size)
    repeat (any_goals (first | assumption | wp_step))
    refine codeAny_mono (codeAny_call_builtin (R := wants (fun r s2 => r = .none ∧ ∃ h' tk, s2 = { s with heap := h', toks := tk } ∧ UpI w h' s.heap.objs.size ns items.size ∧ (∀ b o, b < s.heap.objs.size → s.heap.get? b = some o → h'.get? b = some o)) E)
      (PySem.F.called_set.init.plain) (PySem.F.entry_set_init) (check_set_init_1 tyS ?_)) fun r2 s2 hr2 => ?_
    · obtain ⟨ob, hob, hcl, nl, hdl⟩ := hl
      obtain ⟨oc, od, oda, osl⟩ := ob
      simp only at hcl hdl
      subst hcl
      subst hdl
      have hob1 : (s.heap.push (sObjL w)).get? l = some { cls := .type "list", dict := od, data := .seq items nl, slots := osl } := Heap.get?_push_of_some _ hob
      have n1 := PySem.F.sub_list_set
      have n2 := PySem.F.sub_list_frozenset
      have n3 : (Value.type "list" == Value.type "dict") = false := by decide
      have tup1 : (s.heap.push (sObjL w)).IsList l items := ⟨_, hob1, rfl, nl, rfl⟩
      unfold Builtin.«set.__init__» noKeywords Builtin.Frozenset.updateFrom
      generalize hPI : pyIter = PI
      wp_walk
      subst hPI
      refine wpAny_pyIter_list tup1 (wpAny_bind (wpAny_runValue ?_))
      have lS : l < s.heap.objs.size := Heap.lt_size hob
      have hne : l ≠ (s.heap.push (sObjL w)).objs.size := by
        rw [Heap.size_push]
        exact Nat.ne_of_lt (Nat.lt_succ_of_lt lS)
      have nS : s.heap.objs.size ∉ [(s.heap.push (sObjL w)).objs.size, l] := by
        rw [Heap.size_push]
        intro z
        rcases List.mem_cons.mp z with z | z
        · exact absurd z (Nat.ne_of_lt (Nat.lt_succ_self _))
        · exact absurd (List.mem_singleton.mp z) (Nat.ne_of_gt lS)
      refine loop_ints ((Walks.list (show A.in1.in1.in1.handled = none by simp [hh]) _ l hne items).toS) s.heap.objs.size nS ns hi hb (items.size - 0) 0 _ (by omega) (Nat.zero_le _) ⟨⟨_, Heap.get?_push_size _ rfl, rfl, rfl⟩, tup1.push _⟩ ?hS0 ?hR
      case hS0 =>
        refine ⟨0, ?_, Nat.le_refl _⟩
        have e0 := (setR_fresh (h := s.heap) w).at (h' := (s.heap.push (sObjL w)).push { cls := .type "list_iterator", data := .fields #[.ref l, .int 0 0] }) fun o e => Heap.get?_push_of_some _ e
        exact e0.congr fun k => by simp
      case hR =>
        intro s3 hmv hS3
        obtain ⟨h3, g3, d3, t3, o3⟩ := s3
        have eg : g3 = s.gens := hmv.gens
        have ed : d3 = s.drawn := hmv.drawn
        have eo : o3 = s.os := hmv.os
        subst eg ed eo
        show wpAny (model P w) _ _ _ _ _
        refine wpAny_pure ?_
        show wpAny (model P w) _ (ret Value.none) _ _ _
        refine wpAny_pure ⟨rfl, h3, t3, rfl, hS3, fun b o hb2 e => ?_⟩
        refine hmv.heap b o (fun z => ?_) (Heap.get?_push_of_some _ (Heap.get?_push_of_some _ e))
        rcases List.mem_cons.mp z with z | z
        · exact Nat.ne_of_lt hb2 z
        · have z := List.mem_singleton.mp z
          rw [Heap.size_push] at z
          exact Nat.ne_of_lt (Nat.lt_succ_of_lt hb2) z
    · match r2, hr2 with
      | .error e, hr2 => exact hr2
      | .ok .next, hr2 => exact hr2.elim
      | .ok .brk, hr2 => exact hr2.elim
      | .ok .cont, hr2 => exact hr2.elim
      | .ok (.ret r), hr2 =>
        obtain ⟨rfl, h3, t3, rfl, hS3, hk3⟩ := hr2
        repeat (any_goals (first | assumption | wp_step))
        exact h _ _ hS3 hk3
end
/-- .. and sorted(set(xs)) -/
def rSetI (K : PySem.W.Frag) (w : World) : List V → Hp → VK → Prop := fun xs H Q => ∃ (l : Addr) (ns : List Int), xs = [V.ref l] ∧ SqL K H l (ns.map V.int) ∧ ns.length ≤ 1000 ∧
  ∀ (a : Addr) (L : List Int), H a = none → L.Nodup → (∀ k, k ∈ L ↔ k ∈ ns) → Q (.ref a) (upd H a (SetO w a (fun k => decide (k ∈ ns)) L.length))
section
variable {X : Cx}
theorem cr_setI (hc : X.calm = true) : CallR X (.type "set") (rSetI X.K X.w) := by
  intro pins s σ H xs us Q I r h
  obtain ⟨l, ns, rfl, hl, few, q⟩ := h
  rw [Vals.ref1 r]
  obtain ⟨its, rv, pl, hz⟩ := I.list hl
  have hn : H s.heap.objs.size = none := I.hok.fresh (Nat.le_refl _)
  have hsz : its.toArray.size = ns.length := by rw [List.size_toArray, ← rv.length, List.length_map]
  refine call_set_ints (P := X.prog) (w := X.w) (ns := ns) (I.ok.hd hc) pl.isList (fun i v hv => ?_) (by rw [hsz]; unfold scanBound; omega) fun h' tk R k => ?_
  · have hv : its[i]? = some v := by simpa using hv
    have hlt := (List.getElem?_eq_some_iff.mp hv).1
    have hlt2 : i < ns.length := by rw [← hsz]; simpa using hlt
    obtain ⟨u, hu, ru⟩ := rv.get (i := i) (x := .int ns[i]) (by rw [List.getElem?_map, List.getElem?_eq_getElem hlt2]; rfl)
    rw [hv] at hu
    cases hu
    obtain ⟨tk, rfl⟩ := ru
    exact ⟨ns[i], tk, List.getElem?_eq_getElem hlt2, rfl⟩
  · obtain ⟨m, R, _⟩ := R
    rw [hsz, List.take_length] at R
    obtain ⟨o, es, ep, t, r1, r2, r3, r4, nd, r6, r7, r8, hm, r10⟩ := R
    have R : SetR X.w h' s.heap.objs.size (fun k => decide (k ∈ ns)) (es.toList.map keyOf).length := by
      rw [List.length_map, Array.length_toList, hm]
      exact ⟨o, es, ep, t, r1, r2, r3, r4, nd, r6, r7, r8, hm, r10⟩
    exact ⟨.ref s.heap.objs.size, _, I.laid (t' := tk) (fun b o e => k b o (Heap.lt_size e) e) (Nat.le_refl _) (setO_new R), rfl, q _ _ hn nd fun k => by rw [← r6 k, decide_eq_true_iff]⟩
end
end Ln


set_option Elab.async false
set_option linter.all false
set_option maxRecDepth 100000
set_option maxHeartbeats 4000000
namespace Ln
open PySem
/-! ### what the conditions of a possible lane say, and that a replayed lane keeps them -/
/-- extra(t) from now on, x now -/
def extL (S : List Str) : Int → List Ev → List Int
  | x, [] => [x]
  | x, .inn c :: r => x :: extL S (if c ∈ S then x else x + 1) r
  | x, .out :: r => x :: extL S (x - 1) r
/-- departures until each moment, d now -/
def depL : Int → List Ev → List Int
  | d, [] => [d]
  | d, .inn _ :: r => d :: depL d r
  | d, .out :: r => d :: depL (d + 1) r
/-- how many are present at the end, n now -/
def endI : Int → List Ev → Int
  | n, [] => n
  | n, .inn _ :: r => endI (n + 1) r
  | n, .out :: r => endI (n - 1) r
def fneg (l : List Int) : Option Nat := l.findIdx? fun x => decide (x < 0)
def plcs (S : List Str) : Nat → List Str → List Nat
  | _, [] => []
  | i, c :: r => if c ∈ S then i :: plcs S (i + 1) r else plcs S (i + 1) r
def brgL : List Nat → Nat × Nat
  | [] => (0, 0)
  | a :: r => (a, (a :: r).getLast (List.cons_ne_nil a r) + 1)
abbrev brg (xs S : List Str) : Nat × Nat := brgL (plcs S 0 xs)
def cutN (xs : List Str) (p : Nat × Nat) : List Str := (xs.take p.2).drop p.1
def hasBlk (xs F : List Str) : Bool := decide (cutN xs (brg xs F) = cutN F (brg F xs))
def isPk (o : List Nat) (i : Nat) : Bool := decide (o.getD (i - 1) 0 < o.getD i 0) && decide (o.getD (i + 1) 0 < o.getD i 0)
def fpk (o : List Nat) : Option Nat := (List.range' 1 (o.length - 2)).find? (isPk o)
/-- the stayers that arrive: the car, the moment, left or right of the first ones -/
def arrSt (F : List Str) : Option Nat → Nat → List Ev → List (Str × Nat × Option Bool)
  | _, _, [] => []
  | lo, m, .out :: r => arrSt F lo (m + 1) r
  | lo, m, .inn c :: r => if c ∈ F then
      match lo with
      | none => (c, m, none) :: arrSt F (some (F.idxOf c)) (m + 1) r
      | some l => (c, m, some (decide (F.idxOf c < l))) :: arrSt F (some l) (m + 1) r
    else arrSt F lo (m + 1) r
def tooFew (nL nR g : Int) : Option Bool → Bool
  | none => false
  | some true => decide (g < nL)
  | some false => decide (g < nR)
def needL (x : Int) : Option Bool → Int
  | some false => x
  | _ => 0
def needR (x : Int) : Option Bool → Int
  | some true => x
  | _ => 0
def swF (dep ext : List Int) : Int → Int → Option Str → Nat → List (Str × Nat × Option Bool) → Option (Option Str × Str)
  | _, _, _, _, [] => none
  | nL, nR, b, s, (c, m, sd) :: r => if tooFew nL nR (dep.getD m 0 - dep.getD s 0) sd = true then some (b, c) else swF dep ext (needL (ext.getD m 0) sd) (needR (ext.getD m 0) sd) (some c) m r
inductive Why where
  | ok
  | cars
  | block
  | order (i : Nat)
  | moment (t : Nat)
  | switch (b : Option Str) (c : Str)
def stayN (xs S : List Str) : Nat := (xs.filter fun c => decide (c ∈ S)).length
abbrev ext0 (xs S : List Str) (es : List Ev) : List Int := extL S ((xs.length : Int) - stayN xs S) es
def lo0 (p : Nat × Nat) : Option Nat := if p.2 = 0 then none else some p.1
def carsOk (xs : List Str) (es : List Ev) (F : List Str) : Bool := decide ((F.length : Int) = endI xs.length es) && F.all fun c => decide (c ∈ xs ++ arrs es)
def swC (xs : List Str) (es : List Ev) (F : List Str) : Option (Option Str × Str) :=
  swF (depL 0 es) (ext0 xs F es) (brg xs F).1 ((xs.length : Int) - (brg xs F).2) none 0 (arrSt F (lo0 (brg F xs)) 1 es)
def why (xs : List Str) (es : List Ev) (F : List Str) : Why :=
  if carsOk xs es F = false then .cars else if hasBlk xs F = false then .block else
    match fpk (F.map fun c => (xs ++ arrs es).idxOf c) with
    | some i => .order i
    | none => match fneg (ext0 xs F es) with
      | some t => .moment t
      | none => match swC xs es F with
        | some (b, c) => .switch b c
        | none => .ok
/-! ### histories -/
inductive Mv : List Str → Ev → List Str → Prop
  | inL (c : Str) (L : List Str) : Mv L (.inn c) (c :: L)
  | inR (c : Str) (L : List Str) : Mv L (.inn c) (L ++ [c])
  | outL (x : Str) (L : List Str) : Mv (x :: L) .out L
  | outR (x : Str) (L : List Str) : Mv (L ++ [x]) .out L
inductive Run : List Str → List Ev → List Str → Prop
  | nil (L : List Str) : Run L [] L
  | cons {L L1 F : List Str} {e : Ev} {r : List Ev} : Mv L e L1 → Run L1 r F → Run L (e :: r) F
theorem Run.snoc {L F F' : List Str} {es : List Ev} {e : Ev} (h : Run L es F) (m : Mv F e F') : Run L (es ++ [e]) F' := by
  induction h with
  | nil L => exact .cons m (.nil _)
  | cons m1 _ ih => exact .cons m1 (ih m)
theorem Mv.rev {L L1 : List Str} {e : Ev} (m : Mv L e L1) : Mv L.reverse e L1.reverse := by
  cases m with
  | inL c L => rw [List.reverse_cons]; exact .inR c _
  | inR c L => rw [List.reverse_append]; exact .inL c _
  | outL x L => rw [List.reverse_cons]; exact .outR x _
  | outR x L => rw [List.reverse_append]; exact .outL x _
theorem Run.rev {L F : List Str} {es : List Ev} (h : Run L es F) : Run L.reverse es F.reverse := by
  induction h with
  | nil L => exact .nil _
  | cons m _ ih => exact .cons m.rev ih
theorem Mv.len {L L1 : List Str} {e : Ev} (m : Mv L e L1) : (L1.length : Int) = endI L.length [e] := by
  cases m with
  | inL c L => show ((L.length + 1 : Nat) : Int) = (L.length : Int) + 1; omega
  | inR c L => rw [List.length_append]; show ((L.length + 1 : Nat) : Int) = (L.length : Int) + 1; omega
  | outL x L => show (L1.length : Int) = ((L1.length + 1 : Nat) : Int) - 1; omega
  | outR x L => rw [List.length_append]; show (L1.length : Int) = ((L1.length + 1 : Nat) : Int) - 1; omega
theorem endI_cons (n : Int) (e : Ev) (r : List Ev) : endI n (e :: r) = endI (endI n [e]) r := by cases e <;> rfl
theorem endI_app : ∀ (n : Int) (a b : List Ev), endI n (a ++ b) = endI (endI n a) b
  | _, [], _ => rfl
  | n, e :: r, b => by
    rw [List.cons_append, endI_cons, endI_app, ← endI_cons]
theorem Run.len {L F : List Str} {es : List Ev} (h : Run L es F) : (F.length : Int) = endI L.length es := by
  induction h with
  | nil L => rfl
  | cons m _ ih => rw [ih, m.len, ← endI_cons]
theorem Mv.mem {L L1 : List Str} {e : Ev} (m : Mv L e L1) : ∀ x ∈ L1, x ∈ L ++ arrs [e] := by
  intro x hx
  cases m with
  | inL c L => exact List.mem_append.mpr ((List.mem_cons.mp hx).elim (fun e => .inr (by rw [e]; exact List.mem_cons_self)) .inl)
  | inR c L => exact hx
  | outL y L => exact List.mem_append_left _ (List.mem_cons_of_mem _ hx)
  | outR y L => exact List.mem_append_left _ (List.mem_append_left _ hx)
theorem arrs_cons (e : Ev) (r : List Ev) : arrs (e :: r) = arrs [e] ++ arrs r := by rw [← arrs_app]; rfl
theorem Run.mem {L F : List Str} {es : List Ev} (h : Run L es F) : ∀ x ∈ F, x ∈ L ++ arrs es := by
  induction h with
  | nil L => exact fun x hx => List.mem_append_left _ hx
  | cons m _ ih =>
    intro x hx
    rw [arrs_cons, ← List.append_assoc]
    rcases List.mem_append.mp (ih x hx) with h | h
    · exact List.mem_append_left _ (m.mem x h)
    · exact List.mem_append_right _ h
theorem Mv.nodup {L L1 : List Str} {e : Ev} {r : List Str} (m : Mv L e L1) (h : (L ++ (arrs [e] ++ r)).Nodup) : (L1 ++ r).Nodup := by
  cases m with
  | inL c L =>
    have : (L ++ ([c] ++ r)).Perm (c :: L ++ r) := by
      show (L ++ c :: r).Perm _
      exact List.perm_middle
    exact this.nodup_iff.mp h
  | inR c L => rw [List.append_assoc]; exact h
  | outL x L => exact (List.nodup_cons.mp h).2
  | outR x L =>
    refine h.sublist ?_
    rw [List.append_assoc]
    exact (List.Sublist.refl _).append (List.sublist_append_right _ _)
theorem Run.nodup {L F : List Str} {es : List Ev} (h : Run L es F) (hn : (L ++ arrs es).Nodup) : F.Nodup := by
  induction h with
  | nil L => exact (List.nodup_append.mp hn).1
  | cons m _ ih =>
    rw [arrs_cons] at hn
    exact ih (m.nodup hn)
/-- how a lane is made of leavers A, stayers B, leavers C; D and E are still to arrive on the left and the right -/
inductive Spl (F : List Str) : List Str → List Str → List Str → List Str → List Str → List Ev → Prop
  | nil : Spl F [] F [] [] [] []
  | mid {A C A' C' D E : List Str} {r : List Ev} : A' ++ C' = A ++ C → Spl F A [] C D E r → Spl F A' [] C' D E r
  | stL {B C D E : List Str} {r : List Ev} (c : Str) : Spl F [] (c :: B) C D E r → Spl F [] B C (D ++ [c]) E (.inn c :: r)
  | stR {A B D E : List Str} {r : List Ev} (c : Str) : Spl F A (B ++ [c]) [] D E r → Spl F A B [] D (c :: E) (.inn c :: r)
  | lvL {A B C D E : List Str} {r : List Ev} (c : Str) : c ∉ F → Spl F (c :: A) B C D E r → Spl F A B C D E (.inn c :: r)
  | lvR {A B C D E : List Str} {r : List Ev} (c : Str) : c ∉ F → Spl F A B (C ++ [c]) D E r → Spl F A B C D E (.inn c :: r)
  | outL {A B C D E : List Str} {r : List Ev} (x : Str) : Spl F A B C D E r → Spl F (x :: A) B C D E (.out :: r)
  | outR {A B C D E : List Str} {r : List Ev} (x : Str) : Spl F A B C D E r → Spl F A B (C ++ [x]) D E (.out :: r)
theorem Spl.eqF {F A B C D E : List Str} {r : List Ev} (h : Spl F A B C D E r) : F = D ++ B ++ E := by
  induction h with
  | nil => rw [List.append_nil]; rfl
  | mid _ _ ih => exact ih
  | stL c _ ih => rw [ih]; simp
  | stR c _ ih => rw [ih]; simp
  | lvL c _ _ ih => exact ih
  | lvR c _ _ ih => exact ih
  | outL x _ ih => exact ih
  | outR x _ ih => exact ih
theorem Spl.late {F A B C D E : List Str} {r : List Ev} (h : Spl F A B C D E r) : ∀ x ∈ D ++ E, x ∈ arrs r := by
  induction h with
  | nil => exact fun x hx => hx
  | mid _ _ ih => exact ih
  | stL c _ ih =>
    intro x hx
    rw [List.append_assoc] at hx
    rcases List.mem_append.mp hx with h | h
    · exact List.mem_cons_of_mem _ (ih x (List.mem_append_left _ h))
    · rcases List.mem_cons.mp h with e | h
      · rw [e]; exact List.mem_cons_self
      · exact List.mem_cons_of_mem _ (ih x (List.mem_append_right _ h))
  | stR c _ ih =>
    intro x hx
    rcases List.mem_append.mp hx with h | h
    · exact List.mem_cons_of_mem _ (ih x (List.mem_append_left _ h))
    · rcases List.mem_cons.mp h with e | h
      · rw [e]; exact List.mem_cons_self
      · exact List.mem_cons_of_mem _ (ih x (List.mem_append_right _ h))
  | lvL c _ _ ih => exact fun x hx => List.mem_cons_of_mem _ (ih x hx)
  | lvR c _ _ ih => exact fun x hx => List.mem_cons_of_mem _ (ih x hx)
  | outL x _ ih => exact ih
  | outR x _ ih => exact ih
theorem split {L F : List Str} {es : List Ev} (h : Run L es F) : (L ++ arrs es).Nodup → ∃ A B C D E, L = A ++ B ++ C ∧ Spl F A B C D E es ∧ ∀ x ∈ A ++ C, x ∉ F := by
  induction h with
  | nil L => exact fun _ => ⟨[], L, [], [], [], by simp, .nil, fun x hx => by cases hx⟩
  | @cons L L1 F e r m hr ih =>
    intro hn
    have hn0 := hn
    rw [arrs_cons] at hn
    obtain ⟨A, B, C, D, E, hL, hS, hA⟩ := ih (m.nodup hn)
    cases m with
    | inL c L =>
      match A, B, hL, hS, hA with
      | a :: A, B, hL, hS, hA =>
        have hL : c :: L = a :: (A ++ B ++ C) := hL
        obtain ⟨rfl, rfl⟩ := List.cons.inj hL
        exact ⟨A, B, C, D, E, rfl, .lvL c (hA c List.mem_cons_self) hS, fun x hx => hA x (List.mem_cons_of_mem _ hx)⟩
      | [], b :: B, hL, hS, hA =>
        have hL : c :: L = b :: (B ++ C) := hL
        obtain ⟨rfl, rfl⟩ := List.cons.inj hL
        exact ⟨[], B, C, D ++ [c], E, rfl, .stL c hS, hA⟩
      | [], [], hL, hS, hA =>
        have hL : c :: L = C := hL
        subst hL
        exact ⟨L, [], [], D, E, by simp, .lvL c (hA c List.mem_cons_self) (.mid (by simp) hS), fun x hx => hA x (List.mem_cons_of_mem _ (by simpa using hx))⟩
    | inR c L =>
      rcases List.eq_nil_or_concat C with rfl | ⟨C, a, rfl⟩
      · rcases List.eq_nil_or_concat B with rfl | ⟨B, b, rfl⟩
        · have hL : L ++ [c] = A := by simpa using hL
          subst hL
          exact ⟨[], [], L, D, E, by simp, .lvR c (hA c (by simp)) (.mid (by simp) hS), fun x hx => hA x (by simp at hx; simp [hx])⟩
        · have hL : L ++ [c] = (A ++ B) ++ [b] := by simpa [List.append_assoc] using hL
          obtain ⟨rfl, e⟩ := List.append_inj' hL rfl
          obtain rfl : c = b := by simpa using e
          refine ⟨A, B, [], D, c :: E, by simp, .stR c (by simpa using hS), hA⟩
      · have hL : L ++ [c] = (A ++ B ++ C) ++ [a] := by simpa [List.append_assoc] using hL
        obtain ⟨rfl, e⟩ := List.append_inj' hL rfl
        obtain rfl : c = a := by simpa using e
        exact ⟨A, B, C, D, E, rfl, .lvR c (hA c (by simp)) (by simpa using hS), fun x hx => hA x (by simp at hx ⊢; exact hx.elim .inl fun h => .inr (.inl h))⟩
    | outL x L =>
      have hx : x ∉ F := fun hx => by
        rcases List.mem_append.mp (hr.mem x hx) with h | h
        · have := (List.nodup_cons.mp hn).1
          exact this (List.mem_append_left _ h)
        · have := (List.nodup_cons.mp hn).1
          exact this (List.mem_append_right _ h)
      subst hL
      refine ⟨x :: A, B, C, D, E, rfl, .outL x hS, fun y hy => ?_⟩
      rcases List.mem_cons.mp hy with e | h
      · rw [e]; exact hx
      · exact hA y h
    | outR x L =>
      have hx : x ∉ F := fun hx => by
        have hd := (List.nodup_append.mp hn).2.2
        have h1 := (List.nodup_append.mp (List.nodup_append.mp hn).1).2.2
        rcases List.mem_append.mp (hr.mem x hx) with h | h
        · exact h1 x h x List.mem_cons_self rfl
        · exact hd x (List.mem_append_right _ List.mem_cons_self) x h rfl
      subst hL
      refine ⟨A, B, C ++ [x], D, E, by simp, .outR x hS, fun y hy => ?_⟩
      rw [← List.append_assoc] at hy
      rcases List.mem_append.mp hy with h | h
      · exact hA y h
      · rw [List.mem_singleton.mp h]; exact hx
end Ln


set_option Elab.async false
set_option linter.all false
set_option maxRecDepth 100000
set_option maxHeartbeats 4000000
namespace Ln
open PySem
theorem idx_mid {P S : List Str} {c : Str} (h : (P ++ c :: S).Nodup) : (P ++ c :: S).idxOf c = P.length := by
  have hc : c ∉ P := fun z => (List.nodup_append.mp h).2.2 c z c List.mem_cons_self rfl
  rw [List.idxOf_append, if_neg hc, List.idxOf_cons_self]
  omega
/-- who arrives later has the greater number -/
theorem Spl.asc {F A B C D E : List Str} {r : List Ev} (h : Spl F A B C D E r) : ∀ (P : List Str) (kn : List Str), kn = P ++ arrs r → kn.Nodup →
    D.Pairwise (fun a b => kn.idxOf b < kn.idxOf a) ∧ E.Pairwise (fun a b => kn.idxOf a < kn.idxOf b) ∧ ∀ d ∈ D ++ E, P.length ≤ kn.idxOf d := by
  induction h with
  | nil => exact fun _ _ _ _ => ⟨.nil, .nil, fun d hd => by cases hd⟩
  | mid _ _ ih => exact ih
  | @stL B C D E r c _ ih =>
    intro P kn hk hn
    have hk2 : kn = (P ++ [c]) ++ arrs r := by rw [hk]; simp [arrs]
    obtain ⟨h1, h2, h3⟩ := ih (P ++ [c]) kn hk2 hn
    have hc : kn.idxOf c = P.length := by
      have hk' : kn = P ++ c :: arrs r := hk
      rw [hk'] at hn ⊢
      exact idx_mid hn
    rw [List.length_append] at h3
    refine ⟨?_, h2, fun d hd => ?_⟩
    · refine List.pairwise_append.mpr ⟨h1, List.pairwise_singleton _ _, fun a ha b hb => ?_⟩
      rw [List.mem_singleton.mp hb, hc]
      exact h3 a (List.mem_append_left _ ha)
    · have : d = c ∨ d ∈ D ++ E := by simp at hd ⊢; rcases hd with h | h | h <;> simp [h]
      rcases this with e | h
      · rw [e, hc]; exact Nat.le_refl _
      · exact Nat.le_of_succ_le (h3 d h)
  | @stR A B D E r c _ ih =>
    intro P kn hk hn
    have hk2 : kn = (P ++ [c]) ++ arrs r := by rw [hk]; simp [arrs]
    obtain ⟨h1, h2, h3⟩ := ih (P ++ [c]) kn hk2 hn
    have hc : kn.idxOf c = P.length := by
      have hk' : kn = P ++ c :: arrs r := hk
      rw [hk'] at hn ⊢
      exact idx_mid hn
    rw [List.length_append] at h3
    refine ⟨h1, ?_, fun d hd => ?_⟩
    · refine List.pairwise_cons.mpr ⟨fun a ha => ?_, h2⟩
      rw [hc]
      exact h3 a (List.mem_append_right _ ha)
    · have : d = c ∨ d ∈ D ++ E := by simp at hd ⊢; rcases hd with h | h | h <;> simp [h]
      rcases this with e | h
      · rw [e, hc]; exact Nat.le_refl _
      · exact Nat.le_of_succ_le (h3 d h)
  | lvL c _ _ ih =>
    intro P kn hk hn
    obtain ⟨h1, h2, h3⟩ := ih (P ++ [c]) kn (by rw [hk]; simp [arrs]) hn
    rw [List.length_append] at h3
    exact ⟨h1, h2, fun d hd => Nat.le_of_succ_le (h3 d hd)⟩
  | lvR c _ _ ih =>
    intro P kn hk hn
    obtain ⟨h1, h2, h3⟩ := ih (P ++ [c]) kn (by rw [hk]; simp [arrs]) hn
    rw [List.length_append] at h3
    exact ⟨h1, h2, fun d hd => Nat.le_of_succ_le (h3 d hd)⟩
  | outL x _ ih => exact ih
  | outR x _ ih => exact ih
theorem fpk_valley {d u : List Nat} (hd : d.Pairwise (fun a b => b < a)) (hu : u.Pairwise (fun a b => a < b)) : fpk (d ++ u) = none := by
  unfold fpk
  rw [List.find?_eq_none]
  intro i hi
  rw [List.mem_range'_1] at hi
  obtain ⟨h1, h2⟩ := hi
  unfold isPk
  intro z
  rw [Bool.and_eq_true] at z
  have z1 := of_decide_eq_true z.1
  have z2 := of_decide_eq_true z.2
  have hl : i + 1 < (d ++ u).length := by omega
  rw [List.getD_eq_getElem?_getD, List.getD_eq_getElem?_getD, List.getElem?_eq_getElem (show i - 1 < (d ++ u).length by omega), List.getElem?_eq_getElem (show i < (d ++ u).length by omega)] at z1
  rw [List.getD_eq_getElem?_getD, List.getD_eq_getElem?_getD, List.getElem?_eq_getElem hl, List.getElem?_eq_getElem (show i < (d ++ u).length by omega)] at z2
  simp only [Option.getD_some] at z1 z2
  rw [List.length_append] at hl
  by_cases q : i < d.length
  · rw [List.getElem_append_left (show i - 1 < d.length by omega), List.getElem_append_left q] at z1
    have := List.pairwise_iff_getElem.mp hd (i - 1) i (by omega) q (by omega)
    omega
  · rw [List.getElem_append_right (show d.length ≤ i by omega), List.getElem_append_right (show d.length ≤ i + 1 by omega)] at z2
    have := List.pairwise_iff_getElem.mp hu (i - d.length) (i + 1 - d.length) (by omega) (by omega) (by omega)
    omega
theorem pw_map {α : Type} {R : α → α → Prop} {S : Nat → Nat → Prop} {f : α → Nat} {l : List α} (h : l.Pairwise R) (g : ∀ a b, R a b → S (f a) (f b)) : (l.map f).Pairwise S := List.pairwise_map.mpr (h.imp fun {a b} q => g a b q)
/-- the slices of the first lane ascend -/
theorem mid_asc {A B C R : List Str} (hn : (A ++ B ++ C ++ R).Nodup) : B.Pairwise (fun a b => (A ++ B ++ C ++ R).idxOf a < (A ++ B ++ C ++ R).idxOf b) ∧ ∀ b ∈ B, (A ++ B ++ C ++ R).idxOf b < (A ++ B ++ C).length := by
  have key : ∀ (i : Nat) (h : i < B.length), (A ++ B ++ C ++ R).idxOf B[i] = A.length + i := fun i h => by
    have h2 : A.length + i < (A ++ B ++ C ++ R).length := by simp; omega
    have e : (A ++ B ++ C ++ R)[A.length + i]'h2 = B[i] := by
      simp [List.getElem_append, h]
    rw [← e]
    exact hn.idxOf_getElem _ h2
  refine ⟨List.pairwise_iff_getElem.mpr fun i j hi hj hij => ?_, fun b hb => ?_⟩
  · rw [key i hi, key j hj]
    omega
  · obtain ⟨i, hi, rfl⟩ := List.mem_iff_getElem.mp hb
    rw [key i hi]
    simp
    omega
theorem Spl.fpk {F A B C D E : List Str} {es : List Ev} (h : Spl F A B C D E es) (hn : (A ++ B ++ C ++ arrs es).Nodup) : Ln.fpk (F.map fun c => (A ++ B ++ C ++ arrs es).idxOf c) = none := by
  obtain ⟨h1, h2, h3⟩ := h.asc (A ++ B ++ C) _ rfl hn
  obtain ⟨h4, h5⟩ := mid_asc hn
  generalize hkn : A ++ B ++ C ++ arrs es = kn at *
  rw [h.eqF, List.append_assoc, List.map_append]
  refine fpk_valley (pw_map h1 fun _ _ q => q) (pw_map (R := fun a b => kn.idxOf a < kn.idxOf b) ?_ fun _ _ q => q)
  exact List.pairwise_append.mpr ⟨h4, h2, fun a ha b hb => Nat.lt_of_lt_of_le (h5 a ha) (h3 b (List.mem_append_right _ hb))⟩
/-! ### moments -/
theorem Spl.ext {F A B C D E : List Str} {r : List Ev} (h : Spl F A B C D E r) : ∀ y ∈ extL F ((A.length + C.length : Nat) : Int) r, 0 ≤ y := by
  induction h with
  | nil => intro y hy; rw [List.mem_singleton.mp hy]; omega
  | @mid A C A' C' D E r e _ ih =>
    have : A'.length + C'.length = A.length + C.length := by rw [← List.length_append, e, List.length_append]
    rw [this]
    exact ih
  | @stL B C D E r c hS ih =>
    have hc : c ∈ F := by rw [hS.eqF]; simp
    intro y hy
    have hy : y ∈ ((([] : List Str).length + C.length : Nat) : Int) :: extL F (if c ∈ F then ((([] : List Str).length + C.length : Nat) : Int) else _) r := hy
    rw [if_pos hc] at hy
    rcases List.mem_cons.mp hy with e | e
    · rw [e]; omega
    · exact ih y e
  | @stR A B D E r c hS ih =>
    have hc : c ∈ F := by rw [hS.eqF]; simp
    intro y hy
    have hy : y ∈ ((A.length + ([] : List Str).length : Nat) : Int) :: extL F (if c ∈ F then ((A.length + ([] : List Str).length : Nat) : Int) else _) r := hy
    rw [if_pos hc] at hy
    rcases List.mem_cons.mp hy with e | e
    · rw [e]; omega
    · exact ih y e
  | @lvL A B C D E r c hc _ ih =>
    intro y hy
    have hy : y ∈ ((A.length + C.length : Nat) : Int) :: extL F (if c ∈ F then _ else ((A.length + C.length : Nat) : Int) + 1) r := hy
    rw [if_neg hc] at hy
    rcases List.mem_cons.mp hy with e | e
    · rw [e]; omega
    · refine ih y ?_
      rw [List.length_cons, show ((A.length + 1 + C.length : Nat) : Int) = ((A.length + C.length : Nat) : Int) + 1 by omega]
      exact e
  | @lvR A B C D E r c hc _ ih =>
    intro y hy
    have hy : y ∈ ((A.length + C.length : Nat) : Int) :: extL F (if c ∈ F then _ else ((A.length + C.length : Nat) : Int) + 1) r := hy
    rw [if_neg hc] at hy
    rcases List.mem_cons.mp hy with e | e
    · rw [e]; omega
    · refine ih y ?_
      rw [List.length_append, List.length_singleton, show ((A.length + (C.length + 1) : Nat) : Int) = ((A.length + C.length : Nat) : Int) + 1 by omega]
      exact e
  | @outL A B C D E r x _ ih =>
    intro y hy
    rcases List.mem_cons.mp hy with e | e
    · rw [e]; omega
    · refine ih y ?_
      rw [List.length_cons, show (((A.length + 1 + C.length : Nat) : Int) - 1) = ((A.length + C.length : Nat) : Int) by omega] at e
      exact e
  | @outR A B C D E r x _ ih =>
    intro y hy
    rcases List.mem_cons.mp hy with e | e
    · rw [e]; omega
    · refine ih y ?_
      rw [List.length_append, List.length_singleton, show (((A.length + (C.length + 1) : Nat) : Int) - 1) = ((A.length + C.length : Nat) : Int) by omega] at e
      exact e
/-! ### blocks -/
theorem plcs_none {S : List Str} : ∀ {xs : List Str} {i : Nat}, (∀ x ∈ xs, x ∉ S) → plcs S i xs = []
  | [], _, _ => rfl
  | c :: r, i, h => by
    show (if c ∈ S then _ else plcs S (i + 1) r) = []
    rw [if_neg (h c List.mem_cons_self)]
    exact plcs_none fun x hx => h x (List.mem_cons_of_mem _ hx)
theorem plcs_app {S : List Str} : ∀ (xs ys : List Str) (i : Nat), plcs S i (xs ++ ys) = plcs S i xs ++ plcs S (i + xs.length) ys
  | [], _, _ => rfl
  | c :: r, ys, i => by
    show (if c ∈ S then i :: plcs S (i + 1) (r ++ ys) else plcs S (i + 1) (r ++ ys)) = (if c ∈ S then i :: plcs S (i + 1) r else plcs S (i + 1) r) ++ _
    rw [plcs_app r ys (i + 1), List.length_cons, show i + (r.length + 1) = i + 1 + r.length by omega]
    split <;> rfl
theorem plcs_all {S : List Str} : ∀ {xs : List Str} {i : Nat}, (∀ x ∈ xs, x ∈ S) → plcs S i xs = List.range' i xs.length
  | [], _, _ => rfl
  | c :: r, i, h => by
    show (if c ∈ S then i :: plcs S (i + 1) r else _) = _
    rw [if_pos (h c List.mem_cons_self), plcs_all fun x hx => h x (List.mem_cons_of_mem _ hx)]
    rfl
theorem brg_mid {A B C S : List Str} (hA : ∀ x ∈ A, x ∉ S) (hB : ∀ x ∈ B, x ∈ S) (hC : ∀ x ∈ C, x ∉ S) : brg (A ++ B ++ C) S = if B = [] then (0, 0) else (A.length, A.length + B.length) := by
  unfold brg
  rw [plcs_app, plcs_app, plcs_none hA, plcs_none hC, plcs_all hB, List.append_nil, List.nil_append, Nat.zero_add]
  cases B with
  | nil => rfl
  | cons b r =>
    rw [if_neg (List.cons_ne_nil b r)]
    have e : ∀ (k n : Nat) (h : k :: List.range' (k + 1) n ≠ []), (k :: List.range' (k + 1) n).getLast h + 1 = k + (n + 1) := fun k n h => by
      have : (k :: List.range' (k + 1) n).getLast? = some (k + n) := by
        show (List.range' k (n + 1)).getLast? = _
        rw [List.range'_1_concat, List.getLast?_concat]
      rw [List.getLast?_eq_some_getLast h] at this
      rw [Option.some.inj this]
      omega
    exact Prod.ext rfl (e A.length r.length _)
theorem cut_mid (A B C : List Str) : cutN (A ++ B ++ C) (A.length, A.length + B.length) = B := by
  unfold cutN
  show ((A ++ B ++ C).take (A.length + B.length)).drop A.length = B
  rw [show A.length + B.length = (A ++ B).length by simp, List.take_left, List.drop_left]
theorem cut_zero (L : List Str) : cutN L (0, 0) = [] := rfl
theorem Spl.blk {F A B C D E : List Str} {es : List Ev} (h : Spl F A B C D E es) (hn : (A ++ B ++ C ++ arrs es).Nodup) (hA : ∀ x ∈ A ++ C, x ∉ F) :
    brg (A ++ B ++ C) F = (if B = [] then (0, 0) else (A.length, A.length + B.length)) ∧ brg F (A ++ B ++ C) = (if B = [] then (0, 0) else (D.length, D.length + B.length)) := by
  have hl : ∀ x ∈ D ++ E, x ∉ A ++ B ++ C := fun x hx z => (List.nodup_append.mp hn).2.2 x z x (h.late x hx) rfl
  constructor
  · refine brg_mid (fun x hx => hA x (List.mem_append_left _ hx)) (fun x hx => ?_) fun x hx => hA x (List.mem_append_right _ hx)
    rw [h.eqF]
    simp [hx]
  · have := brg_mid (A := D) (B := B) (C := E) (S := A ++ B ++ C) (fun x hx => hl x (List.mem_append_left _ hx)) (fun x hx => by simp [hx]) (fun x hx => hl x (List.mem_append_right _ hx))
    rw [← h.eqF] at this
    exact this
/-! ### switches -/
def swG (F : List Str) : Option Nat → Int → Int → Int → Option Str → List Ev → Option (Option Str × Str)
  | _, _, _, _, _, [] => none
  | lo, nL, nR, x, b, .out :: r => swG F lo (nL - 1) (nR - 1) (x - 1) b r
  | lo, nL, nR, x, b, .inn c :: r => if c ∈ F then
      match lo with
      | none => swG F (some (F.idxOf c)) 0 0 x (some c) r
      | some l => if F.idxOf c < l then (if 0 < nL then some (b, c) else swG F (some l) 0 x x (some c) r) else (if 0 < nR then some (b, c) else swG F (some l) x 0 x (some c) r)
    else swG F lo nL nR (x + 1) b r
theorem swF_G {F : List Str} {dep ext : List Int} : ∀ (r : List Ev) (lo : Option Nat) (nL nR : Int) (b : Option Str) (s k : Nat) (d x : Int), dep.drop k = depL d r → ext.drop k = extL F x r →
    swF dep ext nL nR b s (arrSt F lo (k + 1) r) = swG F lo (nL - (d - dep.getD s 0)) (nR - (d - dep.getD s 0)) x b r
  | [], _, _, _, _, _, _, _, _, _, _ => rfl
  | .out :: r, lo, nL, nR, b, s, k, d, x, h1, h2 => by
    have h1' : dep.drop (k + 1) = depL (d + 1) r := by rw [← List.drop_drop, h1]; rfl
    have h2' : ext.drop (k + 1) = extL F (x - 1) r := by rw [← List.drop_drop, h2]; rfl
    show swF dep ext nL nR b s (arrSt F lo (k + 1 + 1) r) = swG F lo _ _ (x - 1) b r
    rw [swF_G r lo nL nR b s (k + 1) (d + 1) (x - 1) h1' h2']
    congr 1 <;> omega
  | .inn c :: r, lo, nL, nR, b, s, k, d, x, h1, h2 => by
    have h1' : dep.drop (k + 1) = depL d r := by rw [← List.drop_drop, h1]; rfl
    have hd : dep.getD (k + 1) 0 = d := by
      have : (dep.drop (k + 1))[0]? = some d := by rw [h1']; cases r with | nil => rfl | cons e r => cases e <;> rfl
      rw [List.getElem?_drop] at this
      rw [List.getD_eq_getElem?_getD, show k + 1 = k + 1 + 0 from rfl, this]
      rfl
    by_cases hc : c ∈ F
    · have h2' : ext.drop (k + 1) = extL F x r := by
        rw [← List.drop_drop, h2]
        show extL F (if c ∈ F then x else x + 1) r = _
        rw [if_pos hc]
      have hx : ext.getD (k + 1) 0 = x := by
        have : (ext.drop (k + 1))[0]? = some x := by rw [h2']; cases r with | nil => rfl | cons e r => cases e <;> rfl
        rw [List.getElem?_drop] at this
        rw [List.getD_eq_getElem?_getD, show k + 1 = k + 1 + 0 from rfl, this]
        rfl
      cases lo with
      | none =>
        show swF dep ext nL nR b s (if c ∈ F then (c, k + 1, none) :: arrSt F (some (F.idxOf c)) (k + 1 + 1) r else _) = (if c ∈ F then swG F (some (F.idxOf c)) 0 0 x (some c) r else _)
        rw [if_pos hc, if_pos hc]
        show (if false = true then _ else swF dep ext 0 0 (some c) (k + 1) (arrSt F (some (F.idxOf c)) (k + 1 + 1) r)) = _
        rw [if_neg Bool.false_ne_true, swF_G r _ 0 0 (some c) (k + 1) (k + 1) d x h1' h2', hd]
        congr 1 <;> omega
      | some l =>
        show swF dep ext nL nR b s (if c ∈ F then (c, k + 1, some (decide (F.idxOf c < l))) :: arrSt F (some l) (k + 1 + 1) r else _) = (if c ∈ F then (if F.idxOf c < l then (if 0 < nL - (d - dep.getD s 0) then some (b, c) else swG F (some l) 0 x x (some c) r) else (if 0 < nR - (d - dep.getD s 0) then some (b, c) else swG F (some l) x 0 x (some c) r)) else _)
        rw [if_pos hc, if_pos hc]
        by_cases hl : F.idxOf c < l
        · rw [decide_eq_true hl, if_pos hl]
          show (if decide (dep.getD (k + 1) 0 - dep.getD s 0 < nL) = true then some (b, c) else swF dep ext 0 (ext.getD (k + 1) 0) (some c) (k + 1) (arrSt F (some l) (k + 1 + 1) r)) = _
          rw [hd, hx]
          by_cases q : d - dep.getD s 0 < nL
          · rw [if_pos (decide_eq_true q), if_pos (by omega)]
          · rw [if_neg (by simpa using q), if_neg (by omega), swF_G r _ 0 x (some c) (k + 1) (k + 1) d x h1' h2', hd]
            congr 1 <;> omega
        · rw [decide_eq_false hl, if_neg hl]
          show (if decide (dep.getD (k + 1) 0 - dep.getD s 0 < nR) = true then some (b, c) else swF dep ext (ext.getD (k + 1) 0) 0 (some c) (k + 1) (arrSt F (some l) (k + 1 + 1) r)) = _
          rw [hd, hx]
          by_cases q : d - dep.getD s 0 < nR
          · rw [if_pos (decide_eq_true q), if_pos (by omega)]
          · rw [if_neg (by simpa using q), if_neg (by omega), swF_G r _ x 0 (some c) (k + 1) (k + 1) d x h1' h2', hd]
            congr 1 <;> omega
    · have h2' : ext.drop (k + 1) = extL F (x + 1) r := by
        rw [← List.drop_drop, h2]
        show extL F (if c ∈ F then x else x + 1) r = _
        rw [if_neg hc]
      have e1 : arrSt F lo (k + 1) (.inn c :: r) = arrSt F lo (k + 1 + 1) r := by
        show (if c ∈ F then _ else _) = _
        rw [if_neg hc]
      have e2 : ∀ n1 n2, swG F lo n1 n2 x b (.inn c :: r) = swG F lo n1 n2 (x + 1) b r := fun n1 n2 => by
        show (if c ∈ F then _ else _) = _
        rw [if_neg hc]
      rw [e1, e2]
      exact swF_G r lo nL nR b s (k + 1) d (x + 1) h1' h2'
/-- what is needed at each end is there -/
def Rdy (A B C D : List Str) (nL nR : Int) : Option Nat → Prop
  | none => B = []
  | some l => B ≠ [] ∧ D.length ≤ l ∧ l ≤ D.length + B.length ∧ nL ≤ A.length ∧ nR ≤ C.length
theorem Spl.sw {F A B C D E : List Str} {r : List Ev} (h : Spl F A B C D E r) (hn : F.Nodup) : ∀ (lo : Option Nat) (nL nR : Int) (b : Option Str), Rdy A B C D nL nR lo → swG F lo nL nR ((A.length + C.length : Nat) : Int) b r = none := by
  induction h with
  | nil => exact fun _ _ _ _ _ => rfl
  | @mid A C A' C' D E r e _ ih =>
    intro lo nL nR b hr
    have : A'.length + C'.length = A.length + C.length := by rw [← List.length_append, e, List.length_append]
    rw [this]
    cases lo with
    | none => exact ih none nL nR b rfl
    | some l => exact absurd rfl hr.1
  | @stL B C D E r c hS ih =>
    intro lo nL nR b hr
    have e : F = D ++ c :: (B ++ E) := by rw [hS.eqF]; simp
    have hc : c ∈ F := by rw [e]; simp
    have hi : F.idxOf c = D.length := by rw [e] at hn ⊢; exact idx_mid hn
    cases lo with
    | none =>
      show (if c ∈ F then swG F (some (F.idxOf c)) 0 0 _ (some c) r else _) = none
      rw [if_pos hc, hi]
      refine ih _ 0 0 (some c) ⟨List.cons_ne_nil _ _, Nat.le_refl _, Nat.le_add_right _ _, by simp, by omega⟩
    | some l =>
      obtain ⟨hB, h1, h2, h3, h4⟩ := hr
      rw [List.length_append, List.length_singleton] at h1 h2
      show (if c ∈ F then (if F.idxOf c < l then (if 0 < nL then some (b, c) else swG F (some l) 0 _ _ (some c) r) else _) else _) = none
      rw [if_pos hc, hi, if_pos (by omega), if_neg (by rw [List.length_nil] at h3; omega)]
      refine ih _ 0 _ (some c) ⟨List.cons_ne_nil _ _, by omega, by rw [List.length_cons]; omega, by simp, by rw [List.length_nil]; omega⟩
  | @stR A B D E r c hS ih =>
    intro lo nL nR b hr
    have e : F = (D ++ B) ++ c :: E := by rw [hS.eqF]; simp
    have hc : c ∈ F := by rw [e]; simp
    have hi : F.idxOf c = D.length + B.length := by
      rw [e] at hn ⊢
      rw [idx_mid hn, List.length_append]
    have hl : (B ++ [c]).length = B.length + 1 := by rw [List.length_append]; rfl
    cases lo with
    | none =>
      show (if c ∈ F then swG F (some (F.idxOf c)) 0 0 _ (some c) r else _) = none
      rw [if_pos hc, hi]
      refine ih _ 0 0 (some c) ⟨by simp, by omega, by omega, by omega, by simp⟩
    | some l =>
      obtain ⟨hB, h1, h2, h3, h4⟩ := hr
      show (if c ∈ F then (if F.idxOf c < l then _ else (if 0 < nR then some (b, c) else swG F (some l) _ 0 _ (some c) r)) else _) = none
      rw [if_pos hc, hi, if_neg (by omega), if_neg (by rw [List.length_nil] at h4; omega)]
      refine ih _ _ 0 (some c) ⟨by simp, by omega, by omega, by rw [List.length_nil]; omega, by simp⟩
  | @lvL A B C D E r c hc _ ih =>
    intro lo nL nR b hr
    show (if c ∈ F then _ else swG F lo nL nR (((A.length + C.length : Nat) : Int) + 1) b r) = none
    rw [if_neg hc, show ((A.length + C.length : Nat) : Int) + 1 = (((c :: A).length + C.length : Nat) : Int) by rw [List.length_cons]; omega]
    refine ih lo nL nR b ?_
    cases lo with
    | none => exact hr
    | some l => exact ⟨hr.1, hr.2.1, hr.2.2.1, by rw [List.length_cons]; have := hr.2.2.2.1; omega, hr.2.2.2.2⟩
  | @lvR A B C D E r c hc _ ih =>
    intro lo nL nR b hr
    show (if c ∈ F then _ else swG F lo nL nR (((A.length + C.length : Nat) : Int) + 1) b r) = none
    rw [if_neg hc, show ((A.length + C.length : Nat) : Int) + 1 = ((A.length + (C ++ [c]).length : Nat) : Int) by rw [List.length_append, List.length_singleton]; omega]
    refine ih lo nL nR b ?_
    cases lo with
    | none => exact hr
    | some l => exact ⟨hr.1, hr.2.1, hr.2.2.1, hr.2.2.2.1, by rw [List.length_append, List.length_singleton]; have := hr.2.2.2.2; omega⟩
  | @outL A B C D E r x _ ih =>
    intro lo nL nR b hr
    show swG F lo (nL - 1) (nR - 1) ((((x :: A).length + C.length : Nat) : Int) - 1) b r = none
    rw [show (((x :: A).length + C.length : Nat) : Int) - 1 = ((A.length + C.length : Nat) : Int) by rw [List.length_cons]; omega]
    refine ih lo _ _ b ?_
    cases lo with
    | none => exact hr
    | some l =>
      obtain ⟨h0, h1, h2, h3, h4⟩ := hr
      rw [List.length_cons] at h3
      exact ⟨h0, h1, h2, by omega, by omega⟩
  | @outR A B C D E r x _ ih =>
    intro lo nL nR b hr
    show swG F lo (nL - 1) (nR - 1) (((A.length + (C ++ [x]).length : Nat) : Int) - 1) b r = none
    rw [show ((A.length + (C ++ [x]).length : Nat) : Int) - 1 = ((A.length + C.length : Nat) : Int) by rw [List.length_append, List.length_singleton]; omega]
    refine ih lo _ _ b ?_
    cases lo with
    | none => exact hr
    | some l =>
      obtain ⟨h0, h1, h2, h3, h4⟩ := hr
      rw [List.length_append, List.length_singleton] at h4
      exact ⟨h0, h1, h2, by omega, by omega⟩
/-! ### a replayed lane -/
theorem filt_mid {A B C S : List Str} (hA : ∀ x ∈ A, x ∉ S) (hB : ∀ x ∈ B, x ∈ S) (hC : ∀ x ∈ C, x ∉ S) : stayN (A ++ B ++ C) S = B.length := by
  unfold stayN
  have e1 : A.filter (fun c => decide (c ∈ S)) = [] := List.filter_eq_nil_iff.mpr fun x hx => by simpa using hA x hx
  have e2 : C.filter (fun c => decide (c ∈ S)) = [] := List.filter_eq_nil_iff.mpr fun x hx => by simpa using hC x hx
  have e3 : B.filter (fun c => decide (c ∈ S)) = B := List.filter_eq_self.mpr fun x hx => by simpa using hB x hx
  rw [List.filter_append, List.filter_append, e1, e2, e3]
  simp
theorem why_run {xs F : List Str} {es : List Ev} (h : Run xs es F) (hn : (xs ++ arrs es).Nodup) : why xs es F = .ok := by
  have hF := h.nodup hn
  have hmem := h.mem
  have hlen := h.len
  obtain ⟨A, B, C, D, E, rfl, hS, hA⟩ := split h hn
  obtain ⟨b1, b2⟩ := hS.blk hn hA
  have hB : ∀ x ∈ B, x ∈ F := fun x hx => by rw [hS.eqF]; simp [hx]
  have hst : stayN (A ++ B ++ C) F = B.length := filt_mid (fun x hx => hA x (List.mem_append_left _ hx)) hB fun x hx => hA x (List.mem_append_right _ hx)
  have hx0 : (((A ++ B ++ C).length : Nat) : Int) - stayN (A ++ B ++ C) F = ((A.length + C.length : Nat) : Int) := by
    rw [hst, List.length_append, List.length_append]
    omega
  unfold why
  rw [if_neg (by
    have : carsOk (A ++ B ++ C) es F = true := by
      unfold carsOk
      rw [Bool.and_eq_true]
      exact ⟨decide_eq_true hlen, List.all_eq_true.mpr fun x hx => decide_eq_true (hmem x hx)⟩
    rw [this]
    decide)]
  rw [if_neg (by
    have : hasBlk (A ++ B ++ C) F = true := by
      unfold hasBlk
      refine decide_eq_true ?_
      rw [b1, b2]
      by_cases q : B = []
      · rw [if_pos q, if_pos q]
        rfl
      · rw [if_neg q, if_neg q, cut_mid]
        have := cut_mid D B E
        rw [← hS.eqF] at this
        exact this.symm
    rw [this]
    decide)]
  rw [hS.fpk hn]
  have hneg : fneg (ext0 (A ++ B ++ C) F es) = none := by
    unfold fneg ext0
    rw [hx0, List.findIdx?_eq_none_iff]
    intro y hy
    have := hS.ext y hy
    exact decide_eq_false (by omega)
  have hsw : swC (A ++ B ++ C) es F = none := by
    unfold swC ext0
    rw [hx0]
    have := swF_G (F := F) (dep := depL 0 es) (ext := extL F ((A.length + C.length : Nat) : Int) es) es (lo0 (brg F (A ++ B ++ C))) (brg (A ++ B ++ C) F).1 ((((A ++ B ++ C).length : Nat) : Int) - (brg (A ++ B ++ C) F).2) none 0 0 0 ((A.length + C.length : Nat) : Int) rfl rfl
    rw [Nat.zero_add] at this
    rw [this]
    have hd0 : (depL 0 es).getD 0 0 = 0 := by cases es with | nil => rfl | cons e r => cases e <;> rfl
    rw [hd0]
    refine hS.sw hF _ _ _ _ ?_
    rw [b1, b2]
    by_cases q : B = []
    · rw [if_pos q, if_pos q]
      exact q
    · rw [if_neg q, if_neg q]
      have hp : 0 < B.length := List.length_pos_iff.mpr q
      unfold lo0
      rw [if_neg (show ¬ D.length + B.length = 0 by omega)]
      refine ⟨q, Nat.le_refl _, Nat.le_add_right _ _, by simp, ?_⟩
      rw [List.length_append, List.length_append]
      show (((A.length + B.length + C.length : Nat) : Int) - ((A.length + B.length : Nat) : Int)) - (0 - 0) ≤ _
      omega
  show (match fneg (ext0 (A ++ B ++ C) F es) with | some t => Why.moment t | none => match swC (A ++ B ++ C) es F with | some (b, c) => .switch b c | none => .ok) = .ok
  rw [hneg, hsw]
theorem why_size {xs F : List Str} {es : List Ev} (h : (F.length : Int) ≠ endI xs.length es) : why xs es F = .cars := by
  unfold why
  rw [if_pos]
  unfold carsOk
  rw [decide_eq_false h]
  rfl
end Ln


set_option Elab.async false
set_option linter.all false
set_option maxRecDepth 100000
set_option maxHeartbeats 4000000
namespace Ln
open PySem PySem.Spec PyProof.Rows L2
/-! ### enumerate of a list or a tuple, from any count -/
/-- a list (true) or a tuple (false) -/
def SqA (K : PySem.W.Frag) (b : Bool) (H : Hp) (a : Addr) (xs : List V) : Prop := match b with
  | true => SqL K H a xs
  | false => SqT K H a xs
def seqA (b : Bool) (h : Heap) (a : Addr) (its : Array Value) : Prop := match b with
  | true => h.IsList a its
  | false => h.IsTuple a its
def itA (b : Bool) (h : Heap) (it a : Addr) (i : Nat) : Prop := match b with
  | true => h.IsListIter it a i
  | false => h.IsTupleIter it a i
theorem draws_A {prog : Program} {w : World} {A : Around} {b : Bool} (hh : A.handled = none) (it a : Addr) (hne : a ≠ it) (items : Array Value) :
    Draws prog w A it [it, a] items.size (fun i v => items[i]? = some v) (fun i h => itA b h it a i ∧ seqA b h a items) := by
  cases b with
  | true => exact Draws.list hh it a hne items
  | false => exact Draws.tuple hh it a hne items
theorem itA_at {b : Bool} {h h' : Heap} {it a : Addr} {i : Nat} (q : itA b h it a i) (k : ∀ o, h.get? it = some o → h'.get? it = some o) : itA b h' it a i := by
  cases b with
  | true => exact Heap.IsListIter.at q k
  | false => exact Heap.IsTupleIter.at q k
theorem itA_obj {b : Bool} {h : Heap} {it a : Addr} {i : Nat} (q : itA b h it a i) : ∃ o, h.get? it = some o ∧ (∀ v, o.data ≠ .cell v) ∧ ∀ ys n, o.data ≠ .seq ys n := by
  cases b with
  | true =>
    obtain ⟨o, ho, hc, hd⟩ := q
    exact ⟨o, ho, fun v z => (by rw [hd] at z; cases z), fun ys n z => (by rw [hd] at z; cases z)⟩
  | false =>
    obtain ⟨o, ho, hc, hd⟩ := q
    exact ⟨o, ho, fun v z => (by rw [hd] at z; cases z), fun ys n z => (by rw [hd] at z; cases z)⟩
theorem seqA_obj {b : Bool} {h : Heap} {a : Addr} {its : Array Value} (q : seqA b h a its) : ∃ o n, h.get? a = some o ∧ o.data = .seq its n := by
  cases b with
  | true =>
    obtain ⟨o, ho, hc, n, hd⟩ := q
    exact ⟨o, n, ho, hd⟩
  | false =>
    obtain ⟨o, ho, hc, n, hd⟩ := q
    exact ⟨o, n, ho, hd⟩
section
variable {X : Cx} {pins : List (Addr × Obj)} {σ : L2.St} {H : Hp} {s : Shared} {a : Addr} {xs ys : List V}
theorem inv_seqA {b : Bool} (I : Inv X pins σ H s) (h : SqA X.K b H a xs) : ∃ its : List Value, Vals xs its ∧ seqA b s.heap a its.toArray := by
  cases b with
  | true =>
    obtain ⟨its, rv, p, _⟩ := I.list h
    exact ⟨its, rv, p.isList⟩
  | false =>
    obtain ⟨its, rv, p, _⟩ := I.tuple h
    exact ⟨its, rv, p⟩
theorem inv_injA {b : Bool} (I : Inv X pins σ H s) (h : SqA X.K b H a xs) (h' : SqA X.K b H a ys) : xs = ys := by
  cases b with
  | true => exact I.list_inj h h'
  | false => exact I.tuple_inj h h'
end
def IteA (K : PySem.W.Frag) (b : Bool) (k0 : Int) (a : Addr) : It :=
  ⟨fun i H => ∃ (xs : List V) (x : V), SqA K b H a xs ∧ xs[i]? = some x, fun i H v H' => ∃ T x, v = .ref T ∧ H T = none ∧ H' = upd H T (.tup [.int (k0 + (i : Nat)), x]) ∧ ∀ xs, SqA K b H a xs → xs[i]? = some x, fun i H => ∃ xs : List V, SqA K b H a xs ∧ xs.length = i⟩
theorem turn_enumA {P : Program} {w : World} {K : PySem.W.Frag} {elts : List Expr} {kk : Nat} {tpos : Pos} {b : Bool} {k0 : Int} (a e it : Addr) :
    Turn P w K (.Tuple elts kk tpos) (IteA K b k0 a) [e, it] e (fun i h => (∃ old, IsEnum h e it (k0 + (i : Nat)) old) ∧ itA b h it a i ∧ e ≠ it) where
  mem := by simp
  obj := fun i h st b hb => by
    obtain ⟨⟨old, he⟩, hi, _⟩ := st
    have e' : b = e ∨ b = it := by simpa using hb
    rcases e' with z | z
    · rw [z]; exact ⟨_, he, fun v q => nomatch q⟩
    · rw [z]
      obtain ⟨o, ho, hd, _⟩ := itA_obj hi
      exact ⟨o, ho, hd⟩
  keep := fun i h h' st k => let ⟨⟨old, he⟩, hi, hne⟩ := st; ⟨⟨old, k e (by simp) _ he⟩, itA_at hi fun o q => k it (by simp) o q, hne⟩
  item := by
    intro X hP hw hK hc i pins s σ H E I hf st hg
    subst hP hw hK
    obtain ⟨⟨old, he⟩, hit, hne⟩ := st
    obtain ⟨xs, x, hq, hx⟩ := hg
    obtain ⟨its, rv, p⟩ := inv_seqA I hq
    obtain ⟨u, hu, ru⟩ := rv.get hx
    obtain ⟨oa, na, ha, hda⟩ := seqA_obj p
    have hea : e ≠ a := fun z => by
      rw [← z, he] at ha
      cases ha
      cases hda
    have hia : it ≠ a := fun z => by
      obtain ⟨o, ho, _, hd⟩ := itA_obj hit
      rw [z, ha] at ho
      cases ho
      exact hd _ _ hda
    have hel : e < s.heap.objs.size := Heap.lt_size he
    have hil : it < s.heap.objs.size := by obtain ⟨_, q, _⟩ := itA_obj hit; exact Heap.lt_size q
    have hlt : i < its.toArray.size := by
      have := (List.getElem?_eq_some_iff.mp hu).1
      simpa using this
    refine wpAny_pyNext_enum_itemC (draws_A (b := b) (show X.A.in1.handled = none from I.ok.hd hc) it a (Ne.symm hia) its.toArray) he ⟨hit, p⟩ hlt hne (by simp [hne, hea]) fun x' h' tk hPx ho hs' hT hsz hk => ?_
    have hx' : x' = u := by
      have : its[i]? = some x' := by simpa using hPx
      rw [hu] at this
      exact (Option.some.inj this).symm
    subst hx'
    refine ⟨_, rfl, wpAny_letOwnedTupleGo_enum (s := { s with heap := h', toks := tk + 1 }) ho fun h'' he' sb => ?_⟩
    have hT2 : h''.get? s.heap.objs.size = some { cls := .type "tuple", data := .seq #[.int (k0 + (i : Nat)) tk, x'] } := (sb.2 _ (Nat.ne_of_gt hel)).trans hT
    have new : ObjOk X.prog X.w (upd H s.heap.objs.size (.tup [.int (k0 + (i : Nat)), x])) h'' s.heap.objs.size (.tup [.int (k0 + (i : Nat)), x]) :=
      ⟨by show 2 ≤ sizeLine; decide, [.int (k0 + (i : Nat)) tk, x'], .cons ⟨_, rfl⟩ (.cons ru .nil), ⟨_, hT2, rfl, _, rfl⟩⟩
    have I1 : Inv X pins σ (upd H s.heap.objs.size (.tup [.int (k0 + (i : Nat)), x])) { s with heap := h'', toks := tk + 1 } :=
      I.turnedNew (ch := [e, it]) (fun b o hb q => (sb.2 b (fun z => hb (by simp [z]))).trans (hk b o (fun z => hb (by simp [z])) (fun z => hb (by simp [z])) q)) hf (Nat.le_refl _) new
    refine ⟨.ref s.heap.objs.size, _, I1, rfl, ⟨_, x, rfl, I.hok.fresh (Nat.le_refl _), rfl, fun ys hy => by rw [inv_injA I hy hq]; exact hx⟩, ⟨⟨x', ?_⟩, itA_at hs'.1 fun o q => (sb.2 it (Ne.symm hne)).trans q, hne⟩, fun b hb => ?_⟩
    · have e1 : k0 + ((i + 1 : Nat) : Int) = k0 + (i : Nat) + 1 := by omega
      rw [e1]; exact he'
    · have hb' : b < s.heap.objs.size := by
        have e' : b = e ∨ b = it := by simpa using hb
        rcases e' with z | z
        · rw [z]; exact hel
        · rw [z]; exact hil
      rw [upd_ne (Nat.ne_of_lt hb')]
      exact (hf b hb).1
  done := by
    intro X hP hw hK hc i pins s σ H E I hf st hg
    subst hP hw hK
    obtain ⟨⟨old, he⟩, hit, hne⟩ := st
    obtain ⟨xs, hq, hx⟩ := hg
    obtain ⟨its, rv, p⟩ := inv_seqA I hq
    obtain ⟨f0, f1, f2, f3, f4, f5⟩ := hf it (by simp)
    have hl := rv.length
    have hia : it ≠ a := fun z => by
      obtain ⟨oa, na, ha, hda⟩ := seqA_obj p
      obtain ⟨o, ho, _, hd⟩ := itA_obj hit
      rw [z, ha] at ho
      cases ho
      exact hd _ _ hda
    have hn : its.toArray.size = i := by simp; omega
    exact wpAny_pyNext_enum_endD (draws_A (b := b) (show X.A.in1.handled = none from I.ok.hd hc) it a (Ne.symm hia) its.toArray) he (by rw [hn]; exact ⟨hit, p⟩) fun h' eb => ⟨rfl, I.turned (t' := s.toks) (fun b o hb q => eb b o hb q) f0 f1 f3 f4 f5⟩
  self := fun A i s Q E st h => let ⟨⟨_, he⟩, _⟩ := st; wpAny_pyIter_enum he h
def beginO (b : Bool) (a : Addr) : Obj := match b with
  | true => { cls := .type "list_iterator", data := .fields #[.ref a, .int 0 0] }
  | false => { cls := .type "tuple_iterator", data := .fields #[.ref a, .int 0 0] }
theorem begins_A (b : Bool) (a : Addr) (its : Array Value) : Begins (.ref a) (beginO b a) fun h => seqA b h a its := by
  cases b with
  | true => exact begins_list a its
  | false => exact begins_tuple a its
theorem itA_begin {b : Bool} {h : Heap} {it a : Addr} (q : h.get? it = some (beginO b a)) : itA b h it a 0 := by
  cases b with
  | true => exact ⟨_, q, rfl, rfl⟩
  | false => exact ⟨_, q, rfl, rfl⟩
set_option maxHeartbeats 8000000 in
theorem meets_enumerate_newB1 {v : Value} {o : Obj} {H : Heap → Prop} (B : Begins v o H) :
    Meets (Builtin.«enumerate.__new__» ⟨[.type "enumerate", v], []⟩) (fun _ R s => H s.heap ∧
      R (.ok (.ret (.ref (s.heap.push o).objs.size))) { s with heap := (s.heap.push o).push { cls := .type "enumerate", data := .fields #[.none, .bool false, .ref s.heap.objs.size, rawInt 0, .none, .none] } }) :=
  .of_wp fun prog w A R s h => by
    obtain ⟨hp, g, d, tk, os⟩ := s; obtain ⟨h1, h⟩ := h
    have hsub := sub_enumerate
    have q1 : ∀ {A' : Around} {E : Value → Shared → Prop} {Q : Value → Shared → Prop}, Q (.ref hp.objs.size) ⟨hp.push o, g, d, tk, os⟩ → wpAny (model prog w) A' (pyIter v) Q E ⟨hp, g, d, tk, os⟩ :=
      fun q => B.iter prog w _ _ ⟨hp, g, d, tk, os⟩ _ h1 q
    wp_walk using q1
    refine wpAny_stack_any fun st => wpAny_pure ?_
    split
    · rename_i c _ _ _ _ _
      cases (c == Value.type "enumerate")
      · wp_walk using q1
        exact ⟨_, rfl, h⟩
      · wp_walk using q1
        exact ⟨_, rfl, h⟩
    · wp_walk using q1
      exact ⟨_, rfl, h⟩
section
variable {prog : Program} {w : World} {A : Around} {E : Value → Shared → Prop} {s : Shared}
theorem enum_begins1 {v : Value} {o : Obj} {H : Heap → Prop} {Q : Value → Shared → Prop} (B : Begins v o H) (h1 : H s.heap)
    (h : ∀ h', IsEnum h' (s.heap.objs.size + 1) s.heap.objs.size 0 .none → h'.get? s.heap.objs.size = some o → h'.objs.size = s.heap.objs.size + 2 →
      (∀ b o, s.heap.get? b = some o → h'.get? b = some o) → Q (.ref (s.heap.objs.size + 1)) { s with heap := h' }) :
    wpAny (model prog w) A (call (.type "enumerate") [v]) Q E s := by
  refine callType_new F.called_enumerate (by decide) (F.typeCall_enumerate_1 _) (F.newCall_enumerate_1 _) (fun obj => F.args_object_init_2 obj _) F.entry_enumerate_new
    (meets_enumerate_newB1 B) ⟨h1, ?_⟩
  have hz : (s.heap.push o).objs.size = s.heap.objs.size + 1 := Heap.size_push ..
  show _ ∧ _
  rw [hz]
  have he : IsEnum ((s.heap.push o).push { cls := .type "enumerate", data := .fields #[.none, .bool false, .ref s.heap.objs.size, rawInt 0, .none, .none] }) (s.heap.objs.size + 1) s.heap.objs.size 0 .none := by
    have := Heap.get?_push_size (s.heap.push o) (o := { cls := .type "enumerate", data := .fields #[.none, .bool false, .ref s.heap.objs.size, rawInt 0, .none, .none] }) rfl
    rw [hz] at this; exact this
  refine ⟨⟨_, he, rfl⟩, h _ he (Heap.get?_push_of_some _ (Heap.get?_push_size _ B.free)) (by rw [Heap.size_push, hz]) fun b o x => Heap.get?_push_of_some _ (Heap.get?_push_of_some _ x)⟩
end
section
variable {X : Cx}
def iEnumA (K : PySem.W.Frag) (b : Bool) (k0 : Int) (q : List V → Addr → Prop) (ta : TA) : TI := fun σ H R => ta σ H fun vs H1 => ∃ a xs, q vs a ∧ SqA K b H1 a xs ∧ R (IteA K b k0 a) H1
/-- enumerate(a) -/
theorem pi_enumA (b : Bool) {e : Expr} {ta : TA} {p pos tpos : Pos} {elts : List Expr} {kk : Nat} (hg : Gl X "enumerate") (hm : X.mg "enumerate" = none) (ha : PA X [e] ta) (hs : starEach [e] X.env = [(false, eval e X.env)] := by rfl) :
    PI X (.Tuple elts kk tpos) (.Call (.Name "enumerate" p) [e] [] pos) (iEnumA X.K b 0 (fun vs a => vs = [.ref a]) ta) := by
  refine ⟨fun pins s σ H R I h => ?_⟩
  refine Call_ (ld_blt I hg hm boot_enumerate (PyProof.Rows.callWith_type1 (thn (ha.run pos pins s σ H _ I h) fun us s1 ⟨vs, H1, I1, r1, q1⟩ => ?_) hs rfl))
  obtain ⟨a, xs, ex, hq, q⟩ := q1
  subst ex
  cases r1 with
  | cons r rr =>
    cases rr
    cases r
    obtain ⟨its, rv, p'⟩ := inv_seqA I1 hq
    refine enum_begins1 (begins_A b a its.toArray) p' fun h' he hit hsz hk => wpAny_pyIter_enum he ?_
    have I2 : Inv X pins σ H1 { s1 with heap := h' } := I1.kept (t' := s1.toks) hk
    refine ⟨s1.heap.objs.size + 1, [s1.heap.objs.size + 1, s1.heap.objs.size], _, _, H1, rfl, I2, turn_enumA (b := b) (k0 := 0) a (s1.heap.objs.size + 1) s1.heap.objs.size, ⟨⟨.none, he⟩, itA_begin hit, Nat.succ_ne_self _⟩, fun b hb => ?_, q⟩
    have e' : b = s1.heap.objs.size + 1 ∨ b = s1.heap.objs.size := by simpa using hb
    have hle : s1.heap.objs.size ≤ b := by
      rcases e' with z | z
      · rw [z]; exact Nat.le_add_right _ _
      · rw [z]; exact Nat.le_refl _
    exact I1.fpOk hle (I1.hok.fresh hle)
/-- enumerate(a, k) -/
theorem pi_enumF (b : Bool) (k0 : Int) (hk0 : -(2 ^ 63) ≤ k0) (hk1 : k0 < 2 ^ 63) {e e2 : Expr} {ta : TA} {p pos tpos : Pos} {elts : List Expr} {kk : Nat} (hg : Gl X "enumerate") (hm : X.mg "enumerate" = none) (ha : PA X [e, e2] ta)
    (hs : starEach [e, e2] X.env = (false, eval e X.env) :: starEach [e2] X.env := by rfl) (hpl : (backTo pos (starEach [e2] X.env)).any (·.1) = false := by rfl) :
    PI X (.Tuple elts kk tpos) (.Call (.Name "enumerate" p) [e, e2] [] pos) (iEnumA X.K b k0 (fun vs a => vs = [.ref a, .int k0]) ta) := by
  refine ⟨fun pins s σ H R I h => ?_⟩
  refine Call_ (ld_blt I hg hm boot_enumerate (PyProof.Rows.callWith_type1 (thn (ha.run pos pins s σ H _ I h) fun us s1 ⟨vs, H1, I1, r1, q1⟩ => ?_) hs hpl))
  obtain ⟨a, xs, ex, hq, q⟩ := q1
  subst ex
  cases r1 with
  | cons r rr =>
    cases r
    cases rr with
    | cons r rr =>
      cases rr
      obtain ⟨t, rfl⟩ := r
      obtain ⟨its, rv, p'⟩ := inv_seqA I1 hq
      refine enum_begins (begins_A b a its.toArray) p' hk0 hk1 fun h' he hit hsz hk => wpAny_pyIter_enum he ?_
      have I2 : Inv X pins σ H1 { s1 with heap := h' } := I1.kept (t' := s1.toks) hk
      refine ⟨s1.heap.objs.size + 1, [s1.heap.objs.size + 1, s1.heap.objs.size], _, _, H1, rfl, I2, turn_enumA (b := b) (k0 := k0) a (s1.heap.objs.size + 1) s1.heap.objs.size, ⟨⟨.none, by rw [show k0 + ((0 : Nat) : Int) = k0 by omega]; exact he⟩, itA_begin hit, Nat.succ_ne_self _⟩, fun b hb => ?_, q⟩
      have e' : b = s1.heap.objs.size + 1 ∨ b = s1.heap.objs.size := by simpa using hb
      have hle : s1.heap.objs.size ≤ b := by
        rcases e' with z | z
        · rw [z]; exact Nat.le_add_right _ _
        · rw [z]; exact Nat.le_refl _
      exact I1.fpOk hle (I1.hok.fresh hle)
end
theorem walk_enumA {K : PySem.W.Frag} {b : Bool} {k0 : Int} {a : Addr} {xs : List V} : Walk (IteA K b k0 a) xs.length (fun H => SqA K b H a xs) (YPair (fun i => some (.int (k0 + (i : Nat)))) (fun i => xs[i]?)) := by
  refine ⟨fun i _ hi q => ⟨xs, xs[i], q, by simp [hi]⟩, fun _ q => ⟨xs, q, rfl⟩, fun i H v H' _ q y => ?_⟩
  obtain ⟨T, x, h1, h2, h3, h4⟩ := y
  exact ⟨T, .int (k0 + (i : Nat)), x, h1, h2, h3, rfl, h4 xs q⟩
end Ln


set_option Elab.async false
set_option linter.all false
set_option maxRecDepth 100000
set_option maxHeartbeats 4000000
namespace Ln
open PySem PySem.Spec PyProof.Rows L2 GxR
structure Bn (mg : Str → Option Value) : Prop where
  enm : mg "enumerate" = none
  rng : mg "range" = none
theorem inV_strs (x : Str) (F : List Str) : inV (.str x) (F.map V.str) = decide (x ∈ F) := by
  unfold inV
  rw [List.any_map]
  induction F with
  | nil => rfl
  | cons y r ih =>
    rw [List.any_cons, ih]
    show ((y == x) || decide (x ∈ r)) = decide (x ∈ y :: r)
    by_cases h : x = y
    · subst h
      rw [beq_self_eq_true, Bool.true_or, decide_eq_true List.mem_cons_self]
    · rw [beq_eq_false_iff_ne.mpr (fun e => h e.symm), Bool.false_or]
      refine decide_eq_decide.mpr ⟨fun q => List.mem_cons_of_mem _ q, fun q => ?_⟩
      rcases List.mem_cons.mp q with e | q
      · exact absurd e h
      · exact q
def Ev.dd : Ev → Int
  | .inn _ => 0
  | .out => 1
theorem depL_head (d : Int) (es : List Ev) : (depL d es)[0]? = some d := by
  cases es with
  | nil => rfl
  | cons e r => cases e <;> rfl
theorem depL_len : ∀ (d : Int) (es : List Ev), (depL d es).length = es.length + 1
  | _, [] => rfl
  | d, .inn _ :: r => by show (depL d r).length + 1 = _; rw [depL_len]; rfl
  | d, .out :: r => by show (depL (d + 1) r).length + 1 = _; rw [depL_len]; rfl
theorem depL_step : ∀ (d : Int) (es : List Ev) (i : Nat) (e : Ev) (k : Int), es[i]? = some e → (depL d es)[i]? = some k → (depL d es)[i + 1]? = some (k + e.dd)
  | d, [], i, e, k, h, _ => by simp at h
  | d, .inn c :: r, 0, e, k, h, h2 => by
    have e1 := Option.some.inj h
    have e2 := Option.some.inj h2
    subst e1 e2
    show (depL d r)[0]? = _
    rw [depL_head]
    show some d = some (d + 0)
    rw [Int.add_zero]
  | d, .out :: r, 0, e, k, h, h2 => by
    have e1 := Option.some.inj h
    have e2 := Option.some.inj h2
    subst e1 e2
    show (depL (d + 1) r)[0]? = _
    rw [depL_head]
    rfl
  | d, .inn c :: r, i + 1, e, k, h, h2 => depL_step d r i e k (by simpa using h) h2
  | d, .out :: r, i + 1, e, k, h, h2 => depL_step (d + 1) r i e k (by simpa using h) h2
def Ev.de (S : List Str) : Ev → Int
  | .inn c => if c ∈ S then 0 else 1
  | .out => -1
theorem extL_head (S : List Str) (x : Int) (es : List Ev) : (extL S x es)[0]? = some x := by
  cases es with
  | nil => rfl
  | cons e r => cases e <;> rfl
theorem extL_len (S : List Str) : ∀ (x : Int) (es : List Ev), (extL S x es).length = es.length + 1
  | _, [] => rfl
  | x, .inn c :: r => by show (extL S (if c ∈ S then x else x + 1) r).length + 1 = _; rw [extL_len]; rfl
  | x, .out :: r => by show (extL S (x - 1) r).length + 1 = _; rw [extL_len]; rfl
theorem extL_step (S : List Str) : ∀ (x : Int) (es : List Ev) (i : Nat) (e : Ev) (k : Int), es[i]? = some e → (extL S x es)[i]? = some k → (extL S x es)[i + 1]? = some (k + e.de S)
  | x, [], i, e, k, h, _ => by simp at h
  | x, .inn c :: r, 0, e, k, h, h2 => by
    have e1 := Option.some.inj h
    have e2 := Option.some.inj h2
    subst e1 e2
    show (extL S (if c ∈ S then x else x + 1) r)[0]? = some (x + if c ∈ S then 0 else 1)
    rw [extL_head]
    split
    · rw [Int.add_zero]
    · rfl
  | x, .out :: r, 0, e, k, h, h2 => by
    have e1 := Option.some.inj h
    have e2 := Option.some.inj h2
    subst e1 e2
    show (extL S (x - 1) r)[0]? = _
    rw [extL_head]
    rfl
  | x, .inn c :: r, i + 1, e, k, h, h2 => extL_step S _ r i e k (by simpa using h) h2
  | x, .out :: r, i + 1, e, k, h, h2 => extL_step S (x - 1) r i e k (by simpa using h) h2
theorem cut_one {xs : List V} (h : 0 < xs.length) : cutV xs (some 1) none = xs.drop 1 := by
  unfold cutV
  rw [HT.sIx_none, show ((1 : Int)) = ((1 : Nat) : Int) from rfl, HT.sIx_nat, Nat.min_eq_left h, List.take_of_length_le (by rw [List.length_drop]; exact Nat.le_refl _)]
section
variable {P : Program} {w : World} {K : PySem.W.Frag} {mg : Str → Option Value} {base : Heap} {Ps : List Addr}
def spOpp : Sp := fun vs H Q _ => ∃ x : Str, vs = [.str x] ∧ Q (.str (if x = "L" then "R" else "L")) H
def spDepC (K : PySem.W.Frag) (Ps : List Addr) : Sp := fun vs H Q _ => ∃ (l : Addr) (as : List Addr) (es : List Ev), vs = [.ref l] ∧ LogAt K H l as es ∧ Tabs Ps H ∧
  ∀ H' p, Kp Ps H H' → H p = none → H' p = some (.lst ((depL 0 es).map V.int)) → Q (.ref p) H'
def spFirstNeg (K : PySem.W.Frag) (Ps : List Addr) : Sp := fun vs H Q _ => ∃ (l : Addr) (xs : List Int), vs = [.ref l] ∧ SqL K H l (xs.map V.int) ∧ Tabs Ps H ∧
  ∀ H', Kp Ps H H' → Q (match fneg xs with | none => .non | some i => .int (i : Nat)) H'
end
end Ln


set_option Elab.async false
set_option linter.all false
set_option maxRecDepth 100000
set_option maxHeartbeats 4000000
namespace Ln
open PySem PySem.Spec PyProof.Rows L2 GxR
theorem filt_take (xs S : List Str) (i : Nat) (c : Str) (h : xs[i]? = some c) : (xs.take (i + 1)).filter (fun c => decide (c ∈ S)) = (xs.take i).filter (fun c => decide (c ∈ S)) ++ if c ∈ S then [c] else [] := by
  rw [List.take_add_one, h, List.filter_append]
  congr 1
  show List.filter _ [c] = _
  by_cases q : c ∈ S
  · rw [if_pos q, List.filter_cons_of_pos (by simpa using q)]
    rfl
  · rw [if_neg q, List.filter_cons_of_neg (by simpa using q)]
    rfl
section
variable {P : Program} {w : World} {K : PySem.W.Frag} {mg : Str → Option Value} {base : Heap} {Ps : List Addr}
def spExtras (K : PySem.W.Frag) (Ps : List Addr) : Sp := fun vs H Q _ => ∃ (a l f : Addr) (xs : List Str) (as : List Addr) (es : List Ev) (S : List Str), vs = [.ref a, .ref l, .ref f] ∧ LaneAt K H a xs ∧ laneB xs = true ∧ LogAt K H l as es ∧ logB xs xs.length es = true ∧ SqT K H f (S.map V.str) ∧ Tabs Ps H ∧
  ∀ H' p, Kp Ps H H' → H p = none → H' p = some (.lst ((ext0 xs S es).map V.int)) → Q (.ref p) H'
end
end Ln


set_option Elab.async false
set_option linter.all false
set_option maxRecDepth 100000
set_option maxHeartbeats 2000000
namespace Ln.GC
open PySem PySem.Spec PyProof.Rows L2 GxR
theorem isCell_kept {h h' : Heap} {c : Addr} {v : Option Value} (z : h.IsCell c v) (k : ∀ b o, h.get? b = some o → h'.get? b = some o) : h'.IsCell c v := by
  obtain ⟨o, ho, hd⟩ := z
  exact ⟨o, k c o ho, hd⟩
/-- the context of a generator expression's own frame -/
def genCx (X : Cx) (cenv : Env) (A' : Around) (N : List Str) (fp : List Addr) (s4 : Shared) (H4 : Hp) (pn : List (Addr × Obj)) : Cx where
  prog := X.prog
  w := X.w
  K := X.K
  mg := X.mg
  base := X.base
  A := A'
  N := N
  s_0 := s4
  H_0 := H4
  env := cenv
  outer := X.stack
  stack := cenv :: X.stack
  ex := fp
  fn := fun _ => false
  calm := true
  pn := pn
  xe := fun _ _ => False

structure GSc (scope sc : Scope) (x : Str) (ys : List Str) : Prop where
  kind : scope.kind = .function
  co : scope.isCoroutine = false
  cell : ∀ y ∈ scope.names, y.2 ≠ .cell
  free : ∀ y ∈ scope.names, y.2 = .free → sc.names.lookup y.1 = some .cell ∨ sc.names.lookup y.1 = some .free
  cap : ∀ y ∈ ys, scope.names.lookup y = some .free
  nd : (x :: ys).Nodup
  dot : scope.names.lookup (".0" : Str) = some NameKind.local
  loc : scope.names.lookup x = some .local

def YA (Y : Cx) (τ : L2.St) (Q : VK) : Protocol := fun _ _ v s kap =>
  ∃ (b : Bool) (H : Hp), v = .bool b ∧ Inv Y [] (none :: τ) H s ∧ if b = true then ∀ s', s'.heap = s.heap → s'.os = s.os → AllBare s'.gens → kap (.send .none) s' else Q (.bl false) H
def RA (Y : Cx) (τ : L2.St) (Q : VK) : Nat → Shared → Shared → Prop := fun _ _ s => ∃ H, Inv Y [] (none :: τ) H s ∧ Q (.bl true) H
def RestA (Y : Cx) (τ : L2.St) (fp : List Addr) (tn : Nat → Heap → Prop) (W : Nat → Nat → Hp → Prop) (n i : Nat) (s : Shared) : Prop :=
  ∃ m H, m < n ∧ Inv Y [] (none :: τ) H s ∧ tn i s.heap ∧ (∀ b ∈ fp, H b = none) ∧ W i m H
/-- what is asked of each turn -/
def TurnA (J : It) (te : TE) (τ : L2.St) (W : Nat → Nat → Hp → Prop) (Q : VK) : Prop := ∀ i m H, W i m H →
  (J.stop i H ∧ Q (.bl true) H) ∨ (J.go i H ∧ ∀ v H', J.yld i H v H' → te (some v :: τ) H' fun y H3 => ∃ b, y = .bl b ∧ if b = true then ∃ m', m' < m ∧ W (i + 1) m' H3 else Q (.bl false) H3)
theorem inv_none {Y : Cx} {τ : L2.St} {v : Option V} {pins : List (Addr × Obj)} {H : Hp} {s : Shared} (I : Inv Y pins (v :: τ) H s) : Inv Y pins (none :: τ) H s :=
  I.weak rfl fun i u e => by
    match i, e with
    | 0, e => cases e
    | i + 1, e => exact e
section
variable {X : Cx} {elt iter : Expr} {x : Str} {px pos : Pos} {scope : Scope} {it : Addr} {fp : List Addr} {tn : Nat → Heap → Prop} {J : It} {te : TE} {W : Nat → Nat → Hp → Prop} {Q : VK} {cenv : Env} {s4 : Shared} {H4 : Hp} {pn : List (Addr × Obj)} {A2 : Around} {ys : List Str} {sc : Scope} {τ : L2.St}
theorem seg_all (hsc : GSc scope sc x ys) (hcs : cenv.scope = scope)
    (hE : PE (genCx X cenv (A2.deeper cenv) (x :: ys) fp s4 H4 pn) elt te) (T : Turn X.prog X.w X.K (.Name x px) J fp it tn)
    (hst : ∀ H : Hp, (∀ b ∈ fp, H b = none) → ∀ b ∈ fp, FpOk (genCx X cenv (A2.deeper cenv) (x :: ys) fp s4 H4 pn) [] H b) (turn : TurnA J te τ W Q) :
    ∀ (n i : Nat) (s₀ s : Shared), RestA (genCx X cenv (A2.deeper cenv) (x :: ys) fp s4 H4 pn) τ fp tn W n i s →
      Seg (model X.prog X.w) A2 (fun n s₀ r s₁ => r = .ok .next ∧ RA (genCx X cenv (A2.deeper cenv) (x :: ys) fp s4 H4 pn) τ Q n s₀ s₁) (YA (genCx X cenv (A2.deeper cenv) (x :: ys) fp s4 H4 pn) τ Q) n s₀
        (.compLoop (.GeneratorExp elt [⟨.Name x px, iter, [], 0⟩] scope pos) 0 (.ref it) .none cenv)
        ((model X.prog X.w).den (.compLoop (.GeneratorExp elt [⟨.Name x px, iter, [], 0⟩] scope pos) 0 (.ref it) .none cenv)) [] s := by
  intro n
  induction n with
  | zero =>
    intro i s₀ s ⟨m, _, hm, _⟩
    exact absurd hm (Nat.not_lt_zero m)
  | succ n ih =>
    intro i s₀ s ⟨m, H, hm, I, st, fr, w⟩
    have ov : A2.over (.compLoop (.GeneratorExp elt [⟨.Name x px, iter, [], 0⟩] scope pos) 0 (.ref it) .none cenv) [] = A2.deeper cenv := over_comp
    show Seg _ A2 _ _ _ s₀ _ ((compTurn (.GeneratorExp elt [⟨.Name x px, iter, [], 0⟩] scope pos) 0 (.ref it) .none cenv).onRaise (leaving cenv)) [] s
    rw [compTurn_gen, Sem.onRaise_eq_wrap]
    refine seg_bind_wrap (wpAny_standAt (seg_bind_wrap ?_))
    rw [ov]
    rcases turn i m H w with ⟨stop, q⟩ | ⟨go, step⟩
    · refine thn (T.done (genCx X cenv (A2.deeper cenv) (x :: ys) fp s4 H4 pn) rfl rfl rfl rfl i [] s (none :: τ) H _ I (hst H fr) st stop) fun r s1 h1 => ?_
      obtain ⟨rfl, I1⟩ := h1
      exact seg_end (.ok .next) ⟨rfl, H, I1, q⟩
    · refine thn (T.item (genCx X cenv (A2.deeper cenv) (x :: ys) fp s4 H4 pn) rfl rfl rfl rfl i [] s (none :: τ) H _ I (hst H fr) st go) fun r s1 h1 => ?_
      obtain ⟨u, rfl, h1⟩ := h1
      refine seg_bind_wrap ?_
      rw [ov]
      refine thn h1 fun _ s2 h2 => ?_
      obtain ⟨v, H2, I2, r2, y2, st2, fr2⟩ := h2
      have I2' := I2.pinned (hst H2 fr2) (T.obj _ _ st2)
      refine seg_bind_wrap ?_
      rw [ov]
      have hpg : PG (genCx X cenv (A2.deeper cenv) (x :: ys) fp s4 H4 pn) (.Name x px) (gName 0) := pg_name (X := genCx X cenv (A2.deeper cenv) (x :: ys) fp s4 H4 pn) hsc.nd rfl (.inl (by show cenv.scope.names.lookup x = _; rw [hcs]; exact hsc.loc)) (.inr (by show cenv.scope.names.lookup x = _; rw [hcs]; exact hsc.loc))
      refine wpAny_mono (hpg.run _ s2 (none :: τ) H2 v u (fun σ' H' => σ' = (some v :: τ) ∧ H' = H2) I2' r2 ⟨rfl, rfl⟩) (fun _ s3 h3 => ?_) fun _ _ z => False.elim z
      obtain ⟨σ3, H3, I3, e3, e4⟩ := h3
      subst e3
      have e4 := e4.symm
      subst e4
      refine seg_bind_wrap ?_
      refine wpAny_of_eq (a := true) (by simp only [List.forIn_nil]) ?_
      simp only [if_true]
      have hy : ∀ v, yieldOut cenv v = yieldValue v := fun v => by simp only [yieldOut, hcs, hsc.co, Bool.false_eq_true, if_false]
      simp only [hy]
      rw [Sem.bind_eq_wrap', Sem.bind_eq_wrap', Sem.wrap_wrap, Sem.wrap_wrap]
      refine seg_wrap ?_
      rw [ov]
      refine wpAny_mono (hE.run _ s3 (some v :: τ) H2 _ I3 (step v H2 y2)) (fun y s5 h5 => ?_) fun _ _ z => False.elim z
      obtain ⟨v5, H5, I5, r5, b, rfl, hb⟩ := h5
      obtain rfl : y = Value.bool b := r5
      have I6 := inv_none I5
      have fr5 : ∀ b ∈ fp, H5 b = none := fun c hc => by
        obtain ⟨o, e, d⟩ := T.obj _ _ st2 c hc
        exact (I5.pin (c, o) (List.mem_append_right _ (List.mem_append_right _ (mem_pinsAt hc e)))).2.1
      have st5 : tn (i + 1) s5.heap := T.keep _ _ _ st2 fun c hc o e => (I5.pin (c, o) (List.mem_append_right _ (List.mem_append_right _ (mem_pinsAt hc e)))).1
      refine seg_at (seg_yield rfl rfl rfl ⟨b, H5, rfl, I6.unpinned, ?_⟩)
      cases b with
      | false => exact hb
      | true =>
        obtain ⟨m', hm', w'⟩ := hb
        intro s6 hh ho hbare
        refine seg_again rfl (ih (i + 1) s6 s6 ⟨m', H5, by omega, inv_same I6.unpinned hh ho hbare, by rw [hh]; exact st5, fr5, w'⟩)
end

section
variable {X : Cx} {elt iter : Expr} {x : Str} {px pos : Pos} {scope : Scope} {it : Addr} {fp : List Addr} {tn : Nat → Heap → Prop} {J : It} {te : TE} {W : Nat → Nat → Hp → Prop} {Q : VK} {cenv : Env} {s4 : Shared} {H4 : Hp} {pn : List (Addr × Obj)} {A2 : Around} {ys : List Str} {sc : Scope} {τ : L2.St}
theorem seg_all0 (hsc : GSc scope sc x ys) (hcs : cenv.scope = scope)
    (hE : PE (genCx X cenv (A2.deeper cenv) (x :: ys) fp s4 H4 pn) elt te) (T : Turn X.prog X.w X.K (.Name x px) J fp it tn)
    (hst : ∀ H : Hp, (∀ b ∈ fp, H b = none) → ∀ b ∈ fp, FpOk (genCx X cenv (A2.deeper cenv) (x :: ys) fp s4 H4 pn) [] H b) (turn : TurnA J te τ W Q)
    (n : Nat) (s₀ s : Shared) (h : RestA (genCx X cenv (A2.deeper cenv) (x :: ys) fp s4 H4 pn) τ fp tn W n 0 s) :
      Seg (model X.prog X.w) A2 (fun n s₀ r s₁ => r = .ok .next ∧ RA (genCx X cenv (A2.deeper cenv) (x :: ys) fp s4 H4 pn) τ Q n s₀ s₁) (YA (genCx X cenv (A2.deeper cenv) (x :: ys) fp s4 H4 pn) τ Q) n s₀
        (.compStart (.GeneratorExp elt [⟨.Name x px, iter, [], 0⟩] scope pos) 0 (.ref it) .none cenv)
        ((model X.prog X.w).den (.compStart (.GeneratorExp elt [⟨.Name x px, iter, [], 0⟩] scope pos) 0 (.ref it) .none cenv)) [] s := by
  have hl := seg_all (iter := iter) (pos := pos) hsc hcs hE T hst turn n 0 s₀ s h
  obtain ⟨m, H, _, I, st, _⟩ := h
  show Seg _ A2 _ _ _ s₀ _ ((compStart (.GeneratorExp elt [⟨.Name x px, iter, [], 0⟩] scope pos) 0 (.ref it) .none cenv).onRaise (leaving cenv)) [] s
  unfold compStart
  rw [Sem.onRaise_eq_wrap]
  show Seg _ A2 _ _ _ s₀ _ (Sem.wrap _ _ _ _ (ask >>= _)) [] s
  refine seg_bind_wrap (wpAny_askSetting ?_)
  split
  · exact seg_again rfl hl
  · first
      | exact seg_bind_wrap (wpAny_rule (seg_bind_wrap (wpAny_standAt (seg_bind_wrap (T.self _ 0 s _ _ st (seg_again rfl hl))))))
      | (refine seg_bind_wrap (wpAny_rule ?_)
         show Seg _ A2 _ _ _ s₀ _ (Sem.wrap _ _ _ _ (standAt iter.pos >>= _)) [] s
         exact seg_bind_wrap (wpAny_standAt (seg_bind_wrap (T.self _ 0 s _ _ st (seg_again rfl hl)))))

theorem loop_all {Y : Cx} {τ : L2.St} {ag : Addr} {go : Obj} {g : Nat} {A : Around} {R : Result → Shared → Prop} (hpn : (ag, go) ∈ Y.pn) (hgo : ∀ h : Heap, h.get? ag = some go → h.IsGen ag g) (hh : A.handled = none) (hd : A.depth < recursionLimit)
    (hR : ∀ (b : Bool) (H : Hp) (s : Shared), Inv Y [] (none :: τ) H s → Q (.bl b) H → R (.ok (.ret (.bool b))) s) :
    ∀ (n : Nat) (s : Shared), s.heap.IsGen ag g → s.heap.NoLimit →
      (∃ gs, s.gens[g]? = some gs ∧ gs.Goes (model Y.prog Y.w) A.in1.in1 (fun n s₀ r s₁ => r = .ok .next ∧ RA Y τ Q n s₀ s₁) (YA Y τ Q) n (.send .none) (s.setGen g .running)) →
      codeAny (model Y.prog Y.w) A (.builtin "all.loop" ⟨[.ref ag], []⟩) R s := by
  have ends : ∀ (n : Nat) (s s₁ : Shared), RA Y τ Q n (s.setGen g .running) s₁ → ∀ h', (∀ b o, s₁.heap.get? b = some o → h'.get? b = some o) → R (.ok (.ret (.bool true))) { s₁.setGen g .finished with heap := h' } := by
    intro n s s₁ ⟨H, I, q⟩ h' hk
    refine hR true H _ ?_ q
    exact I.call' (ch := []) rfl (Un.kept hk) (I.hok.kept hk) (bare_set I.bare rfl) fun b z => by simp at z
  intro n
  induction n with
  | zero =>
    intro s hg hl ⟨gs, hgs, hgo'⟩
    refine codeAny_builtin F.entry_all_loop ?_
    rw [Around.under_plainId F.plain_all_loop _]
    show wpAny _ A.in1 (pyNext (.ref ag) >>= fun r => _) _ _ s
    refine wpAny_bind (wpAny_pyNext_genexpQ (A := A.in1) (P := RA Y τ Q) hh hl hd hg hgs hgo' (fun v s₁ gs' hbare hv => ?_) fun s₁ hp h' hk => ?_)
    · obtain ⟨b, H, rfl, I, hb⟩ := hv
      refine wpAny_bind (wpAny_holding (wpAny_truthy_bool ?_))
      refine wpAny_bind (wpAny_letGo ?_)
      cases b with
      | true => exact False.elim (hb s₁ rfl rfl I.bare)
      | false =>
        simp only [Bool.false_eq_true, if_false]
        exact wpAny_bind (wpAny_rule (wpAny_pure (hR false H _ (inv_same I rfl rfl (bare_set I.bare hbare)) hb)))
    · exact wpAny_bind (wpAny_rule (wpAny_pure (ends _ _ _ hp h' hk)))
  | succ n ih =>
    intro s hg hl ⟨gs, hgs, hgo'⟩
    have hgl : g < s.gens.size := (Array.getElem?_eq_some_iff.mp hgs).1
    refine codeAny_builtin F.entry_all_loop ?_
    rw [Around.under_plainId F.plain_all_loop _]
    show wpAny _ A.in1 (pyNext (.ref ag) >>= fun r => _) _ _ s
    refine wpAny_bind (GenW.wpAny_gsz (n := g + 1) hgl (wpAny_pyNext_genexpQ (A := A.in1) (P := RA Y τ Q) hh hl hd hg hgs hgo' (fun v s₁ gs' hbare hv => ?_) fun s₁ hp h' hk => ?_))
    · intro hsz
      obtain ⟨b, H, rfl, I, hb⟩ := hv
      refine wpAny_bind (wpAny_holding (wpAny_truthy_bool ?_))
      refine wpAny_bind (wpAny_letGo ?_)
      have sz : (s₁.setGen g gs').gens.size = s₁.gens.size := by simp [Shared.setGen]
      have hsz1 : g < s₁.gens.size := by
        have : g + 1 ≤ (s₁.setGen g gs').gens.size := hsz
        omega
      cases b with
      | true =>
        simp only [if_true]
        refine wpAny_pure ⟨plainId_quiet F.plain_all_loop _, ih _ (hgo _ ?_) I.nolimit ⟨gs', ?_, ?_⟩⟩
        · exact (I.pin (ag, go) (List.mem_append_left _ hpn)).1
        · show (s₁.gens.setIfInBounds g gs')[g]? = some gs'
          simp [hsz1]
        · exact hb _ rfl rfl (bare_set (s := s₁.setGen g gs') (bare_set I.bare hbare) rfl)
      | false =>
        simp only [Bool.false_eq_true, if_false]
        exact wpAny_bind (wpAny_rule (wpAny_pure (hR false H _ (inv_same I rfl rfl (bare_set I.bare hbare)) hb)))
    · intro _
      exact wpAny_bind (wpAny_rule (wpAny_pure (ends _ _ _ hp h' hk)))
end

def capt (σ : L2.St) (is : List Nat) : L2.St := is.map fun i => (σ[i]?).join
def tAllG (P : Addr) (wi : TI) (te : TE) (is : List Nat) : TE := fun σ H Q => wi σ H fun J H1 => TabG H1 P ∧ ∃ W : Nat → Nat → Hp → Prop, (∀ H2, Tabbed P H1 H2 → ∃ m, W 0 m H2) ∧ TurnA J te (capt σ is) W Q
section
variable {X : Cx}
/-- all(elt for x in iter): elt anything that raises nothing -/
theorem pe_allG {c P : Addr} {elt iter : Expr} {x : Str} {px p pos gpos : Pos} {scope : Scope} {wi : TI} {te : TE} {k : Nat} {ys : List Str} (is : List Nat)
    (hr : Room (k + 1) X.A) (hc : X.calm = true) (hg : Gl X "all") (hm : X.mg "all" = none) (TB : TabB X.base X.mg c P) (hcode : X.env.code = .ref c) (S : GSc scope X.env.scope x ys) (hix : ∀ (j : Nat) (y : Str) (i : Nat), ys[j]? = some y → is[j]? = some i → X.N[i]? = some y) (hil : is.length = ys.length) (hi : PI X (.Name x px) iter wi)
    (hE : ∀ (C : Addr) (code : Value) (bi : Addr) (A' : Around) (fp : List Addr) (s4 : Shared) (H4 : Hp) (pn : List (Addr × Obj)), Room k A' → PE (genCx X (genEnv scope (cloFrom X.env.cells scope.names []) C code bi X.env) A' (x :: ys) fp s4 H4 pn) elt te)
    (hs : ∀ v, genFold iter X.env v = pure v := by intro _; rfl)
    (he : starEach [.GeneratorExp elt [⟨.Name x px, iter, [], 0⟩] scope gpos] X.env = (false, eval (.GeneratorExp elt [⟨.Name x px, iter, [], 0⟩] scope gpos) X.env) :: starEach [] X.env := by rfl) :
    PE X (.Call (.Name "all" p) [.GeneratorExp elt [⟨.Name x px, iter, [], 0⟩] scope gpos] [] pos) (tAllG P wi te is) := by
  refine ⟨fun pins s σ H Q I h => ?_⟩
  refine wpAny_Call_Name_kw (ld_blt I hg hm boot_all ?_)
  refine PyProof.Rows.callWith_builtin1 ?_ he (by rfl)
  rw [he]
  show wpAny (model X.prog X.w) X.A (spliced ((false, eval (.GeneratorExp elt [⟨.Name x px, iter, [], 0⟩] scope gpos) X.env) :: backTo pos (starEach [] X.env))) _ _ s
  have hfree : ∀ y ∈ scope.names, y.2 = .free → ∃ c, X.env.cells.lookup y.1 = some c := fun y hy e => by
    rcases S.free y hy e with k | k
    · exact I.ok.has _ (.inl k)
    · exact I.ok.has _ (.inr k)
  have hclo : closureFor scope X.env = pure (cloFrom X.env.cells scope.names []) := closure_ok hfree
  generalize hcl : cloFrom X.env.cells scope.names [] = clo at *
  have cm : ∀ {y c}, clo.lookup y = some c → X.env.cells.lookup y = some c := fun {y c} e => by
    have hm := PySem.mem_of_lookup e
    rw [← hcl] at hm
    rcases cloFrom_mem hm with hm | ⟨h1, rfl⟩
    · cases hm
    · obtain ⟨c, hc⟩ := hfree _ h1 rfl
      rw [hc]
      rfl
  have look : ∀ {y}, (y, NameKind.free) ∈ scope.names → ∃ c, clo.lookup y = some c ∧ X.env.cells.lookup y = some c := fun {y} hy => by
    obtain ⟨c', e'⟩ := mem_lookup (cloFrom_has (cells := X.env.cells) (acc := []) hy)
    rw [hcl] at e'
    exact ⟨c', e', cm e'⟩
  refine Calls.spliced_cons (wpAny_GeneratorExp_make S.co hclo S.cell S.dot S.kind hr.depth ?_ hs)
  refine thn (hi.run pins s σ H _ I h) fun xv s1 h1 => thn h1 fun itv s2 h2 => ?_
  obtain ⟨it, fp, tn, J, H2, rfl, I2, T, st2, f2, ⟨ps, hP, htr⟩, W, hW, turn⟩ := h2
  refine ⟨I2.nolimit, ?_⟩
  have hPs : s2.heap.get? P = some { cls := .none, data := .fields ps } := I2.hok P _ hP
  have cd : PySem.W.CodeHd s2.heap c P := TB.code.keeps I2.bk
  have fpP : ∀ b ∈ fp, b ≠ P := fun b hb e => by
    have := (f2 b hb).1
    rw [e, hP] at this
    cases this
  have cont : ∀ (code : Value) (h3 : Heap) (tk : Nat) (H3 : Hp), Inv X pins σ H3 { s2 with heap := h3, toks := tk } → Tabbed P H2 H3 → tn 0 h3 →
      wpAny (model X.prog X.w) X.A (builtinsFor X.env.globals X.env.builtins) (fun bi s4 =>
        ∀ h', h'.Ns s4.heap.objs.size (fun y => if y = ".0" then some (.ref it) else none) → Heap.SameBut s4.heap.objs.size (s4.heap.push { cls := .type "frame", data := .dict #[] }) h' →
          wpAny (model X.prog X.w) X.A (call (.builtin "all") [.ref h'.objs.size]) (EP X pins σ Q) X.xe { s4 with
            gens := s4.gens.push (.fresh (.compStart (.GeneratorExp elt [⟨.Name x px, iter, [], 0⟩] scope gpos) 0 (.ref it) .none (genEnv scope clo s4.heap.objs.size code bi X.env))),
            toks := s4.toks + 1 + 1 + 1,
            heap := h'.push { cls := .type "generator", data := .fields #[.int s4.gens.size 0, .str "<genexpr>" (s4.toks + 1), .str (X.env.qual ++ "<genexpr>") (s4.toks + 1 + 1)] } }) X.xe { s2 with heap := h3, toks := tk } := by
    intro code h3 tk H3 I3 hT st3
    have fr3 : ∀ b ∈ fp, H3 b = none := fun b hb => (hT.2 b (fpP b hb)).trans (f2 b hb).1
    obtain ⟨bm, ob, e1, e2, e3, e4, e5, e6, e7, e8⟩ := TB.bm
    refine wpAny_builtinsFor (m := X.mg) (by rw [I3.ok.glob]; exact I3.mod.glob.keeps I3.bk) e1 e2 (I3.bk _ _ e5) e6 e7 e8 ?_
    intro h' hn' hs'
    generalize hs3 : ({ s2 with heap := h3, toks := tk } : Shared) = s3 at *
    generalize hgo : ({ cls := .type "generator", data := .fields #[.int s3.gens.size 0, .str "<genexpr>" (s3.toks + 1), .str (X.env.qual ++ "<genexpr>") (s3.toks + 1 + 1)] } : Obj) = go
    have hgd : ∀ h : Heap, ∀ a, h.get? a = some go → h.IsGen a s3.gens.size := fun h a e => ⟨go, _, _, e, by rw [← hgo], by rw [← hgo], by rw [← hgo]⟩
    have hgp : ∀ h : Heap, (h.push go).get? h.objs.size = some go := fun h => Heap.get?_push_size _ (by rw [← hgo]; rfl)
    have hgc : ∀ v, go.data ≠ .cell v := fun v e => by rw [← hgo] at e; cases e
    have hsz : h'.objs.size = s3.heap.objs.size + 1 := by rw [hs'.1, Heap.size_push]
    have keep' : ∀ b o, s3.heap.get? b = some o → h'.get? b = some o := fun b o e => hs'.extBut b o (Nat.ne_of_lt (Heap.lt_size e)) (Heap.get?_push_of_some _ e)
    have keepG : ∀ b o, s3.heap.get? b = some o → (h'.push go).get? b = some o := fun b o e => Heap.get?_push_of_some _ (keep' b o e)
    have st3' : tn 0 s3.heap := by rw [← hs3]; exact st3
    have nstk : ∀ b, s3.heap.objs.size ≤ b → b ∉ frs X.stack := fun b hb z => by
      rcases List.mem_cons.mp (I3.stkSub b z) with e | e
      · have := I3.lt
        rw [e] at hb
        exact Nat.lt_irrefl _ (Nat.lt_of_lt_of_le this hb)
      · exact I3.nofs hb e
    have fpl : ∀ b ∈ fp, b < s3.heap.objs.size := fun b hb => by
      obtain ⟨o, e, _⟩ := T.obj _ _ st3' b hb
      exact Heap.lt_size e
    have fpS : ∀ b ∈ fp, b ∉ frs X.stack := fun b hb z => by
      obtain ⟨_, g1, g2, _⟩ := f2 b hb
      rcases List.mem_cons.mp (I3.stkSub b z) with e | e
      · exact g1 e
      · exact g2 e
    have hH3 : ∀ b, s3.heap.objs.size ≤ b → H3 b = none := fun b hb => I3.hok.fresh hb
    refine call_function_tree F.kind_all F.plain_all F.entry_all (F.args_all1 _) ?_
    unfold Builtin.«all»
    refine wpAny_bind (m := oneArg "all" _) (wpAny_pure ?_)
    refine wpAny_bind (wpAny_pyIter_gen (g := s3.gens.size) (hgd _ _ (hgp h')) ?_)
    refine wpAny_pure ⟨plainId_quiet F.plain_all_loop _, ?_⟩
    have hroomk : Room k (X.A.in1.in1.deeper (genEnv scope clo s3.heap.objs.size code builtinsNs X.env)) :=
      ⟨hr.hd, by have := hr.dp; show X.A.depth + 1 + 3 * k + 5 < _; omega, by have := hr.un; show X.A.units + 1 + 1 + 3 + 16 * k + 200 < _; omega⟩
    have kin : ∀ {y : Str}, (scope.names.lookup y = some .cell ∨ scope.names.lookup y = some .free) → ∃ c, clo.lookup y = some c := fun {y} e => by
      rcases e with e | e
      · exact absurd rfl (S.cell _ (PySem.mem_of_lookup e))
      · obtain ⟨c, h1, _⟩ := look (PySem.mem_of_lookup e)
        exact ⟨c, h1⟩
    have IY : Inv (genCx X (genEnv scope clo s3.heap.objs.size code builtinsNs X.env) (X.A.in1.in1.deeper (genEnv scope clo s3.heap.objs.size code builtinsNs X.env)) (x :: ys) fp s3 H3 [(h'.objs.size, go)]) [] (none :: capt σ is) H3
        { s3 with gens := (s3.gens.push (.fresh (.compStart (.GeneratorExp elt [⟨.Name x px, iter, [], 0⟩] scope gpos) 0 (.ref it) .none (genEnv scope clo s3.heap.objs.size code builtinsNs X.env)))), toks := s3.toks + 1 + 1 + 1, heap := h'.push go } := by
      refine ⟨⟨I3.ok.mod, S.kind, I3.ok.glob, rfl, Nat.le_refl _, fun y z c' e e' => I3.ok.inj y z c' (cm e) (cm e'), fun y e => kin e, fun y c' e _ => (nomatch e), fun _ => hr.hd, Around.frames_deeper I3.ok.frames, .inr ⟨rfl, rfl⟩,
        fun b hb => ⟨Nat.ne_of_lt (fpl b hb), fun y c' e => (f2 b hb).2.2.2.2.1 y c' (cm e)⟩, I3.bs, Nat.le_trans I3.ok.bsz I3.sz, fun b o e hb => ?_, fpS, I3.stack, I3.stkFree⟩,
        rfl, I3.bare.push rfl, Un.kept keepG, ⟨_, hn'.keeps fun b o e => Heap.get?_push_of_some _ e, fun i y v e1 e2 _ => ?_⟩, fun y c' e => (I3.cell y c' (cm e)).elim fun v z => ⟨v, isCell_kept z keepG⟩, hH3 _ (Nat.le_refl _), fun y c' e => I3.freeC y c' (cm e), fun p hp => ?_, I3.hok.kept keepG, by show (capt σ is).length + 1 = ys.length + 1; rw [capt, List.length_map, hil]⟩
      · obtain ⟨_, _, _, g3, _⟩ := f2 b hb
        rcases g3 with g3 | g3
        · exact I2.ok.noex b o e g3
        · have h1 := Heap.lt_size e
          have h2 := I2.ok.bsz
          exact Nat.lt_irrefl _ (Nat.lt_of_lt_of_le h1 (Nat.le_trans h2 g3))
      · match i, e2 with
        | 0, e2 => cases e2
        | i + 1, e2 =>
          have e1 : ys[i]? = some y := e1
          have e2 : (capt σ is)[i]? = some (some v) := e2
          unfold capt at e2
          rw [List.getElem?_map] at e2
          cases hk : is[i]? with
          | none => rw [hk] at e2; cases e2
          | some k =>
            rw [hk] at e2
            have e2 : (σ[k]?).join = some v := Option.some.inj e2
            have e3 : σ[k]? = some (some v) := by
              cases hσ : σ[k]? with
              | none => rw [hσ] at e2; cases e2
              | some o => rw [hσ] at e2; exact congrArg some e2
            have hfr := PySem.mem_of_lookup (S.cap y (List.mem_of_getElem? e1))
            have hX := S.free _ hfr rfl
            obtain ⟨m, _, hl⟩ := I3.loc
            obtain ⟨u, ru, lk⟩ := hl k y v (hix i y k e1 hk) e3 (.inr hX)
            refine ⟨u, ru, ?_⟩
            obtain ⟨c, hc1, hc2⟩ := look hfr
            rcases lk with ⟨l1, _⟩ | ⟨_, c', hc', z⟩
            · have l1 : X.env.scope.names.lookup y = some .local := l1
              rcases hX with hX | hX
              · rw [hX] at l1; cases l1
              · rw [hX] at l1; cases l1
            · rw [hc2] at hc'
              cases hc'
              exact .inr ⟨.inr (S.cap y (List.mem_of_getElem? e1)), c, hc1, isCell_kept z keepG⟩
      · have hp2 : p ∈ ([(h'.objs.size, go)] ++ [] : List (Addr × Obj)) := hp
        have hp' : p = (h'.objs.size, go) := by simpa using hp2
        subst hp'
        exact ⟨hgp h', hH3 _ (by rw [hsz]; exact Nat.le_succ _), by show h'.objs.size ≠ s3.heap.objs.size; rw [hsz]; exact Nat.succ_ne_self _, nstk _ (by rw [hsz]; exact Nat.le_succ _), hgc⟩
    have hst : ∀ H' : Hp, (∀ b ∈ fp, H' b = none) → ∀ b ∈ fp, FpOk (genCx X (genEnv scope clo s3.heap.objs.size code builtinsNs X.env) (X.A.in1.in1.deeper (genEnv scope clo s3.heap.objs.size code builtinsNs X.env)) (x :: ys) fp s3 H3 [(h'.objs.size, go)]) [] H' b :=
      fun H' hf b hb => ⟨hf b hb, Nat.ne_of_lt (fpl b hb), fpS b hb, .inl hb, fun y c' e => (f2 b hb).2.2.2.2.1 y c' (cm e), fun p hp => by
        have hp2 : p ∈ ([(h'.objs.size, go)] ++ [] : List (Addr × Obj)) := hp
        have hp' : p = (h'.objs.size, go) := by simpa using hp2
        subst hp'
        show h'.objs.size ≠ b
        rw [hsz]
        exact Nat.ne_of_gt (Nat.lt_succ_of_lt (fpl b hb))⟩
    obtain ⟨m, w0⟩ := hW H3 hT
    refine loop_all (τ := capt σ is) (Q := Q) (go := go) (g := s3.gens.size) (A := X.A) (Y := genCx X (genEnv scope clo s3.heap.objs.size code builtinsNs X.env) (X.A.in1.in1.deeper (genEnv scope clo s3.heap.objs.size code builtinsNs X.env)) (x :: ys) fp s3 H3 [(h'.objs.size, go)])
      (by exact List.mem_singleton.mpr rfl) (fun h e => hgd h _ e) hr.hd hr.depth (fun b H' s' I' q' => ?_) (m + 1) _ (hgd _ _ (hgp h')) IY.nolimit ⟨_, Array.getElem?_push_size .., rfl, ?_⟩
    · refine ⟨.bl b, H', ?_, rfl, q'⟩
      refine I3.call' (ch := fp) I'.os I'.base I'.hok I'.bare fun b hb => ?_
      obtain ⟨_, g1, _, g3, g4, g5⟩ := f2 b hb
      exact ⟨g3, g1, g4, g5⟩
    · exact seg_all0 S rfl (hE _ _ _ _ _ _ _ _ hroomk) T hst turn (m + 1) _ _ ⟨m, H3, Nat.lt_succ_self m, inv_same IY rfl rfl (bare_set IY.bare rfl), T.keep _ _ _ st3' fun b _ o e => keepG b o e, fr3, w0⟩
  cases hf : codeAmong gpos ps.toList with
  | none =>
    refine wpAny_genexprCodeX hcode (cd.code hPs htr) (cd.tab hPs) hf fun c' h' tk hx hge hlt hco' _ htab' _ => ?_
    obtain ⟨o1, vs, f1, tf, fl, tg, inF, tx, tt, op, _, _, _, _, _, _, _, _, _, htr', _⟩ := hco'
    have J3 := inv_tab (h' := h') (g' := s2.gens) (d' := s2.drawn) (t' := tk) I2 hP (fun b u hb e => hx b u hb e) htab'.2 I2.bare
    exact thn (cont _ h' tk _ J3 ⟨⟨_, upd_same, htr'⟩, fun b hb => upd_ne hb⟩ (T.keep _ _ _ st2 fun b hb o e => hx b o (fpP b hb) e)) fun bi s4 h4 h'' a1 a2 => Calls.spliced_nil (h4 h'' a1 a2)
  | some cv =>
    refine wpAny_genexprCode_hit hcode (cd.code hPs htr) hf ?_
    exact thn (cont cv s2.heap s2.toks H2 I2 ⟨⟨ps, hP, htr⟩, fun _ _ => rfl⟩ st2) fun bi s4 h4 h'' a1 a2 => Calls.spliced_nil (h4 h'' a1 a2)
end
end Ln.GC


set_option Elab.async false
set_option linter.all false
set_option maxRecDepth 100000
set_option maxHeartbeats 4000000
namespace Ln
open PySem PySem.Spec PyProof.Rows L2 GxR
theorem plcs_take (xs S : List Str) (i : Nat) (c : Str) (h : xs[i]? = some c) : plcs S 0 (xs.take (i + 1)) = plcs S 0 (xs.take i) ++ if c ∈ S then [i] else [] := by
  rw [List.take_add_one, h, plcs_app]
  have hi := (List.getElem?_eq_some_iff.mp h).1
  rw [Nat.zero_add, List.length_take, Nat.min_eq_left (Nat.le_of_lt hi)]
  rfl
theorem plcs_len (S : List Str) : ∀ (xs : List Str) (i : Nat), (plcs S i xs).length ≤ xs.length
  | [], _ => Nat.le_refl _
  | c :: r, i => by
    have := plcs_len S r (i + 1)
    show (if c ∈ S then i :: plcs S (i + 1) r else plcs S (i + 1) r).length ≤ r.length + 1
    split
    · exact Nat.succ_le_succ this
    · exact Nat.le_succ_of_le this
theorem plcs_lt (S : List Str) : ∀ (xs : List Str) (i : Nat), ∀ p ∈ plcs S i xs, p < i + xs.length
  | [], _, p, h => by cases h
  | c :: r, i, p, h => by
    have ih := plcs_lt S r (i + 1)
    rw [List.length_cons]
    have h : p ∈ (if c ∈ S then i :: plcs S (i + 1) r else plcs S (i + 1) r) := h
    split at h
    · rcases List.mem_cons.mp h with e | h
      · omega
      · have := ih p h
        omega
    · have := ih p h
      omega
theorem brg_le (xs S : List Str) : (brg xs S).1 ≤ xs.length ∧ (brg xs S).2 ≤ xs.length := by
  have h := plcs_lt S xs 0
  unfold brg
  cases hp : plcs S 0 xs with
  | nil => exact ⟨Nat.zero_le _, Nat.zero_le _⟩
  | cons a r =>
    rw [hp] at h
    have h1 := h a List.mem_cons_self
    have h2 := h _ (List.getLast_mem (List.cons_ne_nil a r))
    exact ⟨by show a ≤ _; omega, by show (a :: r).getLast _ + 1 ≤ _; omega⟩
theorem eqv_strs : ∀ xs ys : List Str, PyData.eqv (.tuple (xs.map PyData.str)) (.tuple (ys.map PyData.str)) = decide (xs = ys) := by
  have key : ∀ xs ys : List Str, PyData.eqvAll (xs.map PyData.str) (ys.map PyData.str) = decide (xs = ys) := by
    intro xs
    induction xs with
    | nil =>
      intro ys
      cases ys with
      | nil => rfl
      | cons y r => rfl
    | cons x r ih =>
      intro ys
      cases ys with
      | nil => rfl
      | cons y q =>
        show ((x == y) && PyData.eqvAll (r.map PyData.str) (q.map PyData.str)) = _
        rw [ih q]
        by_cases h : x = y
        · subst h
          rw [beq_self_eq_true, Bool.true_and]
          exact decide_eq_decide.mpr ⟨fun e => by rw [e], fun e => (List.cons.inj e).2⟩
        · rw [beq_eq_false_iff_ne.mpr h, Bool.false_and]
          exact (decide_eq_false fun e => h (List.cons.inj e).1).symm
  exact key
theorem dp_str {K : PySem.W.Frag} {H : Hp} : ∀ xs : List Str, DpAll K H (xs.map V.str) (xs.map PyData.str)
  | [] => .nil
  | x :: r => .cons (.str x) (dp_str r)
theorem cutV_nat {xs : List V} {lo hi : Nat} (h1 : lo ≤ xs.length) (h2 : hi ≤ xs.length) : cutV xs (some ((lo : Nat) : Int)) (some ((hi : Nat) : Int)) = (xs.take hi).drop lo := by
  unfold cutV
  rw [HT.sIx_nat, HT.sIx_nat, Nat.min_eq_left h1, Nat.min_eq_left h2, List.drop_take]
section
variable {P : Program} {w : World} {K : PySem.W.Frag} {mg : Str → Option Value} {base : Heap} {Ps : List Addr}
def spBlockR (K : PySem.W.Frag) (Ps : List Addr) : Sp := fun vs H Q _ => ∃ (a f : Addr) (xs S : List Str), vs = [.ref a, .ref f] ∧ SqT K H a (xs.map V.str) ∧ SqT K H f (S.map V.str) ∧ xs.length ≤ 400 ∧ Tabs Ps H ∧
  ∀ H' p, Kp Ps H H' → H p = none → H' p = some (.tup [.int (brg xs S).1, .int (brg xs S).2]) → Q (.ref p) H'
def spReqFin (K : PySem.W.Frag) (Ps : List Addr) : Sp := fun vs H Q _ => ∃ (a l f : Addr) (xs : List Str) (as : List Addr) (es : List Ev) (F : List Str), vs = [.ref a, .ref l, .ref f] ∧ LaneAt K H a xs ∧ laneB xs = true ∧ LogAt K H l as es ∧ logB xs xs.length es = true ∧ LaneAt K H f F ∧ laneB F = true ∧ Tabs Ps H ∧ ∀ H', Kp Ps H H' → Q .non H'
theorem szs_last : ∀ (n : Int) (es : List Ev), ∃ r, szs n es = r ++ [endI n es]
  | n, [] => ⟨[], rfl⟩
  | n, .inn _ :: r => by
    obtain ⟨q, e⟩ := szs_last (n + 1) r
    exact ⟨n :: q, by show n :: szs (n + 1) r = _; rw [e]; rfl⟩
  | n, .out :: r => by
    obtain ⟨q, e⟩ := szs_last (n - 1) r
    exact ⟨n :: q, by show n :: szs (n - 1) r = _; rw [e]; rfl⟩
def spHasRC (K : PySem.W.Frag) (Ps : List Addr) : Sp := fun vs H Q _ => ∃ (a l f : Addr) (xs : List Str) (as : List Addr) (es : List Ev) (F : List Str), vs = [.ref a, .ref l, .ref f] ∧ LaneAt K H a xs ∧ laneB xs = true ∧ LogAt K H l as es ∧ logB xs xs.length es = true ∧ SqT K H f (F.map V.str) ∧ Tabs Ps H ∧ ∀ H', Kp Ps H H' → Q (.bl (carsOk xs es F)) H'
end
end Ln


set_option Elab.async false
set_option linter.all false
set_option maxRecDepth 100000
set_option maxHeartbeats 4000000
namespace Ln
open PySem PySem.Spec PyProof.Rows L2 GxR
theorem isPk_none {o : List Nat} {i : Nat} (h : ∀ j, j < i → isPk o (1 + j) = false) (hi : i = o.length - 2) : fpk o = none := by
  unfold fpk
  rw [List.find?_eq_none]
  intro j hj
  rw [List.mem_range'_1] at hj
  have := h (j - 1) (by omega)
  rw [show 1 + (j - 1) = j by omega] at this
  simp [this]
theorem isPk_some {o : List Nat} {i : Nat} (h : ∀ j, j < i → isPk o (1 + j) = false) (hi : i < o.length - 2) (hp : isPk o (1 + i) = true) : fpk o = some (1 + i) := by
  unfold fpk
  rw [List.find?_range'_eq_some]
  refine ⟨hp, by rw [List.mem_range'_1]; omega, fun j h1 h2 => ?_⟩
  have := h (j - 1) (by omega)
  rw [show 1 + (j - 1) = j by omega] at this
  rw [this]
  rfl
section
variable {P : Program} {w : World} {K : PySem.W.Frag} {mg : Str → Option Value} {base : Heap} {Ps : List Addr}
def spHasBlk (K : PySem.W.Frag) (Ps : List Addr) : Sp := fun vs H Q _ => ∃ (a f : Addr) (xs F : List Str), vs = [.ref a, .ref f] ∧ SqT K H a (xs.map V.str) ∧ SqT K H f (F.map V.str) ∧ xs.length ≤ 400 ∧ F.length ≤ 400 ∧ (∀ x ∈ xs, carB x = true) ∧ (∀ x ∈ F, carB x = true) ∧ Tabs Ps H ∧
  ∀ H', Kp Ps H H' → Q (.bl (hasBlk xs F)) H'
def spFirstPk (K : PySem.W.Frag) (Ps : List Addr) : Sp := fun vs H Q _ => ∃ (k f : Addr) (kn F : List Str), vs = [.ref k, .ref f] ∧ SqL K H k (kn.map V.str) ∧ SqT K H f (F.map V.str) ∧ F.length ≤ 400 ∧ (∀ c ∈ F, c ∈ kn) ∧ Tabs Ps H ∧
  ∀ H', Kp Ps H H' → Q (match fpk (F.map fun c => kn.idxOf c) with | none => .non | some i => .int (i : Nat)) H'
end
end Ln


set_option Elab.async false
set_option linter.all false
set_option maxRecDepth 100000
set_option maxHeartbeats 4000000
namespace Ln
open PySem PySem.Spec PyProof.Rows L2 GxR
/-- the side of a stayer -/
def sdV : Option Bool → V
  | none => .non
  | some true => .str "L"
  | some false => .str "R"
def stV (r : Str × Nat × Option Bool) : List V := [.str r.1, .int (r.2.1 : Nat), sdV r.2.2]
def StsT (H : Hp) (ts : List Addr) (rs : List (Str × Nat × Option Bool)) : Prop := Paired (fun t r => H t = some (.tup (stV r))) ts rs
theorem StsT.kt {H H' : Hp} {ts : List Addr} {rs : List (Str × Nat × Option Bool)} (h : StsT H ts rs) (k : KT H H') : StsT H' ts rs := Paired.imp h fun t r q => k t _ q
theorem StsT.kp {Ps : List Addr} {H H1 : Hp} {ts : List Addr} {rs : List (Str × Nat × Option Bool)} (h : StsT H ts rs) (k : Kp Ps H H1) (hT : Tabs Ps H) : StsT H1 ts rs := Paired.imp h fun t r q => k.tup hT q
/-- what stands in low and high -/
def LoR : Option Nat → Int → Int → Prop
  | none, _, h => h = 0
  | some l, lo, h => lo = l ∧ h ≠ 0
theorem first_at {F : List Str} {c : Str} (h : c ∈ F) : F[F.idxOf c]? = some c ∧ ∀ m, m < F.idxOf c → F[m]? ≠ some c := by
  have hl : F.idxOf c < F.length := List.idxOf_lt_length_of_mem h
  refine ⟨by rw [List.getElem?_eq_getElem hl, List.getElem_idxOf], fun m hm z => ?_⟩
  have hml : m < F.length := by omega
  rw [List.getElem?_eq_getElem hml] at z
  have := List.not_of_lt_findIdx (p := (· == c)) hm
  rw [Option.some.inj z] at this
  simp at this
section
variable {P : Program} {w : World} {K : PySem.W.Frag} {mg : Str → Option Value} {base : Heap} {Ps : List Addr}
def spArrSt (K : PySem.W.Frag) (Ps : List Addr) : Sp := fun vs H Q _ => ∃ (a l f : Addr) (xs : List Str) (as : List Addr) (es : List Ev) (F : List Str), vs = [.ref a, .ref l, .ref f] ∧ SqT K H a (xs.map V.str) ∧ LogAt K H l as es ∧ TupD H f (F.map V.str) ∧ F.length ≤ 400 ∧ Tabs Ps H ∧
  ∀ H' p ts, Kp Ps H H' → H p = none → H' p = some (.lst (ts.map V.ref)) → StsT H' ts (arrSt F (lo0 (brg F xs)) 1 es) → Q (.ref p) H'
end
end Ln


set_option Elab.async false
set_option linter.all false
set_option maxRecDepth 100000
set_option maxHeartbeats 4000000
namespace Ln
open PySem
/-! ### the conditions are enough: the rule of [16] gives the lane -/
/-- a lane after one event, at the left end or the right -/
def mvB (L : List Str) (e : Ev) (left : Bool) : List Str := match e with
  | .inn c => if left = true then c :: L else L ++ [c]
  | .out => if left = true then L.drop 1 else L.take (L.length - 1)
/-- the side of the next stayer, true for the left one -/
def nxW (F : List Str) : Option Nat → List Ev → Bool
  | _, [] => true
  | lo, .out :: r => nxW F lo r
  | lo, .inn c :: r => if c ∈ F then
      match lo with
      | none => nxW F (some (F.idxOf c)) r
      | some l => decide (F.idxOf c < l)
    else nxW F lo r
def loN (F : List Str) (lo : Option Nat) : Ev → Option Nat
  | .out => lo
  | .inn c => if c ∈ F then (match lo with | none => some (F.idxOf c) | some l => some l) else lo
/-- the side of an event, s the side of the next stayer -/
def gSide (F : List Str) (s : Bool) (L : List Str) : Ev → Bool
  | .inn c => decide (c ∈ F) == s
  | .out => if s = true then !decide (∃ y ∈ L.head?, y ∈ F) else decide (∃ y ∈ L.getLast?, y ∈ F)
def gRun (F : List Str) : Option Nat → List Str → List Ev → List Str
  | _, L, [] => L
  | lo, L, e :: r => gRun F (loN F lo e) (mvB L e (gSide F (nxW F lo (e :: r)) L e)) r
theorem mvB_in {L : List Str} {c : Str} {left : Bool} : Mv L (.inn c) (mvB L (.inn c) left) := by
  cases left with
  | true => exact .inL c L
  | false => exact .inR c L
theorem take_dropLast (L : List Str) : L.take (L.length - 1) = L.dropLast := (List.dropLast_eq_take).symm
theorem mvB_out {L : List Str} {left : Bool} (h : L ≠ []) : Mv L .out (mvB L .out left) := by
  cases left with
  | true =>
    cases L with
    | nil => exact absurd rfl h
    | cons x r => exact .outL x r
  | false =>
    show Mv L .out (L.take (L.length - 1))
    rw [take_dropLast]
    have e := (List.dropLast_concat_getLast h).symm
    generalize L.dropLast = r at e ⊢
    rw [e]
    exact .outR _ r
/-- the first of those that arrive is the last of a falling row -/
theorem last_of {f : Str → Nat} {c : Str} : ∀ {D : List Str}, D.Pairwise (fun a b => f b < f a) → c ∈ D → (∀ d ∈ D, f c ≤ f d) → ∃ D0, D = D0 ++ [c]
  | [], _, h, _ => by cases h
  | [d], _, h, _ => ⟨[], by rw [List.mem_singleton.mp h]; rfl⟩
  | d :: e :: r, hp, h, hm => by
    have hp' := List.pairwise_cons.mp hp
    have hne : c ≠ d := fun z => by
      have h1 := hp'.1 e List.mem_cons_self
      have h2 := hm e (List.mem_cons_of_mem _ List.mem_cons_self)
      rw [z] at h2
      omega
    have hc : c ∈ e :: r := (List.mem_cons.mp h).elim (fun z => absurd z hne) id
    obtain ⟨D0, h0⟩ := last_of hp'.2 hc fun x hx => hm x (List.mem_cons_of_mem _ hx)
    exact ⟨d :: D0, by rw [h0]; rfl⟩
theorem first_of {f : Str → Nat} {c : Str} : ∀ {E : List Str}, E.Pairwise (fun a b => f a < f b) → c ∈ E → (∀ d ∈ E, f c ≤ f d) → ∃ E0, E = c :: E0
  | [], _, h, _ => by cases h
  | d :: r, hp, h, hm => by
    rcases List.mem_cons.mp h with e | h
    · exact ⟨r, by rw [e]⟩
    · have h1 := (List.pairwise_cons.mp hp).1 c h
      have h2 := hm d List.mem_cons_self
      omega
/-- what is still to come fits the lane -/
structure Fit (F D B E : List Str) (kn P : List Str) (r : List Ev) : Prop where
  eq : F = D ++ B ++ E
  nd : F.Nodup
  ek : kn = P ++ arrs r
  knd : kn.Nodup
  dn : D.Pairwise (fun a b => kn.idxOf b < kn.idxOf a)
  up : E.Pairwise (fun a b => kn.idxOf a < kn.idxOf b)
  late : ∀ y ∈ D ++ E, y ∈ arrs r
  all : ∀ c ∈ arrs r, c ∈ F → c ∈ D ++ E
theorem idx_ge {P S : List Str} {y : Str} (hn : (P ++ S).Nodup) (h : y ∈ S) : P.length ≤ (P ++ S).idxOf y := by
  have hc : y ∉ P := fun z => (List.nodup_append.mp hn).2.2 y z y h rfl
  rw [List.idxOf_append, if_neg hc]
  omega
section
variable {F A B C D E kn P : List Str} {r : List Ev} {c : Str}
theorem Fit.out (h : Fit F D B E kn P (.out :: r)) : Fit F D B E kn P r := ⟨h.eq, h.nd, h.ek, h.knd, h.dn, h.up, h.late, h.all⟩
theorem Fit.pass (h : Fit F D B E kn P (.inn c :: r)) (hc : c ∉ F) : Fit F D B E kn (P ++ [c]) r := by
  refine ⟨h.eq, h.nd, by rw [h.ek]; simp [arrs], h.knd, h.dn, h.up, fun y hy => ?_, fun y hy hf => h.all y (List.mem_cons_of_mem _ hy) hf⟩
  rcases List.mem_cons.mp (h.late y hy) with e | e
  · refine absurd ?_ hc
    rw [← e, h.eq]
    rcases List.mem_append.mp hy with z | z
    · simp [z]
    · simp [z]
  · exact e
theorem Fit.min (h : Fit F D B E kn P (.inn c :: r)) : ∀ d ∈ D ++ E, kn.idxOf c ≤ kn.idxOf d := fun d hd => by
  have hk : kn = P ++ c :: arrs r := h.ek
  have hn : (P ++ c :: arrs r).Nodup := hk ▸ h.knd
  have h1 : kn.idxOf c = P.length := by rw [hk]; exact idx_mid hn
  have h2 : P.length ≤ kn.idxOf d := by
    rw [hk]
    exact idx_ge hn (h.late d hd)
  omega
/-- the next stayer comes to the one side or the other -/
theorem Fit.stay (h : Fit F D B E kn P (.inn c :: r)) (hc : c ∈ F) : (∃ D0, D = D0 ++ [c] ∧ Fit F D0 (c :: B) E kn (P ++ [c]) r) ∨ (∃ E0, E = c :: E0 ∧ Fit F D (B ++ [c]) E0 kn (P ++ [c]) r) := by
  have hin := h.all c List.mem_cons_self hc
  have hk2 : kn = (P ++ [c]) ++ arrs r := by rw [h.ek]; simp [arrs]
  have hcr : c ∉ arrs r := fun z => by
    have hn : (P ++ c :: arrs r).Nodup := (show kn = P ++ c :: arrs r from h.ek) ▸ h.knd
    exact (List.nodup_cons.mp (List.nodup_append.mp hn).2.1).1 z
  have hFn := h.nd
  rcases List.mem_append.mp hin with hd | he
  · obtain ⟨D0, rfl⟩ := last_of h.dn hd fun d hd => h.min d (List.mem_append_left _ hd)
    refine .inl ⟨D0, rfl, by rw [h.eq]; simp, h.nd, hk2, h.knd, (List.pairwise_append.mp h.dn).1, h.up, fun y hy => ?_, fun y hy hf => ?_⟩
    · have hyc : y ≠ c := fun z => by
        have e : F = D0 ++ c :: (B ++ E) := by rw [h.eq]; simp
        rw [e] at hFn
        have := (List.nodup_cons.mp (List.perm_middle.nodup_iff.mp hFn)).1
        refine this ?_
        rw [← z]
        rcases List.mem_append.mp hy with q | q
        · simp [q]
        · simp [q]
      have : y ∈ D0 ++ [c] ++ E := by
        rcases List.mem_append.mp hy with z | z
        · simp [z]
        · simp [z]
      exact (List.mem_cons.mp (h.late y this)).elim (fun z => absurd z hyc) id
    · have := h.all y (List.mem_cons_of_mem _ hy) hf
      have hyc : y ≠ c := fun z => hcr (z ▸ hy)
      simp at this ⊢
      rcases this with z | z | z
      · exact .inl z
      · exact absurd z hyc
      · exact .inr z
  · obtain ⟨E0, rfl⟩ := first_of h.up he fun d hd => h.min d (List.mem_append_right _ hd)
    refine .inr ⟨E0, rfl, by rw [h.eq]; simp, h.nd, hk2, h.knd, h.dn, (List.pairwise_cons.mp h.up).2, fun y hy => ?_, fun y hy hf => ?_⟩
    · have hyc : y ≠ c := fun z => by
        have e : F = (D ++ B) ++ c :: E0 := by rw [h.eq]
        rw [e] at hFn
        have := (List.nodup_cons.mp (List.perm_middle.nodup_iff.mp hFn)).1
        refine this ?_
        rw [← z]
        rcases List.mem_append.mp hy with q | q
        · simp [q]
        · simp [q]
      have : y ∈ D ++ c :: E0 := by
        rcases List.mem_append.mp hy with z | z
        · simp [z]
        · simp [z]
      exact (List.mem_cons.mp (h.late y this)).elim (fun z => absurd z hyc) id
    · have := h.all y (List.mem_cons_of_mem _ hy) hf
      have hyc : y ≠ c := fun z => hcr (z ▸ hy)
      simp at this ⊢
      rcases this with z | z | z
      · exact .inl z
      · exact absurd z hyc
      · exact .inr z
end
end Ln


set_option Elab.async false
set_option linter.all false
set_option maxRecDepth 100000
set_option maxHeartbeats 4000000
namespace Ln
open PySem
theorem ext_head {F : List Str} {x : Int} {r : List Ev} (h : ∀ y ∈ extL F x r, 0 ≤ y) : 0 ≤ x := by
  cases r with
  | nil => exact h x List.mem_cons_self
  | cons e r => cases e <;> exact h x List.mem_cons_self
theorem run_one {F : List Str} {lo : Option Nat} {L : List Str} {e : Ev} {r : List Ev} (m : Mv L e (mvB L e (gSide F (nxW F lo (e :: r)) L e))) (h : Run (mvB L e (gSide F (nxW F lo (e :: r)) L e)) r (gRun F (loN F lo e) (mvB L e (gSide F (nxW F lo (e :: r)) L e)) r)) : Run L (e :: r) (gRun F lo L (e :: r)) := .cons m h
theorem drop_left {A : List Str} {x : Str} : (x :: A).drop 1 = A := rfl
theorem take_right {A : List Str} {x : Str} : (A ++ [x]).take ((A ++ [x]).length - 1) = A := by rw [take_dropLast, List.dropLast_concat]
/-- at the end the lane is all that was to be -/
theorem Fit.last {F A B C D E kn P : List Str} (h : Fit F D B E kn P []) (hsz : ((A ++ B ++ C).length : Int) = F.length) : A ++ B ++ C = F := by
  have hDE : D ++ E = [] := by
    cases hx : D ++ E with
    | nil => rfl
    | cons y r =>
      have := h.late y (by rw [hx]; exact List.mem_cons_self)
      cases this
  obtain ⟨rfl, rfl⟩ := List.append_eq_nil_iff.mp hDE
  have hF : F = B := by rw [h.eq]; simp
  rw [hF] at hsz
  rw [List.length_append, List.length_append] at hsz
  have hA : A = [] := List.eq_nil_of_length_eq_zero (by omega)
  have hC : C = [] := List.eq_nil_of_length_eq_zero (by omega)
  rw [hA, hC, hF]
  simp
/-- with a stayer in the lane -/
theorem grd_some {F : List Str} : ∀ (r : List Ev) (A B C D E kn P : List Str) (l : Nat) (nL nR : Int) (b : Option Str), Fit F D B E kn P r → B ≠ [] → D.length ≤ l → l ≤ D.length + B.length → (∀ y ∈ A ++ C, y ∉ F) →
    (∀ y ∈ extL F ((A.length + C.length : Nat) : Int) r, 0 ≤ y) → swG F (some l) nL nR ((A.length + C.length : Nat) : Int) b r = none → (nxW F (some l) r = true → (A.length : Int) ≤ max 0 nL) → (nxW F (some l) r = false → (C.length : Int) ≤ max 0 nR) →
    endI ((A ++ B ++ C).length : Int) r = F.length → gRun F (some l) (A ++ B ++ C) r = F ∧ Run (A ++ B ++ C) r F
  | [], A, B, C, D, E, kn, P, l, nL, nR, b, hf, hB, h1, h2, hA, hx, hs, hl, hr, hsz => by
    have e := hf.last hsz
    show A ++ B ++ C = F ∧ Run (A ++ B ++ C) [] F
    exact ⟨e, by rw [e]; exact .nil _⟩
  | .out :: r, A, B, C, D, E, kn, P, l, nL, nR, b, hf, hB, h1, h2, hA, hx, hs, hl, hr, hsz => by
    have hx1 : ∀ y ∈ extL F (((A.length + C.length : Nat) : Int) - 1) r, 0 ≤ y := fun y hy => hx y (List.mem_cons_of_mem _ hy)
    have hpos := ext_head hx1
    have hw : nxW F (some l) (.out :: r) = nxW F (some l) r := rfl
    rw [hw] at hl hr
    have hs : swG F (some l) (nL - 1) (nR - 1) (((A.length + C.length : Nat) : Int) - 1) b r = none := hs
    -- a leaver at the left end goes
    have goL : ∀ (x : Str) (A' : List Str), A = x :: A' → gSide F (nxW F (some l) r) (A ++ B ++ C) .out = true → gRun F (some l) (A ++ B ++ C) (.out :: r) = F ∧ Run (A ++ B ++ C) (.out :: r) F := fun x A' e hg => by
      subst e
      have e1 : mvB (x :: A' ++ B ++ C) .out true = A' ++ B ++ C := rfl
      have e0 : (((x :: A').length + C.length : Nat) : Int) - 1 = ((A'.length + C.length : Nat) : Int) := by rw [List.length_cons]; omega
      rw [e0] at hx1 hs
      have ih := grd_some r A' B C D E kn P l (nL - 1) (nR - 1) b hf.out hB h1 h2 (fun y hy => hA y (List.mem_cons_of_mem _ hy)) hx1 hs (fun z => by have := hl z; rw [List.length_cons] at this; omega) (fun z => by
        have h3 := hr z
        by_cases q : C = []
        · rw [q, List.length_nil]
          omega
        · -- the right one was wanted, and there was a leaver there
          exfalso
          have hg : (if nxW F (some l) r = true then _ else decide (∃ y ∈ (x :: A' ++ B ++ C).getLast?, y ∈ F)) = true := hg
          rw [z, if_neg Bool.false_ne_true] at hg
          obtain ⟨y, hy, hyF⟩ := of_decide_eq_true hg
          have hlast : (x :: A' ++ B ++ C).getLast? = C.getLast? := by
            rw [List.getLast?_append]
            cases hc : C.getLast? with
            | none => exact absurd (List.getLast?_eq_none_iff.mp hc) q
            | some y => rfl
          rw [hlast] at hy
          exact hA y (List.mem_append_right _ (List.mem_of_getLast? hy)) hyF) (by rw [← e1]; have := hsz; show endI ((A' ++ B ++ C).length : Int) r = _; rw [← this]; show _ = endI (((x :: A' ++ B ++ C).length : Int) - 1) r; congr 1; simp)
      refine ⟨?_, .cons (.outL x _) ih.2⟩
      show gRun F (some l) (mvB (x :: A' ++ B ++ C) .out (gSide F (nxW F (some l) r) (x :: A' ++ B ++ C) .out)) r = F
      rw [hg, e1]
      exact ih.1
    have goR : ∀ (x : Str) (C' : List Str), C = C' ++ [x] → gSide F (nxW F (some l) r) (A ++ B ++ C) .out = false → gRun F (some l) (A ++ B ++ C) (.out :: r) = F ∧ Run (A ++ B ++ C) (.out :: r) F := fun x C' e hg => by
      subst e
      have e1 : mvB (A ++ B ++ (C' ++ [x])) .out false = A ++ B ++ C' := by
        rw [← List.append_assoc]
        exact take_right
      have e0 : ((A.length + (C' ++ [x]).length : Nat) : Int) - 1 = ((A.length + C'.length : Nat) : Int) := by rw [List.length_append, List.length_singleton]; omega
      rw [e0] at hx1 hs
      have ih := grd_some r A B C' D E kn P l (nL - 1) (nR - 1) b hf.out hB h1 h2 (fun y hy => hA y (by rcases List.mem_append.mp hy with z | z <;> simp [z])) hx1 hs (fun z => by
        have h3 := hl z
        cases A with
        | nil => rw [List.length_nil]; omega
        | cons a A' =>
          exfalso
          have hg : (if nxW F (some l) r = true then !decide (∃ y ∈ (a :: A' ++ B ++ (C' ++ [x])).head?, y ∈ F) else _) = false := hg
          rw [z, if_pos rfl, Bool.not_eq_false'] at hg
          obtain ⟨y, hy, hyF⟩ := of_decide_eq_true hg
          have hy : some a = some y := hy
          cases hy
          exact hA a List.mem_cons_self hyF) (fun z => by have := hr z; rw [List.length_append, List.length_singleton] at this; omega) (by
            have := hsz
            rw [← this]
            show endI ((A ++ B ++ C').length : Int) r = endI (((A ++ B ++ (C' ++ [x])).length : Int) - 1) r
            congr 1
            simp
            omega)
      refine ⟨?_, ?_⟩
      · show gRun F (some l) (mvB (A ++ B ++ (C' ++ [x])) .out (gSide F (nxW F (some l) r) (A ++ B ++ (C' ++ [x])) .out)) r = F
        rw [hg, e1]
        exact ih.1
      · rw [← List.append_assoc]
        exact .cons (.outR x _) ih.2
    have hBF : ∀ y ∈ B, y ∈ F := fun y hy => by rw [hf.eq]; simp [hy]
    cases hg : gSide F (nxW F (some l) r) (A ++ B ++ C) .out with
    | true =>
      cases A with
      | cons x A' => exact goL x A' rfl hg
      | nil =>
        exfalso
        obtain ⟨y0, B', rfl⟩ := List.exists_cons_of_ne_nil hB
        cases hz : nxW F (some l) r with
        | true =>
          rw [hz] at hg
          have hg : (!decide (∃ y ∈ (([] : List Str) ++ (y0 :: B') ++ C).head?, y ∈ F)) = true := hg
          rw [decide_eq_true ⟨y0, rfl, hBF y0 List.mem_cons_self⟩] at hg
          cases hg
        | false =>
          rw [hz] at hg
          have hg : decide (∃ y ∈ (([] : List Str) ++ (y0 :: B') ++ C).getLast?, y ∈ F) = true := hg
          obtain ⟨y, hy, hyF⟩ := of_decide_eq_true hg
          have hCne : C ≠ [] := fun q => by
            rw [q] at hpos
            exact absurd hpos (by decide)
          have hlast : (([] : List Str) ++ (y0 :: B') ++ C).getLast? = C.getLast? := by
            rw [List.getLast?_append]
            cases hc : C.getLast? with
            | none => exact absurd (List.getLast?_eq_none_iff.mp hc) hCne
            | some y => rfl
          rw [hlast] at hy
          exact hA y (List.mem_append_right _ (List.mem_of_getLast? hy)) hyF
    | false =>
      rcases List.eq_nil_or_concat C with rfl | ⟨C', x, rfl⟩
      · exfalso
        have hBl : (A ++ B ++ []).getLast? = some (B.getLast hB) := by
          rw [List.append_nil, List.getLast?_append, List.getLast?_eq_some_getLast hB]
          rfl
        cases hz : nxW F (some l) r with
        | false =>
          rw [hz] at hg
          have hg : decide (∃ y ∈ (A ++ B ++ []).getLast?, y ∈ F) = false := hg
          rw [decide_eq_true ⟨_, hBl, hBF _ (List.getLast_mem hB)⟩] at hg
          cases hg
        | true =>
          rw [hz] at hg
          have hg : (!decide (∃ y ∈ (A ++ B ++ []).head?, y ∈ F)) = false := hg
          rw [Bool.not_eq_false'] at hg
          obtain ⟨y, hy, hyF⟩ := of_decide_eq_true hg
          cases A with
          | nil =>
            exact absurd hpos (by decide)
          | cons a A' =>
            have hy : some a = some y := hy
            cases hy
            exact hA _ List.mem_cons_self hyF
      · exact goR x C' (by simp) (by simpa using hg)
  | .inn c :: r, A, B, C, D, E, kn, P, l, nL, nR, b, hf, hB, h1, h2, hA, hx, hs, hl, hr, hsz => by
    by_cases hc : c ∈ F
    · -- a stayer
      have hx1 : ∀ y ∈ extL F ((A.length + C.length : Nat) : Int) r, 0 ≤ y := fun y hy => hx y (by
        show y ∈ _ :: extL F (if c ∈ F then _ else _) r
        rw [if_pos hc]
        exact List.mem_cons_of_mem _ hy)
      have hw : nxW F (some l) (.inn c :: r) = decide (F.idxOf c < l) := by
        show (if c ∈ F then decide (F.idxOf c < l) else _) = _
        rw [if_pos hc]
      have hs : (if F.idxOf c < l then (if 0 < nL then some (b, c) else swG F (some l) 0 ((A.length + C.length : Nat) : Int) ((A.length + C.length : Nat) : Int) (some c) r) else (if 0 < nR then some (b, c) else swG F (some l) ((A.length + C.length : Nat) : Int) 0 ((A.length + C.length : Nat) : Int) (some c) r)) = none := by
        have : (if c ∈ F then _ else _) = none := hs
        rw [if_pos hc] at this
        exact this
      have hlo : loN F (some l) (.inn c) = some l := by
        show (if c ∈ F then some l else some l) = some l
        split <;> rfl
      have hgs : ∀ w L, gSide F w L (.inn c) = w := fun w L => by
        show (decide (c ∈ F) == w) = w
        rw [decide_eq_true hc]
        cases w <;> rfl
      have eqn : ∀ L, gRun F (some l) L (.inn c :: r) = gRun F (some l) (mvB L (.inn c) (decide (F.idxOf c < l))) r := fun L => by
        show gRun F (loN F (some l) (.inn c)) (mvB L (.inn c) (gSide F (nxW F (some l) (.inn c :: r)) L (.inn c))) r = _
        rw [hlo, hgs, hw]
      rw [hw] at hl hr
      rcases hf.stay hc with ⟨D0, rfl, hf2⟩ | ⟨E0, rfl, hf2⟩
      · -- on the left
        have hi : F.idxOf c = D0.length := by
          have e : F = D0 ++ c :: (B ++ E) := by rw [hf.eq]; simp
          have hn := hf.nd
          rw [e] at hn ⊢
          exact idx_mid hn
        rw [List.length_append, List.length_singleton] at h1 h2
        have hlt : F.idxOf c < l := by omega
        rw [if_pos hlt] at hs
        have hnL : ¬ 0 < nL := fun z => by
          rw [if_pos z] at hs
          cases hs
        rw [if_neg hnL] at hs
        have hA0 : A = [] := List.eq_nil_of_length_eq_zero (by
          have := hl (decide_eq_true hlt)
          omega)
        subst hA0
        have ih := grd_some r [] (c :: B) C D0 E kn (P ++ [c]) l 0 _ (some c) hf2 (List.cons_ne_nil _ _) (by omega) (by rw [List.length_cons]; omega) hA hx1 hs (fun _ => by simp) (fun _ => by rw [List.length_nil]; omega) (by
          have := hsz
          rw [← this]
          show endI (((c :: B) ++ C).length : Int) r = endI ((([] ++ B ++ C).length : Int) + 1) r
          congr 1)
        refine ⟨?_, .cons (.inL c _) ih.2⟩
        rw [eqn, decide_eq_true hlt]
        exact ih.1
      · have hi : F.idxOf c = D.length + B.length := by
          have e : F = (D ++ B) ++ c :: E0 := by rw [hf.eq]
          have hn := hf.nd
          rw [e] at hn ⊢
          rw [idx_mid hn, List.length_append]
        have hge : ¬ F.idxOf c < l := by omega
        rw [if_neg hge] at hs
        have hnR : ¬ 0 < nR := fun z => by
          rw [if_pos z] at hs
          cases hs
        rw [if_neg hnR] at hs
        have hC0 : C = [] := List.eq_nil_of_length_eq_zero (by
          have := hr (decide_eq_false hge)
          omega)
        subst hC0
        have hBl : (B ++ [c]).length = B.length + 1 := by rw [List.length_append]; rfl
        have ih := grd_some r A (B ++ [c]) [] D E0 kn (P ++ [c]) l _ 0 (some c) hf2 (by simp) h1 (by omega) hA hx1 hs (fun _ => by rw [List.length_nil]; omega) (fun _ => by simp) (by
          have := hsz
          rw [← this]
          show endI ((A ++ (B ++ [c]) ++ []).length : Int) r = endI (((A ++ B ++ []).length : Int) + 1) r
          congr 1
          simp
          omega)
        have e1 : A ++ B ++ [] ++ [c] = A ++ (B ++ [c]) ++ [] := by simp
        refine ⟨?_, ?_⟩
        · rw [eqn, decide_eq_false hge]
          show gRun F (some l) (A ++ B ++ [] ++ [c]) r = F
          rw [e1]
          exact ih.1
        · refine .cons (.inR c _) ?_
          rw [e1]
          exact ih.2
    · -- a leaver
      have hx1 : ∀ y ∈ extL F (((A.length + C.length : Nat) : Int) + 1) r, 0 ≤ y := fun y hy => hx y (by
        show y ∈ _ :: extL F (if c ∈ F then _ else _) r
        rw [if_neg hc]
        exact List.mem_cons_of_mem _ hy)
      have hw : nxW F (some l) (.inn c :: r) = nxW F (some l) r := by
        show (if c ∈ F then _ else nxW F (some l) r) = _
        rw [if_neg hc]
      have hs : swG F (some l) nL nR (((A.length + C.length : Nat) : Int) + 1) b r = none := by
        have : (if c ∈ F then _ else swG F (some l) nL nR (((A.length + C.length : Nat) : Int) + 1) b r) = none := hs
        rw [if_neg hc] at this
        exact this
      have hlo : loN F (some l) (.inn c) = some l := by
        show (if c ∈ F then some l else some l) = some l
        split <;> rfl
      have eqn : ∀ L, gRun F (some l) L (.inn c :: r) = gRun F (some l) (mvB L (.inn c) (!nxW F (some l) r)) r := fun L => by
        show gRun F (loN F (some l) (.inn c)) (mvB L (.inn c) (decide (c ∈ F) == nxW F (some l) (.inn c :: r))) r = _
        rw [hlo, hw, decide_eq_false hc]
        cases nxW F (some l) r <;> rfl
      rw [hw] at hl hr
      cases hz : nxW F (some l) r with
      | true =>
        have e0 : ((A.length + C.length : Nat) : Int) + 1 = ((A.length + (C ++ [c]).length : Nat) : Int) := by rw [List.length_append, List.length_singleton]; omega
        rw [e0] at hx1 hs
        have ih := grd_some r A B (C ++ [c]) D E kn (P ++ [c]) l nL nR b (hf.pass hc) hB h1 h2 (fun y hy => by
          rw [← List.append_assoc] at hy
          rcases List.mem_append.mp hy with z | z
          · exact hA y z
          · rw [List.mem_singleton.mp z]; exact hc) hx1 hs (fun _ => hl hz) (fun q => by rw [hz] at q; cases q) (by
            have := hsz
            rw [← this]
            show endI ((A ++ B ++ (C ++ [c])).length : Int) r = endI (((A ++ B ++ C).length : Int) + 1) r
            congr 1
            simp
            omega)
        have e1 : A ++ B ++ C ++ [c] = A ++ B ++ (C ++ [c]) := by simp
        refine ⟨?_, ?_⟩
        · rw [eqn, hz]
          show gRun F (some l) (A ++ B ++ C ++ [c]) r = F
          rw [e1]
          exact ih.1
        · refine .cons (.inR c _) ?_
          rw [e1]
          exact ih.2
      | false =>
        have e0 : ((A.length + C.length : Nat) : Int) + 1 = (((c :: A).length + C.length : Nat) : Int) := by rw [List.length_cons]; omega
        rw [e0] at hx1 hs
        have ih := grd_some r (c :: A) B C D E kn (P ++ [c]) l nL nR b (hf.pass hc) hB h1 h2 (fun y hy => by
          rcases List.mem_cons.mp hy with z | z
          · rw [z]; exact hc
          · exact hA y z) hx1 hs (fun q => by rw [hz] at q; cases q) (fun _ => hr hz) (by
            have := hsz
            rw [← this]
            show endI ((c :: A ++ B ++ C).length : Int) r = endI (((A ++ B ++ C).length : Int) + 1) r
            congr 1)
        refine ⟨?_, .cons (.inL c _) ih.2⟩
        rw [eqn, hz]
        exact ih.1
end Ln


set_option Elab.async false
set_option linter.all false
set_option maxRecDepth 100000
set_option maxHeartbeats 4000000
namespace Ln
open PySem
theorem mvB_all {F L : List Str} {e : Ev} {s : Bool} (h : ∀ y ∈ L, y ∉ F) (hc : ∀ c, e = .inn c → c ∉ F) : ∀ y ∈ mvB L e s, y ∉ F := by
  intro y hy
  cases e with
  | inn c =>
    cases s with
    | true => exact (List.mem_cons.mp hy).elim (fun z => by rw [z]; exact hc c rfl) (h y)
    | false => exact (List.mem_append.mp hy).elim (h y) (fun z => by rw [List.mem_singleton.mp z]; exact hc c rfl)
  | out =>
    cases s with
    | true => exact h y (List.mem_of_mem_drop hy)
    | false => exact h y (List.mem_of_mem_take hy)
theorem mvB_len {L : List Str} {e : Ev} {s : Bool} (h : e = .out → L ≠ []) : ((mvB L e s).length : Int) = endI L.length [e] := by
  cases e with
  | inn c => exact mvB_in.len
  | out => exact (mvB_out (h rfl)).len
/-- before the first stayer of all -/
theorem grd_none {F : List Str} : ∀ (r : List Ev) (L D E kn P : List Str) (nL nR : Int) (b : Option Str), Fit F D [] E kn P r → (∀ y ∈ L, y ∉ F) →
    (∀ y ∈ extL F (L.length : Int) r, 0 ≤ y) → swG F none nL nR (L.length : Int) b r = none → endI (L.length : Int) r = F.length → gRun F none L r = F ∧ Run L r F
  | [], L, D, E, kn, P, nL, nR, b, hf, hA, hx, hs, hsz => by
    have e := hf.last (A := L) (C := []) (by rw [List.append_nil, List.append_nil]; exact hsz)
    rw [List.append_nil, List.append_nil] at e
    show L = F ∧ Run L [] F
    exact ⟨e, by rw [e]; exact .nil _⟩
  | .out :: r, L, D, E, kn, P, nL, nR, b, hf, hA, hx, hs, hsz => by
    have hx1 : ∀ y ∈ extL F ((L.length : Int) - 1) r, 0 ≤ y := fun y hy => hx y (List.mem_cons_of_mem _ hy)
    have hpos := ext_head hx1
    have hne : L ≠ [] := fun z => by
      rw [z] at hpos
      exact absurd hpos (by decide)
    have hl : ((mvB L .out (gSide F (nxW F none r) L .out)).length : Int) = (L.length : Int) - 1 := mvB_len fun _ => hne
    have ih := grd_none r (mvB L .out (gSide F (nxW F none r) L .out)) D E kn P (nL - 1) (nR - 1) b hf.out (mvB_all hA fun c z => by cases z) (by rw [hl]; exact hx1) (by rw [hl]; exact hs) (by rw [hl]; exact hsz)
    exact ⟨ih.1, .cons (mvB_out hne) ih.2⟩
  | .inn c :: r, L, D, E, kn, P, nL, nR, b, hf, hA, hx, hs, hsz => by
    by_cases hc : c ∈ F
    · have hx1 : ∀ y ∈ extL F (L.length : Int) r, 0 ≤ y := fun y hy => hx y (by
        show y ∈ _ :: extL F (if c ∈ F then _ else _) r
        rw [if_pos hc]
        exact List.mem_cons_of_mem _ hy)
      have hs : swG F (some (F.idxOf c)) 0 0 (L.length : Int) (some c) r = none := by
        have : (if c ∈ F then swG F (some (F.idxOf c)) 0 0 (L.length : Int) (some c) r else _) = none := hs
        rw [if_pos hc] at this
        exact this
      have eqn : gRun F none L (.inn c :: r) = gRun F (some (F.idxOf c)) (mvB L (.inn c) (nxW F (some (F.idxOf c)) r)) r := by
        have hlo : loN F none (.inn c) = some (F.idxOf c) := by
          show (if c ∈ F then some (F.idxOf c) else none) = _
          rw [if_pos hc]
        have hw : nxW F none (.inn c :: r) = nxW F (some (F.idxOf c)) r := by
          show (if c ∈ F then nxW F (some (F.idxOf c)) r else _) = _
          rw [if_pos hc]
        show gRun F (loN F none (.inn c)) (mvB L (.inn c) (decide (c ∈ F) == nxW F none (.inn c :: r))) r = _
        rw [hlo, hw, decide_eq_true hc]
        cases nxW F (some (F.idxOf c)) r <;> rfl
      have key : ∀ D' E', Fit F D' [c] E' kn (P ++ [c]) r → F.idxOf c = D'.length → gRun F none L (.inn c :: r) = F ∧ Run L (.inn c :: r) F := fun D' E' hf2 hi => by
        rw [eqn]
        have hsz' : endI ((L.length : Int) + 1) r = F.length := hsz
        cases hz : nxW F (some (F.idxOf c)) r with
        | true =>
          have ih := grd_some r [] [c] L D' E' kn (P ++ [c]) (F.idxOf c) 0 0 (some c) hf2 (List.cons_ne_nil _ _) (by omega) (by rw [hi]; exact Nat.le_add_right _ _) hA (by rw [List.length_nil, Nat.zero_add]; exact hx1) (by rw [List.length_nil, Nat.zero_add]; exact hs) (fun _ => by simp) (fun q => by rw [hz] at q; cases q) (by
            rw [← hsz']
            rfl)
          exact ⟨ih.1, .cons (.inL c _) ih.2⟩
        | false =>
          have e1 : L ++ [c] = L ++ [c] ++ [] := by simp
          have ih := grd_some r L [c] [] D' E' kn (P ++ [c]) (F.idxOf c) 0 0 (some c) hf2 (List.cons_ne_nil _ _) (by omega) (by rw [hi]; exact Nat.le_add_right _ _) (by rw [List.append_nil]; exact hA) (by rw [List.length_nil, Nat.add_zero]; exact hx1) (by rw [List.length_nil, Nat.add_zero]; exact hs) (fun q => by rw [hz] at q; cases q) (fun _ => by simp) (by
            rw [← hsz', ← e1, List.length_append]
            rfl)
          rw [← e1] at ih
          exact ⟨ih.1, .cons (.inR c _) ih.2⟩
      rcases hf.stay hc with ⟨D0, rfl, hf2⟩ | ⟨E0, rfl, hf2⟩
      · refine key D0 E hf2 ?_
        have e : F = D0 ++ c :: E := by rw [hf.eq]; simp
        have hn := hf.nd
        rw [e] at hn ⊢
        exact idx_mid hn
      · refine key D E0 hf2 ?_
        have e : F = D ++ c :: E0 := by rw [hf.eq]; simp
        have hn := hf.nd
        rw [e] at hn ⊢
        exact idx_mid hn
    · have hx1 : ∀ y ∈ extL F ((L.length : Int) + 1) r, 0 ≤ y := fun y hy => hx y (by
        show y ∈ _ :: extL F (if c ∈ F then _ else _) r
        rw [if_neg hc]
        exact List.mem_cons_of_mem _ hy)
      have hs : swG F none nL nR ((L.length : Int) + 1) b r = none := by
        have : (if c ∈ F then _ else swG F none nL nR ((L.length : Int) + 1) b r) = none := hs
        rw [if_neg hc] at this
        exact this
      have hlo : loN F none (.inn c) = none := by
        show (if c ∈ F then some (F.idxOf c) else none) = none
        rw [if_neg hc]
      have hl : ∀ s, ((mvB L (.inn c) s).length : Int) = (L.length : Int) + 1 := fun s => mvB_len fun z => by cases z
      have ih := grd_none r (mvB L (.inn c) (gSide F (nxW F none (.inn c :: r)) L (.inn c))) D E kn (P ++ [c]) nL nR b (hf.pass hc) (mvB_all hA fun d z => by cases z; exact hc) (by rw [hl]; exact hx1) (by rw [hl]; exact hs) (by rw [hl]; exact hsz)
      refine ⟨?_, .cons mvB_in ih.2⟩
      show gRun F (loN F none (.inn c)) _ r = F
      rw [hlo]
      exact ih.1
/-! ### from the conditions -/
def NP (o : List Nat) : Prop := ∀ i, i + 2 < o.length → ¬ (o.getD i 0 < o.getD (i + 1) 0 ∧ o.getD (i + 2) 0 < o.getD (i + 1) 0)
theorem np_of {o : List Nat} (h : fpk o = none) : NP o := fun i hi z => by
  unfold fpk at h
  rw [List.find?_eq_none] at h
  have := h (i + 1) (by rw [List.mem_range'_1]; omega)
  refine this ?_
  unfold isPk
  rw [Bool.and_eq_true]
  exact ⟨decide_eq_true z.1, decide_eq_true z.2⟩
theorem valley : ∀ (o : List Nat), o.Nodup → NP o → ∃ d u, o = d ++ u ∧ d.Pairwise (fun a b => b < a) ∧ u.Pairwise (fun a b => a < b)
  | [], _, _ => ⟨[], [], rfl, .nil, .nil⟩
  | [a], _, _ => ⟨[a], [], rfl, List.pairwise_singleton _ _, .nil⟩
  | a :: b :: r, hn, hp => by
    have hn' := List.nodup_cons.mp hn
    obtain ⟨d, u, e, hd, hu⟩ := valley (b :: r) hn'.2 fun i hi z => hp (i + 1) (by rw [List.length_cons]; omega) z
    have hab : a ≠ b := fun z => hn'.1 (by rw [z]; exact List.mem_cons_self)
    by_cases q : b < a
    · cases d with
      | nil => exact ⟨[a], u, by rw [e]; rfl, List.pairwise_singleton _ _, hu⟩
      | cons b' d =>
        have e' : b :: r = b' :: (d ++ u) := e
        obtain ⟨rfl, rfl⟩ := List.cons.inj e'
        refine ⟨a :: b :: d, u, rfl, List.pairwise_cons.mpr ⟨fun x hx => ?_, hd⟩, hu⟩
        rcases List.mem_cons.mp hx with z | z
        · rw [z]; exact q
        · exact Nat.lt_trans ((List.pairwise_cons.mp hd).1 x z) q
    · have hlt : a < b := by omega
      have hp0 := hp 0
      have second : ∀ x y, r = x :: y → ¬ x < b := fun x y ex z => by
        refine hp0 (by rw [ex]; simp) ⟨hlt, ?_⟩
        rw [ex]
        exact z
      have asc : ∀ u, u.Pairwise (fun a b => a < b) → b :: r = b :: u → (∀ x ∈ u, b < x) → ∃ d u, a :: b :: r = d ++ u ∧ d.Pairwise (fun a b => b < a) ∧ u.Pairwise (fun a b => a < b) := fun u hu e hb => by
        refine ⟨[], a :: b :: u, by rw [e]; rfl, .nil, List.pairwise_cons.mpr ⟨fun x hx => ?_, List.pairwise_cons.mpr ⟨hb, hu⟩⟩⟩
        rcases List.mem_cons.mp hx with z | z
        · rw [z]; exact hlt
        · exact Nat.lt_trans hlt (hb x z)
      cases d with
      | nil =>
        have e' : b :: r = u := e
        subst e'
        exact asc r (List.pairwise_cons.mp hu).2 rfl (List.pairwise_cons.mp hu).1
      | cons b' d =>
        have e' : b :: r = b' :: (d ++ u) := e
        obtain ⟨rfl, rfl⟩ := List.cons.inj e'
        cases d with
        | cons x d =>
          have h1 := (List.pairwise_cons.mp hd).1 x List.mem_cons_self
          exact absurd h1 (second x (d ++ u) rfl)
        | nil =>
          refine asc u hu rfl fun x hx => ?_
          cases u with
          | nil => cases hx
          | cons y u =>
            have h1 := second y u rfl
            have h2 : y ≠ b := fun z => (List.nodup_cons.mp hn'.2).1 (by rw [← z]; exact List.mem_cons_self)
            have h3 : b < y := by omega
            rcases List.mem_cons.mp hx with z | z
            · rw [z]; exact h3
            · exact Nat.lt_trans h3 ((List.pairwise_cons.mp hu).1 x z)
/-- a lane as those before, from the first to the last, and behind the common cars -/
theorem cut3 (S : List Str) : ∀ xs : List Str, (∀ x ∈ xs, x ∉ S) ∨ ∃ A M C, xs = A ++ M ++ C ∧ (∀ x ∈ A, x ∉ S) ∧ (∀ x ∈ C, x ∉ S) ∧ (∃ m ∈ M.head?, m ∈ S) ∧ ∃ z ∈ M.getLast?, z ∈ S
  | [] => .inl fun x hx => by cases hx
  | c :: r => by
    rcases cut3 S r with h | ⟨A, M, C, e, h1, h2, h3, h4⟩
    · by_cases q : c ∈ S
      · exact .inr ⟨[], [c], r, rfl, (fun x hx => by cases hx), h, ⟨c, rfl, q⟩, c, rfl, q⟩
      · refine .inl fun x hx => ?_
        rcases List.mem_cons.mp hx with z | z
        · rw [z]; exact q
        · exact h x z
    · by_cases q : c ∈ S
      · refine .inr ⟨[], c :: (A ++ M), C, by rw [e]; simp, (fun x hx => by cases hx), h2, ⟨c, rfl, q⟩, ?_⟩
        obtain ⟨z, hz, hzS⟩ := h4
        refine ⟨z, ?_, hzS⟩
        rw [List.getLast?_cons, List.getLast?_append, hz]
        rfl
      · refine .inr ⟨c :: A, M, C, by rw [e]; rfl, fun x hx => ?_, h2, h3, h4⟩
        rcases List.mem_cons.mp hx with z | z
        · rw [z]; exact q
        · exact h1 x z
theorem plcs_last {S : List Str} {M : List Str} {z : Str} {k : Nat} (h : z ∈ M.getLast?) (hz : z ∈ S) : (plcs S k M).getLast? = some (k + M.length - 1) := by
  obtain ⟨M0, rfl⟩ : ∃ M0, M = M0 ++ [z] := by
    rcases List.eq_nil_or_concat M with rfl | ⟨M0, y, rfl⟩
    · cases h
    · refine ⟨M0, ?_⟩
      have h : some y = some z := by simpa using h
      rw [Option.some.inj h, List.concat_eq_append]
  rw [plcs_app]
  have : plcs S (k + M0.length) [z] = [k + M0.length] := by
    show (if z ∈ S then _ else _) = _
    rw [if_pos hz]
    rfl
  rw [this, List.getLast?_append, List.length_append]
  show some (k + M0.length) = some (k + (M0.length + 1) - 1)
  congr 1
theorem brgL_of {l : List Nat} {a z : Nat} (h1 : l.head? = some a) (h2 : l.getLast? = some z) : brgL l = (a, z + 1) := by
  cases l with
  | nil => cases h1
  | cons b r =>
    have h1 : some b = some a := h1
    cases h1
    have : (a :: r).getLast (List.cons_ne_nil a r) = z := by
      rw [List.getLast?_eq_some_getLast (List.cons_ne_nil a r)] at h2
      exact Option.some.inj h2
    show (a, (a :: r).getLast _ + 1) = _
    rw [this]
theorem brg_cut (xs S : List Str) : ∃ A M C, xs = A ++ M ++ C ∧ (∀ x ∈ A, x ∉ S) ∧ (∀ x ∈ C, x ∉ S) ∧ cutN xs (brg xs S) = M ∧ brg xs S = (if M = [] then (0, 0) else (A.length, A.length + M.length)) := by
  rcases cut3 S xs with h | ⟨A, M, C, rfl, h1, h2, ⟨m, hm, hmS⟩, z, hz, hzS⟩
  · refine ⟨xs, [], [], by simp, h, (fun x hx => by cases hx), ?_, ?_⟩
    · unfold brg
      rw [plcs_none h]
      rfl
    · unfold brg
      rw [plcs_none h]
      rfl
  · have hM : M ≠ [] := fun q => by
      rw [q] at hm
      cases hm
    have hb : brg (A ++ M ++ C) S = (A.length, A.length + M.length) := by
      unfold brg
      rw [plcs_app, plcs_app, plcs_none h1, plcs_none h2, List.append_nil, List.nil_append, Nat.zero_add]
      have hl := plcs_last (k := A.length) hz hzS
      have hh : (plcs S A.length M).head? = some A.length := by
        cases M with
        | nil => exact absurd rfl hM
        | cons y r =>
          have hm : some y = some m := hm
          rw [← Option.some.inj hm] at hmS
          show (if y ∈ S then A.length :: plcs S (A.length + 1) r else _).head? = _
          rw [if_pos hmS]
          rfl
      rw [brgL_of hh hl]
      have : 0 < M.length := List.length_pos_iff.mpr hM
      congr 1
      omega
    refine ⟨A, M, C, rfl, h1, h2, ?_, ?_⟩
    · rw [hb, cut_mid]
    · rw [hb, if_neg hM]
theorem why_ok_parts {xs F : List Str} {es : List Ev} (h : why xs es F = .ok) : carsOk xs es F = true ∧ hasBlk xs F = true ∧ fpk (F.map fun c => (xs ++ arrs es).idxOf c) = none ∧ fneg (ext0 xs F es) = none ∧ swC xs es F = none := by
  unfold why at h
  by_cases h1 : carsOk xs es F = false
  · rw [if_pos h1] at h
    cases h
  rw [if_neg h1] at h
  by_cases h2 : hasBlk xs F = false
  · rw [if_pos h2] at h
    cases h
  rw [if_neg h2] at h
  cases h3 : fpk (F.map fun c => (xs ++ arrs es).idxOf c) with
  | some i =>
    rw [h3] at h
    cases h
  | none =>
    rw [h3] at h
    have h : (match fneg (ext0 xs F es) with | some t => Why.moment t | none => match swC xs es F with | some (b, c) => .switch b c | none => .ok) = .ok := h
    cases h4 : fneg (ext0 xs F es) with
    | some t =>
      rw [h4] at h
      cases h
    | none =>
      rw [h4] at h
      have h : (match swC xs es F with | some (b, c) => Why.switch b c | none => .ok) = .ok := h
      cases h5 : swC xs es F with
      | some p =>
        rw [h5] at h
        cases h
      | none => exact ⟨by simpa using h1, by simpa using h2, rfl, rfl, rfl⟩
/-- the conditions are enough, by the rule of histories -/
theorem poss_run {xs F : List Str} {es : List Ev} (h : why xs es F = .ok) (hn : (xs ++ arrs es).Nodup) (hF : F.Nodup) : gRun F (lo0 (brg F xs)) xs es = F ∧ Run xs es F := by
  obtain ⟨h1, h2, h3, h4, h5⟩ := why_ok_parts h
  unfold carsOk at h1
  rw [Bool.and_eq_true] at h1
  have hsz : endI (xs.length : Int) es = F.length := (of_decide_eq_true h1.1).symm
  have hmem : ∀ c ∈ F, c ∈ xs ++ arrs es := fun c hc => of_decide_eq_true (List.all_eq_true.mp h1.2 c hc)
  obtain ⟨A, B, C, e1, hA, hC, hb1, hb2⟩ := brg_cut xs F
  obtain ⟨D, B', E, e2, hD, hE, hb3, hb4⟩ := brg_cut F xs
  obtain rfl : B = B' := by
    rw [← hb1, ← hb3]
    exact of_decide_eq_true h2
  have hBF : ∀ x ∈ B, x ∈ F := fun x hx => by rw [e2]; simp [hx]
  have hBx : ∀ x ∈ B, x ∈ xs := fun x hx => by rw [e1]; simp [hx]
  have hdis : ∀ x ∈ xs, x ∉ arrs es := fun x hx z => (List.nodup_append.mp hn).2.2 x hx x z rfl
  -- the valley
  have hinj : (F.map fun c => (xs ++ arrs es).idxOf c).Nodup := by
    refine List.pairwise_map.mpr (List.Pairwise.imp_of_mem (fun {x y} hx hy hxy e => hxy ?_) hF)
    have hx' := List.idxOf_lt_length_of_mem (hmem x hx)
    have e1 := List.getElem_idxOf hx'
    have hy' := List.idxOf_lt_length_of_mem (hmem y hy)
    have e2 := List.getElem_idxOf hy'
    rw [← e1, ← e2]
    congr 1
  obtain ⟨d, u, ho, hd, hu⟩ := valley _ hinj (np_of h3)
  have hext : ∀ y ∈ ext0 xs F es, 0 ≤ y := fun y hy => by
    unfold fneg at h4
    rw [List.findIdx?_eq_none_iff] at h4
    have := of_decide_eq_false (h4 y hy)
    omega
  have hx0 : ((xs.length : Nat) : Int) - stayN xs F = ((A.length + C.length : Nat) : Int) := by
    rw [e1, filt_mid hA hBF hC, List.length_append, List.length_append]
    omega
  unfold ext0 at hext
  rw [hx0] at hext
  have hsw : swG F (lo0 (brg F xs)) ((brg xs F).1 - (0 - 0)) (((xs.length : Nat) : Int) - (brg xs F).2 - (0 - 0)) ((A.length + C.length : Nat) : Int) none es = none := by
    unfold swC ext0 at h5
    rw [hx0] at h5
    have := swF_G (F := F) (dep := depL 0 es) (ext := extL F ((A.length + C.length : Nat) : Int) es) es (lo0 (brg F xs)) (brg xs F).1 (((xs.length : Nat) : Int) - (brg xs F).2) none 0 0 0 ((A.length + C.length : Nat) : Int) rfl rfl
    rw [Nat.zero_add] at this
    rw [this] at h5
    have hd0 : (depL 0 es).getD 0 0 = 0 := by cases es with | nil => rfl | cons e r => cases e <;> rfl
    rw [hd0] at h5
    exact h5
  by_cases hB : B = []
  · -- no block
    subst hB
    have hFx : ∀ x ∈ F, x ∉ xs := fun x hx => by
      rw [e2, List.append_nil] at hx
      rcases List.mem_append.mp hx with z | z
      · exact hD x z
      · exact hE x z
    have hFe : F = F.take d.length ++ [] ++ F.drop d.length := by rw [List.append_nil, List.take_append_drop]
    have hdm : (F.take d.length).map (fun c => (xs ++ arrs es).idxOf c) = d := by
      rw [List.map_take, ho, List.take_left]
    have hum : (F.drop d.length).map (fun c => (xs ++ arrs es).idxOf c) = u := by
      rw [List.map_drop, ho, List.drop_left]
    have fit : Fit F (F.take d.length) [] (F.drop d.length) (xs ++ arrs es) xs es := by
      refine ⟨hFe, hF, rfl, hn, ?_, ?_, fun y hy => ?_, fun c hc hcF => ?_⟩
      · rw [← hdm] at hd
        exact List.pairwise_map.mp hd
      · rw [← hum] at hu
        exact List.pairwise_map.mp hu
      · rw [List.take_append_drop] at hy
        exact (List.mem_append.mp (hmem y hy)).elim (fun z => absurd z (hFx y hy)) id
      · rw [List.take_append_drop]
        exact hcF
    have hlo : lo0 (brg F xs) = none := by
      rw [hb4, if_pos rfl]
      rfl
    rw [hlo] at hsw ⊢
    have hAC : A.length + C.length = xs.length := by rw [e1]; simp
    rw [hAC] at hsw hext
    exact grd_none es xs _ _ _ _ _ _ _ fit (fun y hy z => hFx y z hy) hext hsw hsz
  · have hlo : lo0 (brg F xs) = some D.length := by
      rw [hb4, if_neg hB]
      unfold lo0
      rw [if_neg (show ¬ D.length + B.length = 0 by have := List.length_pos_iff.mpr hB; omega)]
    rw [hlo] at hsw ⊢
    rw [hb2, if_neg hB] at hsw
    -- the block's cars have the small numbers
    have small : ∀ x ∈ B, (xs ++ arrs es).idxOf x < xs.length := fun x hx => by
      rw [List.idxOf_append, if_pos (hBx x hx)]
      exact List.idxOf_lt_length_of_mem (hBx x hx)
    have large : ∀ x ∈ D ++ E, xs.length ≤ (xs ++ arrs es).idxOf x := fun x hx => by
      have hx' : x ∉ xs := (List.mem_append.mp hx).elim (hD x) (hE x)
      rw [List.idxOf_append, if_neg hx']
      omega
    have hm : D.map (fun c => (xs ++ arrs es).idxOf c) ++ B.map (fun c => (xs ++ arrs es).idxOf c) ++ E.map (fun c => (xs ++ arrs es).idxOf c) = d ++ u := by
      rw [← ho, e2, List.map_append, List.map_append]
    generalize hDm : D.map (fun c => (xs ++ arrs es).idxOf c) = dm at hm
    generalize hBm : B.map (fun c => (xs ++ arrs es).idxOf c) = bm at hm
    generalize hEm : E.map (fun c => (xs ++ arrs es).idxOf c) = em at hm
    have hbm : bm ≠ [] := fun z => hB (by rw [← hBm] at z; exact List.map_eq_nil_iff.mp z)
    have sm : ∀ x ∈ bm, x < xs.length := fun x hx => by
      rw [← hBm] at hx
      obtain ⟨y, hy, rfl⟩ := List.mem_map.mp hx
      exact small y hy
    have lg1 : ∀ x ∈ dm, xs.length ≤ x := fun x hx => by
      rw [← hDm] at hx
      obtain ⟨y, hy, rfl⟩ := List.mem_map.mp hx
      exact large y (List.mem_append_left _ hy)
    have lg2 : ∀ x ∈ em, xs.length ≤ x := fun x hx => by
      rw [← hEm] at hx
      obtain ⟨y, hy, rfl⟩ := List.mem_map.mp hx
      exact large y (List.mem_append_right _ hy)
    obtain ⟨b0, br, hbr⟩ := List.exists_cons_of_ne_nil hbm
    obtain ⟨bi, bl, hbl⟩ : ∃ bi bl, bm = bi ++ [bl] := ⟨_, _, (List.dropLast_concat_getLast hbm).symm⟩
    -- D falls
    have hDd : dm.Pairwise (fun a b => b < a) := by
      rw [List.append_assoc] at hm
      rcases List.append_eq_append_iff.mp hm with ⟨t, ht1, ht2⟩ | ⟨t, ht1, ht2⟩
      · rw [ht1] at hd
        exact (List.pairwise_append.mp hd).1
      · -- dm = d ++ t, u = t ++ (bm ++ em)
        cases t with
        | nil =>
          rw [List.append_nil] at ht1
          rw [ht1]
          exact hd
        | cons y t =>
          exfalso
          rw [ht2, hbr] at hu
          have h6 := (List.pairwise_append.mp hu).2.2 y List.mem_cons_self b0 (by simp)
          have h7 := lg1 y (by rw [ht1]; simp)
          have h8 := sm b0 (by rw [hbr]; simp)
          omega
    have hEu : em.Pairwise (fun a b => a < b) := by
      rcases List.append_eq_append_iff.mp hm with ⟨t, ht1, ht2⟩ | ⟨t, ht1, ht2⟩
      · -- d = dm ++ bm ++ t, em = t ++ u
        cases t with
        | nil =>
          rw [List.nil_append] at ht2
          rw [ht2]
          exact hu
        | cons y t =>
          exfalso
          rw [ht1, hbl] at hd
          have h6 := (List.pairwise_append.mp hd).2.2 bl (by simp) y List.mem_cons_self
          have h7 := lg2 y (by rw [ht2]; simp)
          have h8 := sm bl (by rw [hbl]; simp)
          omega
      · rw [ht2] at hu
        exact (List.pairwise_append.mp hu).2.1
    have fit : Fit F D B E (xs ++ arrs es) xs es := by
      refine ⟨e2, hF, rfl, hn, ?_, ?_, fun y hy => ?_, fun c hc hcF => ?_⟩
      · rw [← hDm] at hDd
        exact List.pairwise_map.mp hDd
      · rw [← hEm] at hEu
        exact List.pairwise_map.mp hEu
      · have hyx : y ∉ xs := (List.mem_append.mp hy).elim (hD y) (hE y)
        have hyF : y ∈ F := by
          rw [e2]
          rcases List.mem_append.mp hy with z | z
          · simp [z]
          · simp [z]
        exact (List.mem_append.mp (hmem y hyF)).elim (fun z => absurd z hyx) id
      · rw [e2] at hcF
        rcases List.mem_append.mp hcF with z | z
        · rcases List.mem_append.mp z with z | z
          · exact List.mem_append_left _ z
          · exact absurd hc (hdis c (hBx c z))
        · exact List.mem_append_right _ z
    have hxe : xs = A ++ B ++ C := e1
    have hres := grd_some es A B C D E (xs ++ arrs es) xs D.length (A.length : Int) (C.length : Int) none fit hB (Nat.le_refl _) (Nat.le_add_right _ _) (fun y hy => (List.mem_append.mp hy).elim (hA y) (hC y)) hext (by
      have e3 : ((A.length : Nat) : Int) - (0 - 0) = (A.length : Int) := by omega
      have e4 : ((xs.length : Nat) : Int) - ((A.length + B.length : Nat) : Int) - (0 - 0) = (C.length : Int) := by rw [e1, List.length_append, List.length_append]; omega
      have hsw' : swG F (some D.length) (((A.length : Nat) : Int) - (0 - 0)) (((xs.length : Nat) : Int) - ((A.length + B.length : Nat) : Int) - (0 - 0)) ((A.length + C.length : Nat) : Int) none es = none := hsw
      rw [e3, e4] at hsw'
      exact hsw') (fun _ => by omega) (fun _ => by omega) (by rw [← hxe]; exact hsz)
    rw [← hxe] at hres
    exact hres
/-- [8]: a lane is a final lane of some history exactly if the conditions hold -/
theorem why_iff {xs F : List Str} {es : List Ev} (hn : (xs ++ arrs es).Nodup) (hF : F.Nodup) : why xs es F = .ok ↔ Run xs es F :=
  ⟨fun h => (poss_run h hn hF).2, fun h => why_run h hn⟩
end Ln


set_option Elab.async false
set_option linter.all false
set_option maxRecDepth 100000
set_option maxHeartbeats 4000000
namespace Ln
open PySem
/-! ### lanes by the possible numbers of leavers on the left, event by event -/
/-- the numbers behind an event, before a row without stayers is made whole -/
def dpP (F : List Str) (P : Int → Prop) (run : List Str) (total : Int) : Ev → Int → Prop
  | .out, k => (P k ∧ k ≤ total - 1) ∨ (P (k + 1) ∧ k + 1 > 0)
  | .inn c, k => if c ∈ F then
      (if run = [] then k = 0 ∨ k = total else if F.idxOf c < F.idxOf (run.headD c) then P k ∧ k = 0 else P k ∧ k = total)
    else P k ∨ P (k - 1)
def dpRun (F run : List Str) : Ev → List Str
  | .out => run
  | .inn c => if c ∈ F then (if run = [] ∨ F.idxOf c < F.idxOf (run.headD c) then c :: run else run ++ [c]) else run
def dpT (F : List Str) (total : Int) : Ev → Int
  | .out => total - 1
  | .inn c => if c ∈ F then total else total + 1
def dpN (F : List Str) (P : Int → Prop) (run : List Str) (total : Int) (e : Ev) (k : Int) : Prop :=
  if dpRun F run e = [] then 0 ≤ k ∧ k ≤ dpT F total e else dpP F P run total e k
def dpR (F : List Str) : (Int → Prop) → List Str → Int → List Ev → Prop
  | _, run, total, [] => run = F ∧ total = 0
  | P, run, total, e :: r => (∃ k, dpP F P run total e k) ∧ 0 ≤ dpT F total e ∧ dpR F (dpN F P run total e) (dpRun F run e) (dpT F total e) r
theorem dpN_ne {F : List Str} {P : Int → Prop} {run : List Str} {total : Int} {e : Ev} (h : dpRun F run e ≠ []) : dpN F P run total e = dpP F P run total e := by
  funext k
  unfold dpN
  rw [if_neg h]
theorem dpN_nil {F : List Str} {P : Int → Prop} {run : List Str} {total : Int} {e : Ev} (h : dpRun F run e = []) : dpN F P run total e = fun k => 0 ≤ k ∧ k ≤ dpT F total e := by
  funext k
  unfold dpN
  rw [if_pos h]
/-- each number is that of some history -/
theorem dp_sound {F xs : List Str} : ∀ (r : List Ev) (pre : List Ev) (P : Int → Prop) (run : List Str) (total : Int),
    (∀ k, P k → ∃ A C : List Str, (A.length : Int) = k ∧ ((A.length + C.length : Nat) : Int) = total ∧ Run xs pre (A ++ run ++ C)) → (∃ k, P k) → dpR F P run total r → Run xs (pre ++ r) F
  | [], pre, P, run, total, hP, ⟨k, hk⟩, h => by
    obtain ⟨h1, h2⟩ : run = F ∧ total = 0 := h
    obtain ⟨A, C, e1, e2, hr⟩ := hP k hk
    have hA : A = [] := List.eq_nil_of_length_eq_zero (by omega)
    have hC : C = [] := List.eq_nil_of_length_eq_zero (by omega)
    rw [hA, hC, h1] at hr
    simpa using hr
  | e :: r, pre, P, run, total, hP, hne, h => by
    obtain ⟨⟨k1, hk1⟩, ht, hd⟩ := h
    have wit : ∀ k, dpP F P run total e k → ∃ A C : List Str, (A.length : Int) = k ∧ ((A.length + C.length : Nat) : Int) = dpT F total e ∧ Run xs (pre ++ [e]) (A ++ dpRun F run e ++ C) := fun k hk => by
      cases e with
      | out =>
        rcases (show (P k ∧ k ≤ total - 1) ∨ (P (k + 1) ∧ k + 1 > 0) from hk) with ⟨h1, h2⟩ | ⟨h1, h2⟩
        · obtain ⟨A, C, e1, e2, hr⟩ := hP k h1
          obtain ⟨C', x, rfl⟩ : ∃ C' x, C = C' ++ [x] := by
            rcases List.eq_nil_or_concat C with rfl | ⟨C', x, rfl⟩
            · simp at e2
              omega
            · exact ⟨C', x, by simp⟩
          refine ⟨A, C', e1, ?_, hr.snoc ?_⟩
          · show _ = total - 1
            rw [List.length_append, List.length_singleton] at e2
            omega
          · show Mv _ .out (A ++ run ++ C')
            rw [← List.append_assoc]
            exact .outR x _
        · obtain ⟨A, C, e1, e2, hr⟩ := hP (k + 1) h1
          cases A with
          | nil => simp at e1; omega
          | cons x A =>
            rw [List.length_cons] at e1 e2
            refine ⟨A, C, by omega, ?_, hr.snoc (.outL x _)⟩
            show _ = total - 1
            omega
      | inn c =>
        by_cases hc : c ∈ F
        · have hT : dpT F total (.inn c) = total := by
            show (if c ∈ F then total else _) = _
            rw [if_pos hc]
          rw [hT]
          have hR : dpRun F run (.inn c) = if run = [] ∨ F.idxOf c < F.idxOf (run.headD c) then c :: run else run ++ [c] := by
            show (if c ∈ F then _ else _) = _
            rw [if_pos hc]
          have hkk : (if run = [] then k = 0 ∨ k = total else if F.idxOf c < F.idxOf (run.headD c) then P k ∧ k = 0 else P k ∧ k = total) := by
            have h2 : (if c ∈ F then (if run = [] then k = 0 ∨ k = total else if F.idxOf c < F.idxOf (run.headD c) then P k ∧ k = 0 else P k ∧ k = total) else P k ∨ P (k - 1)) := hk
            rw [if_pos hc] at h2
            exact h2
          rw [hR]
          by_cases hn : run = []
          · rw [if_pos hn] at hkk
            rw [if_pos (.inl hn)]
            subst hn
            obtain ⟨k0, hk0⟩ := hne
            obtain ⟨A, C, e1, e2, hr⟩ := hP k0 hk0
            have e3 : (((A ++ C).length : Nat) : Int) = total := by rw [List.length_append]; exact e2
            rw [List.append_nil] at hr
            rcases hkk with rfl | rfl
            · refine ⟨[], A ++ C, rfl, by rw [List.length_nil, Nat.zero_add]; exact e3, hr.snoc ?_⟩
              show Mv _ _ (c :: (A ++ C))
              exact .inL c _
            · refine ⟨A ++ C, [], e3, by rw [List.length_nil, Nat.add_zero]; exact e3, hr.snoc ?_⟩
              show Mv _ _ (A ++ C ++ [c] ++ [])
              rw [List.append_nil]
              exact .inR c _
          · rw [if_neg hn] at hkk
            by_cases hl : F.idxOf c < F.idxOf (run.headD c)
            · rw [if_pos hl] at hkk
              rw [if_pos (.inr hl)]
              obtain ⟨hq, rfl⟩ := hkk
              obtain ⟨A, C, e1, e2, hr⟩ := hP 0 hq
              have hA : A = [] := List.eq_nil_of_length_eq_zero (by omega)
              subst hA
              exact ⟨[], C, rfl, e2, hr.snoc (.inL c _)⟩
            · rw [if_neg hl] at hkk
              rw [if_neg (fun z => z.elim hn hl)]
              obtain ⟨hq, hkt⟩ := hkk
              obtain ⟨A, C, e1, e2, hr⟩ := hP _ hq
              have hC : C = [] := List.eq_nil_of_length_eq_zero (by omega)
              subst hC
              refine ⟨A, [], e1, e2, hr.snoc ?_⟩
              have : A ++ (run ++ [c]) ++ [] = A ++ run ++ [] ++ [c] := by simp
              rw [this]
              exact .inR c _
        · have hT : dpT F total (.inn c) = total + 1 := by
            show (if c ∈ F then total else _) = _
            rw [if_neg hc]
          have hR : dpRun F run (.inn c) = run := by
            show (if c ∈ F then _ else run) = _
            rw [if_neg hc]
          rw [hT, hR]
          have hk : P k ∨ P (k - 1) := by
            have h2 : (if c ∈ F then (if run = [] then k = 0 ∨ k = total else if F.idxOf c < F.idxOf (run.headD c) then P k ∧ k = 0 else P k ∧ k = total) else P k ∨ P (k - 1)) := hk
            rw [if_neg hc] at h2
            exact h2
          rcases hk with h1 | h1
          · obtain ⟨A, C, e1, e2, hr⟩ := hP k h1
            refine ⟨A, C ++ [c], e1, by rw [List.length_append, List.length_singleton]; omega, hr.snoc ?_⟩
            rw [← List.append_assoc]
            exact .inR c _
          · obtain ⟨A, C, e1, e2, hr⟩ := hP (k - 1) h1
            exact ⟨c :: A, C, by rw [List.length_cons]; omega, by rw [List.length_cons]; omega, hr.snoc (.inL c _)⟩
    have e1 : pre ++ e :: r = (pre ++ [e]) ++ r := by simp
    rw [e1]
    refine dp_sound r (pre ++ [e]) _ _ _ (fun k hk => ?_) ?_ hd
    · by_cases hn : dpRun F run e = []
      · rw [dpN_nil hn] at hk
        obtain ⟨A, C, _, e2, hr⟩ := wit k1 hk1
        rw [hn, List.append_nil] at hr
        have hl : (((A ++ C).length : Nat) : Int) = dpT F total e := by rw [List.length_append]; exact e2
        refine ⟨(A ++ C).take k.toNat, (A ++ C).drop k.toNat, ?_, ?_, ?_⟩
        · rw [List.length_take]
          omega
        · rw [List.length_take, List.length_drop]
          omega
        · rw [hn, List.append_nil, List.take_append_drop]
          exact hr
      · rw [dpN_ne hn] at hk
        exact wit k hk
    · by_cases hn : dpRun F run e = []
      · exact ⟨0, by rw [dpN_nil hn]; exact ⟨Int.le_refl _, ht⟩⟩
      · exact ⟨k1, by rw [dpN_ne hn]; exact hk1⟩
/-- .. and that of each history is there -/
theorem dp_full {F A B C D E : List Str} {r : List Ev} (h : Spl F A B C D E r) (hF : F.Nodup) : ∀ P : Int → Prop, (B ≠ [] → P A.length) → (B = [] → P 0) → dpR F P B ((A.length + C.length : Nat) : Int) r := by
  induction h with
  | nil => exact fun _ _ _ => ⟨rfl, rfl⟩
  | @mid A C A' C' D E r e _ ih =>
    intro P _ h0
    have : A'.length + C'.length = A.length + C.length := by rw [← List.length_append, e, List.length_append]
    rw [this]
    exact ih P (fun z => absurd rfl z) h0
  | @stL B C D E r c hS ih =>
    intro P h1 h0
    have e : F = D ++ c :: (B ++ E) := by rw [hS.eqF]; simp
    have hc : c ∈ F := by rw [e]; simp
    have hi : F.idxOf c = D.length := by
      have hn := hF
      rw [e] at hn ⊢
      exact idx_mid hn
    have hT : dpT F ((([] : List Str).length + C.length : Nat) : Int) (.inn c) = ((([] : List Str).length + C.length : Nat) : Int) := by
      show (if c ∈ F then _ else _) = _
      rw [if_pos hc]
    have hlt : B = [] ∨ F.idxOf c < F.idxOf (B.headD c) := by
      cases B with
      | nil => exact .inl rfl
      | cons b B =>
        refine .inr ?_
        have e2 : F = (D ++ [c]) ++ b :: (B ++ E) := by rw [hS.eqF]; simp
        have hb : F.idxOf b = (D ++ [c]).length := by
          have hn := hF
          rw [e2] at hn ⊢
          exact idx_mid hn
        show F.idxOf c < F.idxOf b
        rw [hi, hb, List.length_append, List.length_singleton]
        omega
    have hR : dpRun F B (.inn c) = c :: B := by
      show (if c ∈ F then _ else _) = _
      rw [if_pos hc, if_pos hlt]
    have h00 : dpP F P B ((([] : List Str).length + C.length : Nat) : Int) (.inn c) 0 := by
      show (if c ∈ F then _ else _)
      rw [if_pos hc]
      by_cases hB : B = []
      · rw [if_pos hB]
        exact .inl rfl
      · rw [if_neg hB, if_pos (hlt.resolve_left hB)]
        exact ⟨h1 hB, rfl⟩
    refine ⟨⟨0, h00⟩, by rw [hT]; omega, ?_⟩
    rw [hT, dpN_ne (by rw [hR]; exact List.cons_ne_nil _ _), hR]
    exact ih _ (fun _ => h00) (fun z => absurd z (List.cons_ne_nil _ _))
  | @stR A B D E r c hS ih =>
    intro P h1 h0
    have e : F = (D ++ B) ++ c :: E := by rw [hS.eqF]; simp
    have hc : c ∈ F := by rw [e]; simp
    have hi : F.idxOf c = D.length + B.length := by
      have hn := hF
      rw [e] at hn ⊢
      rw [idx_mid hn, List.length_append]
    have hT : dpT F ((A.length + ([] : List Str).length : Nat) : Int) (.inn c) = ((A.length + ([] : List Str).length : Nat) : Int) := by
      show (if c ∈ F then _ else _) = _
      rw [if_pos hc]
    have hge : B ≠ [] → ¬ F.idxOf c < F.idxOf (B.headD c) := fun hB => by
      obtain ⟨b, B', rfl⟩ := List.exists_cons_of_ne_nil hB
      have e2 : F = D ++ b :: (B' ++ [c] ++ E) := by rw [hS.eqF]; simp
      have hb : F.idxOf b = D.length := by
        have hn := hF
        rw [e2] at hn ⊢
        exact idx_mid hn
      show ¬ F.idxOf c < F.idxOf b
      rw [hi, hb]
      omega
    have hR : dpRun F B (.inn c) = B ++ [c] := by
      show (if c ∈ F then _ else _) = _
      rw [if_pos hc]
      by_cases hB : B = []
      · rw [if_pos (.inl hB), hB]
        rfl
      · rw [if_neg (fun z => z.elim hB (hge hB))]
    have h00 : dpP F P B ((A.length + ([] : List Str).length : Nat) : Int) (.inn c) A.length := by
      show (if c ∈ F then _ else _)
      rw [if_pos hc]
      by_cases hB : B = []
      · rw [if_pos hB]
        exact .inr (by rw [List.length_nil, Nat.add_zero])
      · rw [if_neg hB, if_neg (hge hB)]
        exact ⟨h1 hB, by rw [List.length_nil, Nat.add_zero]⟩
    refine ⟨⟨_, h00⟩, by rw [hT]; omega, ?_⟩
    rw [hT, dpN_ne (by rw [hR]; simp), hR]
    exact ih _ (fun _ => h00) (fun z => by simp at z)
  | @lvL A B C D E r c hc _ ih =>
    intro P h1 h0
    have hT : dpT F ((A.length + C.length : Nat) : Int) (.inn c) = (((c :: A).length + C.length : Nat) : Int) := by
      show (if c ∈ F then _ else _) = _
      rw [if_neg hc, List.length_cons]
      omega
    have hR : dpRun F B (.inn c) = B := by
      show (if c ∈ F then _ else B) = _
      rw [if_neg hc]
    have hp : ∀ k, P k → dpP F P B ((A.length + C.length : Nat) : Int) (.inn c) (k + 1) := fun k hk => by
      show (if c ∈ F then _ else _)
      rw [if_neg hc]
      exact .inr (by rw [show k + 1 - 1 = k by omega]; exact hk)
    have hex : ∃ k, dpP F P B ((A.length + C.length : Nat) : Int) (.inn c) k := by
      by_cases hB : B = []
      · exact ⟨_, hp 0 (h0 hB)⟩
      · exact ⟨_, hp _ (h1 hB)⟩
    refine ⟨hex, by rw [hT]; omega, ?_⟩
    rw [hR, hT]
    refine ih _ (fun hB => ?_) (fun hB => ?_)
    · rw [dpN_ne (by rw [hR]; exact hB)]
      have := hp _ (h1 hB)
      rw [List.length_cons]
      exact this
    · rw [dpN_nil (by rw [hR]; exact hB), hT]
      exact ⟨Int.le_refl _, by omega⟩
  | @lvR A B C D E r c hc _ ih =>
    intro P h1 h0
    have hT : dpT F ((A.length + C.length : Nat) : Int) (.inn c) = ((A.length + (C ++ [c]).length : Nat) : Int) := by
      show (if c ∈ F then _ else _) = _
      rw [if_neg hc, List.length_append, List.length_singleton]
      omega
    have hR : dpRun F B (.inn c) = B := by
      show (if c ∈ F then _ else B) = _
      rw [if_neg hc]
    have hp : ∀ k, P k → dpP F P B ((A.length + C.length : Nat) : Int) (.inn c) k := fun k hk => by
      show (if c ∈ F then _ else _)
      rw [if_neg hc]
      exact .inl hk
    have hex : ∃ k, dpP F P B ((A.length + C.length : Nat) : Int) (.inn c) k := by
      by_cases hB : B = []
      · exact ⟨_, hp 0 (h0 hB)⟩
      · exact ⟨_, hp _ (h1 hB)⟩
    refine ⟨hex, by rw [hT]; omega, ?_⟩
    rw [hR, hT]
    refine ih _ (fun hB => ?_) (fun hB => ?_)
    · rw [dpN_ne (by rw [hR]; exact hB)]
      exact hp _ (h1 hB)
    · rw [dpN_nil (by rw [hR]; exact hB), hT]
      exact ⟨Int.le_refl _, by omega⟩
  | @outL A B C D E r x _ ih =>
    intro P h1 h0
    have hT : dpT F (((x :: A).length + C.length : Nat) : Int) .out = ((A.length + C.length : Nat) : Int) := by
      show (((x :: A).length + C.length : Nat) : Int) - 1 = _
      rw [List.length_cons]
      omega
    have hp : B ≠ [] → dpP F P B (((x :: A).length + C.length : Nat) : Int) .out A.length := fun hB => .inr ⟨by have := h1 hB; rw [List.length_cons] at this; exact this, by omega⟩
    have h00 : B = [] → dpP F P B (((x :: A).length + C.length : Nat) : Int) .out 0 := fun hB => .inl ⟨h0 hB, by rw [List.length_cons]; omega⟩
    have hex : ∃ k, dpP F P B (((x :: A).length + C.length : Nat) : Int) .out k := by
      by_cases hB : B = []
      · exact ⟨_, h00 hB⟩
      · exact ⟨_, hp hB⟩
    refine ⟨hex, by rw [hT]; omega, ?_⟩
    rw [hT]
    refine ih _ (fun hB => ?_) (fun hB => ?_)
    · rw [dpN_ne (show dpRun F B .out ≠ [] from hB)]
      exact hp hB
    · rw [dpN_nil (show dpRun F B .out = [] from hB), hT]
      exact ⟨Int.le_refl _, by omega⟩
  | @outR A B C D E r x _ ih =>
    intro P h1 h0
    have hT : dpT F ((A.length + (C ++ [x]).length : Nat) : Int) .out = ((A.length + C.length : Nat) : Int) := by
      show ((A.length + (C ++ [x]).length : Nat) : Int) - 1 = _
      rw [List.length_append, List.length_singleton]
      omega
    have hp : B ≠ [] → dpP F P B ((A.length + (C ++ [x]).length : Nat) : Int) .out A.length := fun hB => .inl ⟨h1 hB, by rw [List.length_append, List.length_singleton]; omega⟩
    have h00 : B = [] → dpP F P B ((A.length + (C ++ [x]).length : Nat) : Int) .out 0 := fun hB => .inl ⟨h0 hB, by rw [List.length_append, List.length_singleton]; omega⟩
    have hex : ∃ k, dpP F P B ((A.length + (C ++ [x]).length : Nat) : Int) .out k := by
      by_cases hB : B = []
      · exact ⟨_, h00 hB⟩
      · exact ⟨_, hp hB⟩
    refine ⟨hex, by rw [hT]; omega, ?_⟩
    rw [hT]
    refine ih _ (fun hB => ?_) (fun hB => ?_)
    · rw [dpN_ne (show dpRun F B .out ≠ [] from hB)]
      exact hp hB
    · rw [dpN_nil (show dpRun F B .out = [] from hB), hT]
      exact ⟨Int.le_refl _, by omega⟩
/-- what the law decides -/
def canAr (xs : List Str) (es : List Ev) (F : List Str) : Prop :=
  (∀ c ∈ F, c ∈ xs ++ arrs es) ∧ cutN xs (brg xs F) = F.filter (fun c => decide (c ∈ xs)) ∧
    dpR F (fun k => k = (brg xs F).1) (F.filter fun c => decide (c ∈ xs)) ((xs.length : Int) - ((F.filter fun c => decide (c ∈ xs)).length : Nat)) es
theorem canAr_iff {xs F : List Str} {es : List Ev} (hn : (xs ++ arrs es).Nodup) : canAr xs es F ↔ Run xs es F := by
  constructor
  · rintro ⟨_, h2, h3⟩
    obtain ⟨A, M, C, e, hA, hC, hb1, hb2⟩ := brg_cut xs F
    rw [hb1] at h2
    rw [← h2] at h3
    have := dp_sound (xs := xs) es [] (fun k => k = ((brg xs F).1 : Int)) _ _ (fun k hk => ?_) ⟨_, rfl⟩ h3
    · exact this
    · by_cases hM : M = []
      · have hk : k = ((brg xs F).1 : Int) := hk
        rw [hb2, if_pos hM] at hk
        refine ⟨[], xs, by rw [hk]; rfl, ?_, ?_⟩
        · rw [hM]
          show ((0 + xs.length : Nat) : Int) = (xs.length : Int) - ((0 : Nat) : Int)
          omega
        · rw [hM]
          exact .nil _
      · have hk : k = ((brg xs F).1 : Int) := hk
        rw [hb2, if_neg hM] at hk
        refine ⟨A, C, hk.symm, ?_, ?_⟩
        · rw [e, List.length_append, List.length_append]
          omega
        · rw [← e]
          exact .nil _
  · intro h
    have hF := h.nodup hn
    refine ⟨h.mem, ?_⟩
    obtain ⟨A, B, C, D, E, rfl, hS, hA⟩ := split h hn
    obtain ⟨b1, b2⟩ := hS.blk hn hA
    have hl : ∀ x ∈ D ++ E, x ∉ A ++ B ++ C := fun x hx z => (List.nodup_append.mp hn).2.2 x z x (hS.late x hx) rfl
    have hfil : F.filter (fun c => decide (c ∈ A ++ B ++ C)) = B := by
      have e1 : D.filter (fun c => decide (c ∈ A ++ B ++ C)) = [] := List.filter_eq_nil_iff.mpr fun x hx => by simpa using hl x (List.mem_append_left _ hx)
      have e2 : E.filter (fun c => decide (c ∈ A ++ B ++ C)) = [] := List.filter_eq_nil_iff.mpr fun x hx => by simpa using hl x (List.mem_append_right _ hx)
      have e3 : B.filter (fun c => decide (c ∈ A ++ B ++ C)) = B := List.filter_eq_self.mpr fun x hx => decide_eq_true (by simp [hx])
      have : (D ++ B ++ E).filter (fun c => decide (c ∈ A ++ B ++ C)) = B := by rw [List.filter_append, List.filter_append, e1, e2, e3]; simp
      rw [← hS.eqF] at this
      exact this
    rw [hfil]
    have ht : (((A ++ B ++ C).length : Nat) : Int) - (B.length : Nat) = ((A.length + C.length : Nat) : Int) := by
      rw [List.length_append, List.length_append]
      omega
    rw [ht]
    refine ⟨?_, dp_full hS hF _ (fun hB => ?_) (fun hB => ?_)⟩
    · rw [b1]
      by_cases q : B = []
      · rw [if_pos q, q]
        rfl
      · rw [if_neg q, cut_mid]
    · show ((A.length : Nat) : Int) = ((brg (A ++ B ++ C) F).1 : Int)
      rw [b1, if_neg hB]
    · show (0 : Int) = ((brg (A ++ B ++ C) F).1 : Int)
      rw [b1, if_pos hB]
      rfl
end Ln


set_option Elab.async false
set_option linter.all false
set_option maxRecDepth 100000
set_option maxHeartbeats 4000000
namespace Ln
open PySem PySem.Spec PyProof.Rows L2 GxR
structure Bs (mg : Str → Option Value) : Prop where
  srt : mg "sorted" = none
theorem filt_takeI (xs : List Int) (p : Int → Bool) (i : Nat) (c : Int) (h : xs[i]? = some c) : (xs.take (i + 1)).filter p = (xs.take i).filter p ++ if p c = true then [c] else [] := by
  rw [List.take_add_one, h, List.filter_append]
  congr 1
  show List.filter p [c] = _
  by_cases q : p c = true
  · rw [if_pos q, List.filter_cons_of_pos q]
    rfl
  · rw [if_neg q, List.filter_cons_of_neg q]
    rfl
theorem nd_len : ∀ {L M : List Int}, L.Nodup → (∀ x ∈ L, x ∈ M) → L.length ≤ M.length
  | [], M, _, _ => Nat.zero_le _
  | x :: r, M, h, hs => by
    obtain ⟨h1, h2⟩ := List.nodup_cons.mp h
    have hx := hs x List.mem_cons_self
    have ih := nd_len (L := r) (M := M.erase x) h2 fun y hy => (List.mem_erase_of_ne fun e => h1 (by rw [← e]; exact hy)).mpr (hs y (List.mem_cons_of_mem _ hy))
    rw [List.length_erase_of_mem hx] at ih
    have : 0 < M.length := List.length_pos_of_mem hx
    rw [List.length_cons]
    omega
theorem sm_refl {H : Hp} : L2.Same H H := fun _ _ e => e
theorem sm_trans {H H1 H2 : Hp} (a : L2.Same H H1) (b : L2.Same H1 H2) : L2.Same H H2 := fun c u e => b c u (a c u e)
theorem sm_none {H H1 : Hp} {a : Addr} (k : L2.Same H H1) (h : H1 a = none) : H a = none := by
  cases e : H a with
  | none => rfl
  | some u =>
    rw [k _ _ e] at h
    cases h
/-- a list that is new: writing to it leaves the old as it is -/
theorem sm_upd {H H1 : Hp} {a : Addr} {o : HO} (k : L2.Same H H1) (h : H a = none) : L2.Same H (L2.upd H1 a o) := fun b u e => by
  rw [upd_ne (fun z => by rw [z, h] at e; cases e)]
  exact k b u e
theorem sm_new {H H1 : Hp} {p : Addr} {o : HO} (k : L2.Same H H1) (hp : H1 p = none) : L2.Same H (L2.upd H1 p o) := sm_upd k (sm_none k hp)
theorem sq_sm {K : PySem.W.Frag} {H H1 : Hp} {a : Addr} {xs : List V} (h : SqL K H a xs) (k : L2.Same H H1) : SqL K H1 a xs := by
  rcases h with (e | ⟨ob, e⟩) | e
  · exact .inl (.inl (k _ _ e))
  · exact .inl (.inr ⟨ob, k _ _ e⟩)
  · exact .inr e
theorem shaped_ints' (ns : List Int) : SeqAt.shaped (.list (ns.map PyData.int)) = true := by
  have lay : ∀ ns : List Int, PyData.canLayAll0 (ns.map PyData.int) = true := fun ns => by
    induction ns with
    | nil => rfl
    | cons n r ih =>
      rw [List.map_cons, PyData.canLayAll0, ih]
      rfl
  have dep : ∀ ns : List Int, PyData.depthAll (ns.map PyData.int) ≤ 1 := fun ns => by
    induction ns with
    | nil => rw [List.map_nil, PyData.depthAll]; omega
    | cons n r ih =>
      rw [List.map_cons, PyData.depthAll, PyData.depth]
      omega
  unfold SeqAt.shaped
  rw [Bool.and_eq_true]
  refine ⟨by rw [PyData.canLay0]; exact lay ns, decide_eq_true ?_⟩
  have := dep ns
  rw [PyData.depth]
  omega
theorem eqv_nilT (xs : List Str) : PyData.eqv (.tuple (xs.map PyData.str)) (.tuple []) = decide (xs = []) := by
  have := eqv_strs xs []
  exact this
theorem sortset {K : PySem.W.Frag} {w : World} {H : Hp} {D : Addr} {ns : List Int} {Q : VK} (hD : SqL K H D (ns.map V.int)) (few : ns.length < 64)
    (h : ∀ (H' : Hp) (p : Addr) (ms : List Int), L2.Same H H' → H' p = some (.lst (ms.map V.int)) → ms.Nodup → (∀ k, k ∈ ms ↔ k ∈ ns) → Q (.ref p) H') : rSetI K w [.ref D] H fun x H1 => rSortedSet w [x] H1 Q :=
  ⟨D, ns, rfl, hD, by omega, fun a L ha nd hm => ⟨a, _, _, rfl, upd_same, Nat.lt_of_le_of_lt (nd_len nd fun k hk => (hm k).mp hk) few, fun ms p pw hm2 _ hp =>
    h _ p ms (sm_new (sm_new sm_refl ha) hp) upd_same (pw.imp fun {a b} q e => by omega) fun k => (hm2 k).trans decide_eq_true_iff⟩⟩
theorem cat_l {K : PySem.W.Frag} {H : Hp} {p r : Addr} {c : Str} {run : List Str} {Q : VK} (hp : TupD H p [.str c]) (hR : TupD H r (run.map V.str)) (few : run.length ≤ 300)
    (h : ∀ (H' : Hp) (b : Addr), L2.Same H H' → TupD H' b ((c :: run).map V.str) → Q (.ref b) H') : rCatD K (.ref p) (.ref r) H Q := by
  refine ⟨p, r, _, _, rfl, rfl, hp.sq, hR.sq, ?_, (fun z => absurd z (List.cons_ne_nil _ _)), fun _ h0 => ?_, fun _ h0 p2 ob2 hob2 hp2 => ?_⟩
  · rw [List.length_map]
    have : 1 + run.length < sizeLine := small1000 (by omega)
    exact Nat.le_of_lt this
  · have : run = [] := List.map_eq_nil_iff.mp h0
    subst this
    exact h _ p sm_refl hp
  · exact h _ p2 (sm_new sm_refl hp2) (TupD.of hob2)
theorem cat_r {K : PySem.W.Frag} {H : Hp} {p r : Addr} {c : Str} {run : List Str} {Q : VK} (hp : TupD H p [.str c]) (hR : TupD H r (run.map V.str)) (few : run.length ≤ 300)
    (h : ∀ (H' : Hp) (b : Addr), L2.Same H H' → TupD H' b ((run ++ [c]).map V.str) → Q (.ref b) H') : rCatD K (.ref r) (.ref p) H Q := by
  refine ⟨r, p, _, _, rfl, rfl, hR.sq, hp.sq, ?_, fun h0 => ?_, (fun _ z => absurd z (List.cons_ne_nil _ _)), fun h0 _ p2 ob2 hob2 hp2 => ?_⟩
  · rw [List.length_map]
    have : run.length + 1 < sizeLine := small1000 (by omega)
    exact Nat.le_of_lt this
  · have : run = [] := List.map_eq_nil_iff.mp h0
    subst this
    exact h _ p sm_refl hp
  · refine h _ p2 (sm_new sm_refl hp2) ?_
    rw [List.map_append]
    exact TupD.of hob2
section
variable {P : Program} {w : World} {K : PySem.W.Frag} {mg : Str → Option Value} {base : Heap} {Ps : List Addr}
def spJoined (K : PySem.W.Frag) : Sp := fun vs H Q _ => ∃ (l r f : Addr) (c : Str) (total : Int) (ns : List Int) (run F : List Str), vs = [.ref l, .ref r, .str c, .ref f, .int total] ∧ SqL K H l (ns.map V.int) ∧ ns.length < 64 ∧ TupD H r (run.map V.str) ∧ run.length ≤ 300 ∧ (∀ x ∈ run, carB x = true) ∧ (∀ x ∈ run, x ∈ F) ∧ TupD H f (F.map V.str) ∧ c ∈ F ∧
  ∀ (H' : Hp) (p a b : Addr) (ms : List Int), L2.Same H H' → H' p = some (.tup [.ref a, .ref b]) → H' a = some (.lst (ms.map V.int)) → TupD H' b ((dpRun F run (.inn c)).map V.str) → ms.Nodup → (∀ k, k ∈ ms ↔ dpP F (fun k => k ∈ ns) run total (.inn c) k) → Q (.ref p) H'
end
end Ln


set_option Elab.async false
set_option linter.all false
set_option maxRecDepth 100000
set_option maxHeartbeats 4000000
namespace Ln
open PySem PySem.Spec PyProof.Rows L2 GxR
/-! ### values of any plain kind, read off one object -/
theorem catV {K : PySem.W.Frag} {H : Hp} {x y : Addr} {A B : List V} {Q : VK} (hx : SqT K H x A) (hy : SqT K H y B) (few : A.length + B.length ≤ 900) (h : ∀ H' p, L2.Same H H' → SqT K H' p (A ++ B) → Q (.ref p) H') : rCatA K (.ref x) (.ref y) H Q := by
  refine ⟨x, y, A, B, rfl, rfl, hx, hy, by rw [sizeLine_eq]; omega, fun e => ?_, fun _ e => ?_, fun _ _ p hp => ?_⟩
  · subst e
    exact h H y sm_refl hy
  · subst e
    exact h H x sm_refl (by rw [List.append_nil]; exact hx)
  · exact h _ p (sm_new sm_refl hp) (SqT.of upd_same)
theorem DvAll.app {K : PySem.W.Frag} {H : Hp} : ∀ {as bs : List V} {ds es : List PyData}, DvAll K H as ds → DvAll K H bs es → DvAll K H (as ++ bs) (ds ++ es)
  | _, _, _, _, .nil, k => k
  | _, _, _, _, .cons a b, k => .cons a (DvAll.app b k)
theorem dv_strs {K : PySem.W.Frag} {H : Hp} : ∀ (xs : List Str), (∀ x ∈ xs, x.length ≤ sizeLine) → DvAll K H (xs.map V.str) (xs.map PyData.str)
  | [], _ => .nil
  | x :: r, h => .cons (.str x (h x List.mem_cons_self)) (dv_strs r fun y hy => h y (List.mem_cons_of_mem _ hy))
/-- the heap without one object -/
def offH (H : Hp) (s : Addr) : Hp := fun b => if b = s then none else H b
theorem off_sub {H : Hp} {s : Addr} : L2.Same (offH H s) H := fun b o e => by
  unfold offH at e
  split at e
  · cases e
  · exact e
theorem off_at {H : Hp} {s b : Addr} (n : b ≠ s) : offH H s b = H b := if_neg n
theorem off_sm {H H' : Hp} {s : Addr} (k : L2.Same H H') : L2.Same (offH H s) (offH H' s) := fun b o e => by
  by_cases z : b = s
  · unfold offH at e
    rw [if_pos z] at e
    cases e
  · rw [off_at z] at e ⊢
    exact k b o e
theorem off_ch {H H' : Hp} {s : Addr} (k : Ch s H H') : L2.Same (offH H s) (offH H' s) := fun b o e => by
  by_cases z : b = s
  · unfold offH at e
    rw [if_pos z] at e
    cases e
  · rw [off_at z] at e ⊢
    exact k b o e z
theorem off_seqT {K : PySem.W.Frag} {H : Hp} {s a : Addr} {xs l : List V} (h : SqT K H a xs) (hs : H s = some (.lst l)) : SqT K (offH H s) a xs := by
  rcases h with (e | ⟨ob, e⟩) | e
  · exact .inl (.inl (by rw [off_at fun z => by rw [z, hs] at e; cases e]; exact e))
  · exact .inl (.inr ⟨ob, by rw [off_at fun z => by rw [z, hs] at e; cases e]; exact e⟩)
  · exact .inr e
theorem strsD_app {ds : List PyData} : ∀ xs : List Str, strsD (xs.map PyData.str ++ ds) = (strsD ds).map (xs ++ ·)
  | [] => by
    show strsD ds = (strsD ds).map fun y => y
    cases strsD ds <;> rfl
  | x :: r => by
    show (strsD (r.map PyData.str ++ ds)).map (x :: ·) = _
    rw [strsD_app r]
    cases strsD ds <;> rfl
theorem laneB_app {xs ys : List Str} (h : laneB ys = false) : laneB (xs ++ ys) = false := by
  cases q : laneB (xs ++ ys) with
  | false => rfl
  | true =>
    unfold laneB at q h
    rw [Bool.and_eq_true] at q
    have h1 : ys.all carB = true := List.all_eq_true.mpr fun y hy => List.all_eq_true.mp q.1 y (List.mem_append_right _ hy)
    have h2 : ys.Nodup := (List.nodup_append.mp (of_decide_eq_true q.2)).2.1
    rw [h1, decide_eq_true h2] at h
    cases h
theorem lane_bad {xs : List Str} {ds : List PyData} (h : strsD ds = none ∨ ∃ ys, strsD ds = some ys ∧ laneB ys = false) : laneD (.tuple (xs.map PyData.str ++ ds)) = false := by
  show (match strsD (xs.map PyData.str ++ ds) with | some xs => laneB xs | none => false) = false
  rw [strsD_app]
  rcases h with h | ⟨ys, h, h2⟩
  · rw [h]
    rfl
  · rw [h]
    exact laneB_app h2
theorem sz_tup {xs : List Str} {ds : List PyData} (h : xs.length + ds.length ≤ 400) : SzA (.tuple (xs.map PyData.str ++ ds)) := ⟨fun es e => by
  cases e
  rw [List.length_append, List.length_map]
  exact h, fun _ e => nomatch e⟩
theorem flat_one {α : Type} (x : α) : ∀ n : Nat, (List.replicate n [x]).flatten = List.replicate n x
  | 0 => rfl
  | n + 1 => by
    rw [List.replicate_succ, List.flatten_cons, flat_one x n]
    rfl
theorem dv_rep {K : PySem.W.Frag} {H : Hp} {v : V} {d : PyData} (h : Dv K H v d) : ∀ n : Nat, DvAll K H (List.replicate n v) (List.replicate n d)
  | 0 => .nil
  | n + 1 => .cons h (dv_rep h n)
theorem DvAll.take {K : PySem.W.Frag} {H : Hp} : ∀ (n : Nat) {vs : List V} {ds : List PyData}, DvAll K H vs ds → DvAll K H (vs.take n) (ds.take n)
  | 0, _, _, _ => by
    rw [List.take_zero, List.take_zero]
    exact .nil
  | n + 1, _, _, .nil => .nil
  | n + 1, _, _, .cons a b => .cons a (DvAll.take n b)
theorem DvAll.rev {K : PySem.W.Frag} {H : Hp} : ∀ {vs : List V} {ds : List PyData}, DvAll K H vs ds → DvAll K H vs.reverse ds.reverse
  | _, _, .nil => .nil
  | _, _, .cons a b => by
    rw [List.reverse_cons, List.reverse_cons]
    exact DvAll.app (DvAll.rev b) (.cons a .nil)
end Ln


set_option Elab.async false
set_option linter.all false
set_option maxRecDepth 100000
set_option maxHeartbeats 4000000
namespace Ln
open PySem PySem.Spec PyProof.Rows L2 GxR
/-- the cars of a lane that stand in another -/
def keepL (F xs : List Str) : List Str := F.filter fun c => decide (c ∈ xs)
/-- how many cars of the initial lane leave on the left and on the right -/
def lfV (H : Hp) (v : V) (xs F : List Str) : Prop :=
  if plcs F 0 xs = [] then v = .non else ∃ p, v = .ref p ∧ H p = some (.tup (if cutN xs (brg xs F) = keepL F xs then [.int (brg xs F).1, .int ((xs.length : Int) - (brg xs F).2)] else [.int (-1), .int (-1)]))
theorem eqv_nilI (ns : List Int) : PyData.eqv (.list (ns.map PyData.int)) (.list []) = decide (ns = []) := by
  cases ns with
  | nil => rfl
  | cons n r => rfl
theorem dp_ints' {K : PySem.W.Frag} {H : Hp} : ∀ ns : List Int, DpAll K H (ns.map V.int) (ns.map PyData.int)
  | [] => .nil
  | n :: r => .cons (.int n) (dp_ints' r)
theorem cut_sl {K : PySem.W.Frag} {H : Hp} {a : Addr} {xs : List Str} {p : Nat × Nat} {Q : VK} (hA : SqT K H a (xs.map V.str)) (h1 : p.1 ≤ xs.length) (h2 : p.2 ≤ xs.length)
    (q : ∀ H' z, L2.Same H H' → SqT K H' z ((cutN xs p).map V.str) → Q (.ref z) H') : rSlA K (.ref a) (some ((p.1 : Nat) : Int)) (some ((p.2 : Nat) : Int)) H Q := by
  have hcut : cutV (xs.map V.str) (some ((p.1 : Nat) : Int)) (some ((p.2 : Nat) : Int)) = (cutN xs p).map V.str := by
    rw [cutV_nat (by rw [List.length_map]; exact h1) (by rw [List.length_map]; exact h2)]
    unfold cutN
    rw [← List.map_take, ← List.map_drop]
  refine ⟨a, _, rfl, hA, fun hw => ?_, fun _ z hz => ?_⟩
  · refine q H a sm_refl ?_
    rw [HT.sIx_nat, HT.sIx_nat, List.length_map, Nat.min_eq_left h1, Nat.min_eq_left h2] at hw
    have e : cutN xs p = xs := by
      unfold cutN
      rw [hw.1, hw.2, List.take_length]
      rfl
    rw [e]
    exact hA
  · rw [hcut]
    exact q _ z (sm_new sm_refl hz) (SqT.of upd_same)
section
variable {P : Program} {w : World} {K : PySem.W.Frag} {mg : Str → Option Value} {base : Heap} {Ps : List Addr}
def spLeftF (K : PySem.W.Frag) : Sp := fun vs H Q _ => ∃ (a f : Addr) (xs F : List Str), vs = [.ref a, .ref f] ∧ TupD H a (xs.map V.str) ∧ TupD H f (F.map V.str) ∧ xs.length ≤ 300 ∧ F.length ≤ 300 ∧ (∀ x ∈ xs, carB x = true) ∧ (∀ x ∈ F, carB x = true) ∧
  ∀ (H' : Hp) (v : V), L2.Same H H' → lfV H' v xs F → Q v H'
end
end Ln


set_option Elab.async false
set_option linter.all false
set_option maxRecDepth 100000
set_option maxHeartbeats 8000000
namespace Ln
open PySem PySem.Spec PyProof.Rows L2 GxR
theorem sortsetB {K : PySem.W.Frag} {w : World} {H : Hp} {D : Addr} {ns : List Int} {Q : VK} (hD : SqL K H D (ns.map V.int)) (few : ns.length ≤ 1000) (rg : ∀ k ∈ ns, 0 ≤ k ∧ k < 60)
    (h : ∀ (H' : Hp) (p : Addr) (ms : List Int), L2.Same H H' → H' p = some (.lst (ms.map V.int)) → ms.Nodup → (∀ k, k ∈ ms ↔ k ∈ ns) → Q (.ref p) H') : rSetI K w [.ref D] H fun x H1 => rSortedSet w [x] H1 Q :=
  ⟨D, ns, rfl, hD, few, fun a L ha nd hm => ⟨a, _, _, rfl, upd_same, Nat.lt_of_le_of_lt (nd_len (M := (List.range 60).map fun n : Nat => (n : Int)) nd fun k hk => by
      obtain ⟨h1, h2⟩ := rg k ((hm k).mp hk)
      exact List.mem_map.mpr ⟨k.toNat, List.mem_range.mpr (by omega), by omega⟩) (by rw [List.length_map, List.length_range]; decide), fun ms p pw hm2 _ hp =>
    h _ p ms (sm_new (sm_new sm_refl ha) hp) upd_same (pw.imp fun {a b} q e => by omega) fun k => (hm2 k).trans decide_eq_true_iff⟩⟩
theorem cnt_take' : ∀ (es : List Ev) (n m j : Nat), cnt n es = some m → j ≤ es.length → ∃ k, cnt n (es.take j) = some k ∧ (k : Int) = endI n (es.take j)
  | [], n, m, j, _, hj => by
    have : j = 0 := by simpa using hj
    subst this
    exact ⟨n, rfl, rfl⟩
  | .inn c :: r, n, m, 0, _, _ => ⟨n, rfl, rfl⟩
  | .out :: r, n, m, 0, h, _ => ⟨n, rfl, rfl⟩
  | .inn c :: r, n, m, j + 1, h, hj => by
    obtain ⟨k, h1, h2⟩ := cnt_take' r (n + 1) m j h (by simpa using hj)
    exact ⟨k, h1, by rw [h2]; rfl⟩
  | .out :: r, n, m, j + 1, h, hj => by
    have h : (if 0 < n then cnt (n - 1) r else none) = some m := h
    by_cases q : 0 < n
    · rw [if_pos q] at h
      obtain ⟨k, h1, h2⟩ := cnt_take' r (n - 1) m j h (by simpa using hj)
      refine ⟨k, ?_, ?_⟩
      · show (if 0 < n then cnt (n - 1) (r.take j) else none) = some k
        rw [if_pos q, h1]
      · rw [h2]
        show endI ((n - 1 : Nat) : Int) (r.take j) = endI ((n : Int) - 1) (r.take j)
        rw [show ((n - 1 : Nat) : Int) = (n : Int) - 1 by omega]
    · rw [if_neg q] at h
      cases h
/-- the state behind i events -/
structure DS (xs F : List Str) (es : List Ev) (i : Nat) (ns : List Int) (run : List Str) (total : Int) (G : Prop) : Prop where
  eq : G ↔ dpR F (fun k => k ∈ ns) run total (es.drop i)
  nd : ns.Nodup
  rg : ∀ k ∈ ns, 0 ≤ k ∧ k ≤ total
  sz : (run.length : Int) + total = endI xs.length (es.take i)
  sub : ∀ x ∈ run, x ∈ F
  t0 : 0 ≤ total
theorem dpP_rg {F run : List Str} {ns : List Int} {total : Int} {e : Ev} (h : ∀ k ∈ ns, 0 ≤ k ∧ k ≤ total) (t0 : 0 ≤ total) {k : Int} (hk : dpP F (fun k => k ∈ ns) run total e k) : 0 ≤ k ∧ k ≤ dpT F total e := by
  cases e with
  | out =>
    have hk : (k ∈ ns ∧ k ≤ total - 1) ∨ (k + 1 ∈ ns ∧ k + 1 > 0) := hk
    show 0 ≤ k ∧ k ≤ total - 1
    rcases hk with ⟨h1, h2⟩ | ⟨h1, h2⟩
    · exact ⟨(h k h1).1, h2⟩
    · have := (h _ h1).2
      omega
  | inn c =>
    have hk : (if c ∈ F then (if run = [] then k = 0 ∨ k = total else if F.idxOf c < F.idxOf (run.headD c) then k ∈ ns ∧ k = 0 else k ∈ ns ∧ k = total) else k ∈ ns ∨ k - 1 ∈ ns) := hk
    show 0 ≤ k ∧ k ≤ (if c ∈ F then total else total + 1)
    by_cases hc : c ∈ F
    · rw [if_pos hc] at hk ⊢
      split at hk
      · rcases hk with z | z <;> omega
      · split at hk <;> exact h k hk.1
    · rw [if_neg hc] at hk ⊢
      rcases hk with z | z
      · have := h _ z
        omega
      · have := h _ z
        omega
theorem dpRun_sz {F run : List Str} {e : Ev} {total : Int} : ((dpRun F run e).length : Int) + dpT F total e = endI ((run.length : Int) + total) [e] := by
  cases e with
  | out =>
    show (run.length : Int) + (total - 1) = (run.length : Int) + total - 1
    omega
  | inn c =>
    show (((if c ∈ F then (if run = [] ∨ F.idxOf c < F.idxOf (run.headD c) then c :: run else run ++ [c]) else run) : List Str).length : Int) + (if c ∈ F then total else total + 1) = (run.length : Int) + total + 1
    by_cases hc : c ∈ F
    · rw [if_pos hc, if_pos hc]
      split
      · rw [List.length_cons]; omega
      · rw [List.length_append, List.length_singleton]; omega
    · rw [if_neg hc, if_neg hc]
      omega
theorem dpRun_sub {F run : List Str} {e : Ev} (h : ∀ x ∈ run, x ∈ F) : ∀ x ∈ dpRun F run e, x ∈ F := by
  cases e with
  | out => exact h
  | inn c =>
    intro x hx
    have hx : x ∈ (if c ∈ F then (if run = [] ∨ F.idxOf c < F.idxOf (run.headD c) then c :: run else run ++ [c]) else run) := hx
    by_cases hc : c ∈ F
    · rw [if_pos hc] at hx
      split at hx
      · rcases List.mem_cons.mp hx with z | z
        · rw [z]; exact hc
        · exact h x z
      · rcases List.mem_append.mp hx with z | z
        · exact h x z
        · rw [List.mem_singleton.mp z]; exact hc
    · rw [if_neg hc] at hx
      exact h x hx
section
variable {xs F run : List Str} {es : List Ev} {i : Nat} {ns ms : List Int} {total : Int} {G : Prop} {e : Ev}
theorem DS.no (S : DS xs F es i ns run total G) (he : es[i]? = some e) (hm : ∀ k, k ∈ ms ↔ dpP F (fun k => k ∈ ns) run total e k) (h : ms = [] ∨ dpT F total e < 0) : ¬ G := fun g => by
  have h2 := S.eq.mp g
  have hd : es.drop i = e :: es.drop (i + 1) := by
    obtain ⟨hi, h3⟩ := List.getElem?_eq_some_iff.mp he
    rw [List.drop_eq_getElem_cons hi, h3]
  rw [hd] at h2
  obtain ⟨⟨k, hk⟩, ht, _⟩ := h2
  rcases h with z | z
  · have := (hm k).mpr hk
    rw [z] at this
    cases this
  · omega
theorem DS.step {ns' : List Int} (S : DS xs F es i ns run total G) (he : es[i]? = some e) (hm : ∀ k, k ∈ ms ↔ dpP F (fun k => k ∈ ns) run total e k) (h1 : ms ≠ []) (h2 : 0 ≤ dpT F total e) (nd : ns'.Nodup)
    (hn : ∀ k, k ∈ ns' ↔ if dpRun F run e = [] then 0 ≤ k ∧ k ≤ dpT F total e else k ∈ ms) : DS xs F es (i + 1) ns' (dpRun F run e) (dpT F total e) G := by
  have hd : es.drop i = e :: es.drop (i + 1) := by
    obtain ⟨hi, h3⟩ := List.getElem?_eq_some_iff.mp he
    rw [List.drop_eq_getElem_cons hi, h3]
  have hP : (fun k => k ∈ ns') = dpN F (fun k => k ∈ ns) run total e := by
    funext k
    unfold dpN
    rw [propext (hn k)]
    by_cases q : dpRun F run e = []
    · rw [if_pos q, if_pos q]
    · rw [if_neg q, if_neg q, propext (hm k)]
  refine ⟨?_, nd, fun k hk => ?_, ?_, dpRun_sub S.sub, h2⟩
  · rw [S.eq, hd, hP]
    obtain ⟨k, hk⟩ := List.exists_mem_of_ne_nil _ h1
    exact ⟨fun ⟨_, _, z⟩ => z, fun z => ⟨⟨k, (hm k).mp hk⟩, h2, z⟩⟩
  · have := (hn k).mp hk
    split at this
    · exact this
    · exact dpP_rg S.rg S.t0 ((hm k).mp this)
  · rw [dpRun_sz, S.sz]
    have : es.take (i + 1) = es.take i ++ [e] := by rw [List.take_add_one, he]; rfl
    rw [this, endI_app]
theorem DS.cap {m : Nat} (S : DS xs F es i ns run total G) (ct : cnt xs.length es = some m) (cap : Capd 40 xs.length es) (hi : i ≤ es.length) : (run.length : Int) + total ≤ 40 := by
  obtain ⟨k, h1, h2⟩ := cnt_take' es xs.length m i ct hi
  have := cap i k h1
  rw [S.sz, ← h2]
  omega
theorem ds_start (hF : cutN xs (brg xs F) = keepL F xs) : DS xs F es 0 [((brg xs F).1 : Int)] (keepL F xs) ((xs.length : Int) - ((keepL F xs).length : Nat)) (dpR F (fun k => k = (brg xs F).1) (keepL F xs) ((xs.length : Int) - ((keepL F xs).length : Nat)) es) := by
  obtain ⟨A, M, C, e, hA, hC, hb1, hb2⟩ := brg_cut xs F
  rw [hb1] at hF
  have hl : xs.length = A.length + M.length + C.length := by rw [e, List.length_append, List.length_append]
  refine ⟨?_, by simp, fun k hk => ?_, ?_, fun x hx => (List.mem_filter.mp hx).1, ?_⟩
  · have : (fun k => k = ((brg xs F).1 : Int)) = fun k => k ∈ [((brg xs F).1 : Int)] := by
      funext k
      simp
    rw [this]
    rfl
  · rw [List.mem_singleton.mp hk, ← hF, hl, hb2]
    by_cases q : M = []
    · rw [if_pos q]
      show (0 : Int) ≤ ((0 : Nat) : Int) ∧ ((0 : Nat) : Int) ≤ _
      omega
    · rw [if_neg q]
      show (0 : Int) ≤ (A.length : Nat) ∧ ((A.length : Nat) : Int) ≤ _
      omega
  · show _ = (xs.length : Int)
    omega
  · rw [← hF, hl]
    omega
end
end Ln


set_option Elab.async false
set_option linter.all false
set_option maxRecDepth 100000
set_option maxHeartbeats 8000000
namespace Ln
open PySem PySem.Spec PyProof.Rows L2 GxR
theorem filt_takeG {α : Type} (xs : List α) (p : α → Bool) (i : Nat) (c : α) (h : xs[i]? = some c) : (xs.take (i + 1)).filter p = (xs.take i).filter p ++ if p c = true then [c] else [] := by
  rw [List.take_add_one, h, List.filter_append]
  congr 1
  show List.filter p [c] = _
  by_cases q : p c = true
  · rw [if_pos q, List.filter_cons_of_pos q]
    rfl
  · rw [if_neg q, List.filter_cons_of_neg q]
    rfl
theorem eqv_nilS (xs : List Str) : PyData.eqv (.list (xs.map PyData.str)) (.list []) = decide (xs = []) := by
  cases xs with
  | nil => rfl
  | cons n r => rfl
def dropL (F kn : List Str) : List Str := F.filter fun c => !decide (c ∈ kn)
theorem dropL_nil {F kn : List Str} : dropL F kn = [] ↔ ∀ c ∈ F, c ∈ kn := by
  unfold dropL
  rw [List.filter_eq_nil_iff]
  exact ⟨fun h c hc => by simpa using h c hc, fun h c hc => by simpa using h c hc⟩
theorem shaped_m11 (a b : Int) : SeqAt.shaped (.tuple [.int a, .int b]) = true := by
  unfold SeqAt.shaped
  rw [Bool.and_eq_true]
  exact ⟨rfl, rfl⟩
theorem nd_range (n : Nat) : ((List.range n).map fun i => (0 : Int) + ((i : Nat) : Int)).Nodup := List.pairwise_map.mpr (List.nodup_range.imp fun {a b} h z => h (by omega))
theorem mem_range0 {n : Nat} {k : Int} : k ∈ ((List.range n).map fun i => (0 : Int) + ((i : Nat) : Int)) ↔ 0 ≤ k ∧ k < n := by
  rw [List.mem_map]
  constructor
  · rintro ⟨i, hi, rfl⟩
    have := List.mem_range.mp hi
    omega
  · intro h
    exact ⟨k.toNat, List.mem_range.mpr (by omega), by omega⟩
section
variable {P : Program} {w : World} {K : PySem.W.Frag} {mg : Str → Option Value} {base : Heap} {Ps : List Addr}
def spCanAr (K : PySem.W.Frag) : Sp := fun vs H Q _ => ∃ (a l f : Addr) (xs : List Str) (as : List Addr) (es : List Ev) (F : List Str) (m : Nat), vs = [.ref a, .ref l, .ref f] ∧ TupD H a (xs.map V.str) ∧ H l = some (.lst (as.map V.ref)) ∧ EvT H as es ∧ TupD H f (F.map V.str) ∧ xs.length ≤ 100 ∧ es.length ≤ 200 ∧ F.length ≤ 300 ∧
  (∀ x ∈ xs, carB x = true) ∧ (∀ x ∈ F, carB x = true) ∧ cnt xs.length es = some m ∧ Capd 40 xs.length es ∧
  ∀ (H' : Hp) (b : Bool), L2.Same H H' → (b = true ↔ canAr xs es F) → Q (.bl b) H'
end
end Ln


set_option Elab.async false
set_option linter.all false
set_option maxRecDepth 100000
set_option maxHeartbeats 4000000
namespace Ln
open PySem PySem.Spec PyProof.Rows L2 GxR
/-- a lane after one event -/
def mvF (xs : List Str) (e : Ev) (left : Bool) : List Str := match e with
  | .inn c => if left = true then c :: xs else xs ++ [c]
  | .out => if left = true then xs.drop 1 else xs.take (xs.length - 1)
theorem mv_mvF {xs : List Str} {e : Ev} {left : Bool} (h : e = .out → xs ≠ []) : Mv xs e (mvF xs e left) := by
  cases e with
  | inn c =>
    cases left with
    | true => exact .inL c xs
    | false => exact .inR c xs
  | out =>
    have h := h rfl
    cases left with
    | true =>
      cases xs with
      | nil => exact absurd rfl h
      | cons x r => exact .outL x r
    | false =>
      show Mv xs .out (xs.take (xs.length - 1))
      rw [← List.dropLast_eq_take]
      have e := (List.dropLast_concat_getLast h).symm
      generalize xs.dropLast = r at e ⊢
      rw [e]
      exact .outR _ r
theorem cut_lastV {xs : List V} (h : 0 < xs.length) : cutV xs none (some (-1)) = xs.take (xs.length - 1) := by
  unfold cutV
  rw [HT.sIx_none, List.drop_zero, Nat.sub_zero, show HT.sIx xs.length xs.length (some (-1)) = xs.length - 1 by
    show (if (-1 : Int) < 0 then ((-1 : Int) + (xs.length : Int)).toNat else min (-1 : Int).toNat xs.length) = _
    rw [if_pos (by decide)]
    omega]
/-! ### what the law keeps -/
/-- an object of the module's own -/
def KAlt (K : PySem.W.Frag) (a : Addr) (xs : List V) : Prop := ∃ (o : Obj) (its : Array Value) (n : Nat), K.lookup a = some o ∧ o.cls = .type "list" ∧ o.dict = none ∧ o.data = .seq its n ∧ its.size ≤ sizeLine ∧ Vals xs its.toList
def Off (K : PySem.W.Frag) (a b : Addr) (xs : List V) : Prop := a ≠ b ∨ KAlt K a xs
section
variable {K : PySem.W.Frag} {Ps : List Addr} {H H1 : Hp} {a b t : Addr} {o : HO} {xs z : List V}
theorem off_new (h : SqL K H a xs) (hb : H b = none) : Off K a b xs := by
  rcases h with (e | ⟨ob, e⟩) | e
  · exact .inl (ne_of_none e hb)
  · exact .inl (ne_of_none e hb)
  · exact .inr e
theorem sq_off (h : SqL K H a xs) (n : Off K a b xs) : SqL K (upd H b o) a xs := by
  rcases n with n | e
  · rcases h with (e | ⟨ob, e⟩) | e
    · exact .inl (.inl (by rw [upd_ne n]; exact e))
    · exact .inl (.inr ⟨ob, by rw [upd_ne n]; exact e⟩)
    · exact .inr e
  · exact .inr e
theorem tabs_updL (hT : Tabs Ps H) (hb : H b = some (.lst z)) : Tabs Ps (upd H b o) := fun q hq => by
  obtain ⟨ps, e, t⟩ := hT q hq
  have n : q ≠ b := fun z => by
    rw [z, hb] at e
    cases e
  exact ⟨ps, by rw [upd_ne n]; exact e, t⟩
theorem tabs_new (hT : Tabs Ps H) (hb : H b = none) : Tabs Ps (upd H b o) := fun q hq => by
  obtain ⟨ps, e, t⟩ := hT q hq
  exact ⟨ps, by rw [upd_ne (ne_of_none e hb)]; exact e, t⟩
theorem tabs_same (hT : Tabs Ps H) (k : L2.Same H H1) : Tabs Ps H1 := fun q hq => by
  obtain ⟨ps, e, t⟩ := hT q hq
  exact ⟨ps, k _ _ e, t⟩
theorem tup_updL (h : TupD H t xs) (hb : H b = some (.lst z)) : TupD (upd H b o) t xs := by
  obtain ⟨ob, d, e⟩ := h
  refine ⟨ob, d, ?_⟩
  rw [upd_ne fun q => by rw [q, hb] at e; cases e]
  exact e
theorem sq_same (h : SqL K H a xs) (k : L2.Same H H1) : SqL K H1 a xs := by
  rcases h with (e | ⟨ob, e⟩) | e
  · exact .inl (.inl (k _ _ e))
  · exact .inl (.inr ⟨ob, k _ _ e⟩)
  · exact .inr e
end
theorem EvT.updL {as : List Addr} {es : List Ev} {H : Hp} {b : Addr} {z : List V} {u : HO} (h : EvT H as es) (hb : H b = some (.lst z)) : EvT (upd H b u) as es := h.kt (KT.upd fun xs e => by rw [hb] at e; cases e)
/-! ### the history's lanes -/
theorem cnt_take : ∀ (es : List Ev) (n m j : Nat), cnt n es = some m → j ≤ es.length → ∃ k, cnt n (es.take j) = some k ∧ (k : Int) = endI n (es.take j) ∧ (es[j]? = some .out → 0 < k)
  | [], n, m, j, _, hj => by
    have : j = 0 := by simpa using hj
    subst this
    exact ⟨n, rfl, rfl, fun h => by simp at h⟩
  | .inn c :: r, n, m, 0, _, _ => ⟨n, rfl, rfl, fun h => by simp at h⟩
  | .out :: r, n, m, 0, h, _ => by
    refine ⟨n, rfl, rfl, fun _ => ?_⟩
    by_cases q : 0 < n
    · exact q
    · have h : (if 0 < n then cnt (n - 1) r else none) = some m := h
      rw [if_neg q] at h
      cases h
  | .inn c :: r, n, m, j + 1, h, hj => by
    obtain ⟨k, h1, h2, h3⟩ := cnt_take r (n + 1) m j h (by simpa using hj)
    exact ⟨k, h1, by rw [h2]; rfl, fun e => h3 (by simpa using e)⟩
  | .out :: r, n, m, j + 1, h, hj => by
    have h : (if 0 < n then cnt (n - 1) r else none) = some m := h
    by_cases q : 0 < n
    · rw [if_pos q] at h
      obtain ⟨k, h1, h2, h3⟩ := cnt_take r (n - 1) m j h (by simpa using hj)
      refine ⟨k, ?_, ?_, fun e => h3 (by simpa using e)⟩
      · show (if 0 < n then cnt (n - 1) (r.take j) else none) = some k
        rw [if_pos q, h1]
      · rw [h2]
        show endI ((n - 1 : Nat) : Int) (r.take j) = endI ((n : Int) - 1) (r.take j)
        rw [show ((n - 1 : Nat) : Int) = (n : Int) - 1 by omega]
    · rw [if_neg q] at h
      cases h
structure Good (xs : List Str) (es : List Ev) (m : Nat) : Prop where
  nd : (xs ++ arrs es).Nodup
  cars : ∀ x ∈ xs ++ arrs es, carB x = true
  ct : cnt xs.length es = some m
  few1 : xs.length ≤ 100
  few2 : es.length ≤ 200
section
variable {xs L : List Str} {es : List Ev} {m j : Nat}
theorem arrs_take (es : List Ev) (j : Nat) : (arrs (es.take j)).Sublist (arrs es) := by
  have : arrs es = arrs (es.take j) ++ arrs (es.drop j) := by rw [← arrs_app, List.take_append_drop]
  rw [this]
  exact List.sublist_append_left _ _
theorem Good.take (G : Good xs es m) (j : Nat) (hj : j ≤ es.length) : ∃ k, Good xs (es.take j) k := by
  obtain ⟨k, h1, _, _⟩ := cnt_take es xs.length m j G.ct hj
  have hs : (xs ++ arrs (es.take j)).Sublist (xs ++ arrs es) := (List.Sublist.refl _).append (arrs_take es j)
  exact ⟨k, G.nd.sublist hs, fun x hx => G.cars x (hs.subset hx), h1, G.few1, by rw [List.length_take]; have := G.few2; omega⟩
theorem Good.laneB (G : Good xs es m) : laneB xs = true := by
  unfold Ln.laneB
  rw [Bool.and_eq_true]
  exact ⟨List.all_eq_true.mpr fun x hx => G.cars x (List.mem_append_left _ hx), decide_eq_true (List.nodup_append.mp G.nd).1⟩
theorem Good.logB (G : Good xs es m) : logB xs xs.length es = true :=
  logB_of es xs xs.length m G.ct (fun c hc => ⟨G.cars c (List.mem_append_right _ hc), fun z => (List.nodup_append.mp G.nd).2.2 c z c hc rfl⟩) (List.nodup_append.mp G.nd).2.1
theorem Good.lane (G : Good xs es m) (h : Run xs es L) : Ln.laneB L = true := by
  unfold Ln.laneB
  rw [Bool.and_eq_true]
  exact ⟨List.all_eq_true.mpr fun x hx => G.cars x (h.mem x hx), decide_eq_true (h.nodup G.nd)⟩
theorem endI_le : ∀ (n : Int) (es : List Ev), endI n es ≤ n + es.length
  | n, [] => by show n ≤ n + ((0 : Nat) : Int); omega
  | n, .inn _ :: r => by
    have := endI_le (n + 1) r
    rw [List.length_cons]
    show endI (n + 1) r ≤ _
    omega
  | n, .out :: r => by
    have := endI_le (n - 1) r
    rw [List.length_cons]
    show endI (n - 1) r ≤ _
    omega
theorem Good.few (G : Good xs es m) (h : Run xs es L) : L.length ≤ 300 := by
  have h1 := h.len
  have h2 := endI_le xs.length es
  have := G.few1
  have := G.few2
  omega
theorem Good.laneAt {K : PySem.W.Frag} {H : Hp} {p : Addr} (G : Good xs es m) (h : Run xs es L) (hp : TupD H p (L.map V.str)) : LaneAt K H p L :=
  ⟨hp.sq, by have := G.few h; omega, fun x hx => car_sz (carsOf (G.lane h) x hx)⟩
theorem Good.startAt {K : PySem.W.Frag} {H : Hp} {p : Addr} (G : Good xs es m) (hp : TupD H p (xs.map V.str)) : LaneAt K H p xs :=
  ⟨hp.sq, by have := G.few1; omega, fun x hx => car_sz (carsOf G.laneB x hx)⟩
theorem Good.logAt {K : PySem.W.Frag} {H : Hp} {l : Addr} {as : List Addr} (G : Good xs es m) (hl : H l = some (.lst (as.map V.ref))) (hv : EvT H as es) : LogAt K H l as es :=
  ⟨SqL.of hl, Paired.imp hv fun _ _ q => SqT.of q, by have := G.few2; omega, fun c hc => car_sz (G.cars c (List.mem_append_right _ (mem_arrs hc)))⟩
end
/-! ### a call by keywords alone -/
section
variable {X : Cx} {CX : CXT} {k : Nat} {f : Addr} {fd : FuncData} {ps ks : List Str} {sp : Sp} {E : XK} {x : Str} {p pos : Pos} {kws : List Keyword} {tk : TA} {g : List Value → List Value → List Value} {gV : List V → List V → List V}
theorem pe_callK0 (F : FnOk X.prog X.w X.K X.mg X.base CX k f fd ps sp) (hr : Room k X.A) (hg : Gl X x) (hm : X.mg x = some (.ref f)) (hk : PySem.W.keepIn X.K (.ref f) = true) (hb : KBinds X.K fd ps ks g gV) (hx : Passes CX X E) (hkw : PK X kws tk)
    (hall : (backToKw pos (keywordEach kws X.env)).all (·.1.isSome) = true := by rfl) (hks : (backToKw pos (keywordEach kws X.env)).filterMap (·.1) = ks := by rfl) (hdb : (x == ("__debug__" : Str)) = false := by decide)
    (hpl : ((backTo pos (starEach [] X.env)).any (·.1) || (backToKw pos (keywordEach kws X.env)).any (·.1.isNone)) = false := by rfl) :
    PE X (.Call (.Name x p) [] kws pos) (tCallK sp gV E tNil tk) := by
  refine ⟨fun pins s σ H Q I h => wpAny_Call_Name_kw (ld_glob I hg hm ?_ hdb)⟩
  refine PySem.W.callWith_KW0 (h₀ := X.base) I.ok.mod.kin hk hall (thn (hkw.run pos pins s σ H _ I h) fun ws s2 ⟨zs, H2, I2, rz, q2⟩ => ⟨I2.kIn, ?_⟩) hpl
  rw [hks]
  exact run_fnk (us := []) F hr hb hx I2 .nil rz q2
end
def id3 {α : Type} : List α → List α → List α
  | [], [x, y, z] => [x, y, z]
  | _, _ => []
end Ln


set_option Elab.async false
set_option linter.all false
set_option maxRecDepth 100000
set_option maxHeartbeats 4000000
namespace Ln
open PySem PySem.Spec PyProof.Rows L2 GxR
section
variable {s a : Addr} {H H' : Hp} {xs l : List V} {as : List Addr} {es : List Ev}
theorem Ch.tupD (k : Ch s H H') (h : TupD H a xs) (hs : H s = some (.lst l)) : TupD H' a xs := by
  obtain ⟨ob, d, e⟩ := h
  exact ⟨ob, d, k _ _ e fun z => by rw [z, hs] at e; cases e⟩
theorem Ch.evT (k : Ch s H H') (h : EvT H as es) (hs : H s = some (.lst l)) : EvT H' as es := Paired.imp h fun b e q => k _ _ q fun z => by rw [z, hs] at q; cases q
theorem Ch.sm {H2 : Hp} (k : Ch s H H') (m : L2.Same H' H2) : Ch s H H2 := fun b o e n => m _ _ (k b o e n)
end
theorem take_run' {es : List Ev} {j : Nat} {e : Ev} (h : es[j]? = some e) : es.take (j + 1) = es.take j ++ [e] := by
  rw [List.take_add_one, h]
  rfl
section
variable {P : Program} {w : World} {K : PySem.W.Frag} {mg : Str → Option Value} {base : Heap} {Ps : List Addr}
def spLived (K : PySem.W.Frag) : Sp := fun vs H Q _ => ∃ (s0 t o : Addr) (l : List V) (n : Nat) (xs : List Str) (as : List Addr) (es : List Ev) (m : Nat), vs = [.ref s0, .ref t, .ref o] ∧ H s0 = some (.lst l) ∧ SrcV n l ∧ n + 300 ≤ 1000000 ∧ TupD H t (xs.map V.str) ∧ H o = some (.lst (as.map V.ref)) ∧ s0 ≠ o ∧ EvT H as es ∧ Good xs es m ∧
  ∀ (H' : Hp) (p : Addr) (L : List Str) (l' : List V), Ch s0 H H' → H' s0 = some (.lst l') → SrcV (n + 201) l' → TupD H' p (L.map V.str) → Run xs es L → Q (.ref p) H'
end
end Ln


set_option Elab.async false
set_option linter.all false
set_option maxRecDepth 100000
set_option maxHeartbeats 4000000
namespace Ln
open PySem PySem.Spec PyProof.Rows L2 GxR
/-! ### expressions that make data: the data is told, the places are not -/
/-- the data of a value, off the object s0; a list is one that may be added to -/
structure Dt (K : PySem.W.Frag) (s0 : Addr) (H : Hp) (v : V) (d : PyData) : Prop where
  dv : Dv K (offH H s0) v d
  ls : ∀ ds, d = .list ds → ∃ (a : Addr) (xs : List V), v = .ref a ∧ H a = some (.lst xs) ∧ a ≠ s0 ∧ DvAll K (offH H s0) xs ds
/-- data in slots -/
def EnvD (K : PySem.W.Frag) (s0 : Addr) (Γ : List (Nat × PyData)) (σ : L2.St) (H : Hp) : Prop := ∀ p ∈ Γ, ∃ v, σ[p.1]? = some (some v) ∧ Dt K s0 H v p.2
def tG (K : PySem.W.Frag) (s0 : Addr) (Γ : List (Nat × PyData)) (d : PyData) : TE := fun σ H Q => (∃ l, H s0 = some (.lst l)) ∧ EnvD K s0 Γ σ H ∧ ∀ H' v, L2.Same H H' → Dt K s0 H' v d → Q v H'
def tGA (K : PySem.W.Frag) (s0 : Addr) (Γ : List (Nat × PyData)) (ds : List PyData) : TA := fun σ H Q => (∃ l, H s0 = some (.lst l)) ∧ EnvD K s0 Γ σ H ∧ ∀ H' vs, L2.Same H H' → DvAll K (offH H' s0) vs ds → Q vs H'
section
variable {K : PySem.W.Frag} {s0 : Addr} {H H' : Hp} {v : V} {d : PyData} {Γ : List (Nat × PyData)} {σ : L2.St}
theorem Dt.same (h : Dt K s0 H v d) (k : L2.Same H H') : Dt K s0 H' v d := ⟨h.dv.same (off_sm k), fun ds e => by
  obtain ⟨a, xs, e1, e2, n, dv⟩ := h.ls ds e
  exact ⟨a, xs, e1, k _ _ e2, n, dv.same (off_sm k)⟩⟩
theorem Dt.ch (h : Dt K s0 H v d) (k : Ch s0 H H') : Dt K s0 H' v d := ⟨h.dv.same (off_ch k), fun ds e => by
  obtain ⟨a, xs, e1, e2, n, dv⟩ := h.ls ds e
  exact ⟨a, xs, e1, k _ _ e2 n, n, dv.same (off_ch k)⟩⟩
theorem Dt.full (h : Dt K s0 H v d) : Dv K H v d := h.dv.same off_sub
theorem Dt.of (h : Dv K (offH H s0) v d) (n : ∀ ds, d ≠ .list ds) : Dt K s0 H v d := ⟨h, fun ds e => absurd e (n ds)⟩
theorem EnvD.same (h : EnvD K s0 Γ σ H) (k : L2.Same H H') : EnvD K s0 Γ σ H' := fun p hp => let ⟨v, e, d⟩ := h p hp; ⟨v, e, d.same k⟩
theorem EnvD.nil : EnvD K s0 [] σ H := fun _ h => nomatch h
theorem EnvD.cons {i : Nat} (e : σ[i]? = some (some v)) (h : Dt K s0 H v d) (t : EnvD K s0 Γ σ H) : EnvD K s0 ((i, d) :: Γ) σ H := fun p hp => by
  rcases List.mem_cons.mp hp with rfl | hp
  · exact ⟨v, e, h⟩
  · exact t p hp
end
section
variable {X : Cx} {s0 : Addr} {Γ : List (Nat × PyData)} {d : PyData} {ds es : List PyData} {e : Expr} {el : List Expr} {pos : Pos}
theorem pe_imp {t t' : TE} (h : PE X e t) (i : ∀ σ H Q, t' σ H Q → t σ H Q) : PE X e t' := ⟨fun pins s σ H Q I h' => h.run pins s σ H Q I (i _ _ _ h')⟩
theorem pa_imp {t t' : TA} (h : PA X el t) (i : ∀ σ H Q, t' σ H Q → t σ H Q) : PA X el t' := ⟨fun p pins s σ H Q I h' => h.run p pins s σ H Q I (i _ _ _ h')⟩
theorem g_non {j : Nat} : PE X (.Constant .none j pos) (tG X.K s0 Γ .none) := pe_imp pe_non fun σ H Q ⟨_, _, q⟩ => q H _ sm_refl (.of .non fun _ z => nomatch z)
theorem g_int {j : Nat} {i : Int} : PE X (.Constant (.int i) j pos) (tG X.K s0 Γ (.int i)) := pe_imp pe_int fun σ H Q ⟨_, _, q⟩ => q H _ sm_refl (.of (.int i) fun _ z => nomatch z)
theorem g_bl {j : Nat} {b : Bool} : PE X (.Constant (.bool b) j pos) (tG X.K s0 Γ (.bool b)) := pe_imp pe_bl fun σ H Q ⟨_, _, q⟩ => q H _ sm_refl (.of (.bl b) fun _ z => nomatch z)
theorem g_str {j : Nat} {x : Str} (h : decide (x.length ≤ 100) = true := by decide) : PE X (.Constant (.str x) j pos) (tG X.K s0 Γ (.str x)) := pe_imp pe_str fun σ H Q ⟨_, _, q⟩ => q H _ sm_refl (.of (.str x (by have := of_decide_eq_true h; rw [sizeLine_eq]; omega)) fun _ z => nomatch z)
theorem g_var {i : Nat} {x : Str} (h : PE X (.Name x pos) (tVar i)) (m : (i, d) ∈ Γ) : PE X (.Name x pos) (tG X.K s0 Γ d) := pe_imp h fun σ H Q ⟨_, en, q⟩ => let ⟨v, ev, dv⟩ := en _ m; ⟨v, ev, q H v sm_refl dv⟩
theorem ga_nil : PA X [] (tGA X.K s0 Γ []) := pa_imp pa_nil fun σ H Q ⟨_, _, q⟩ => q H [] sm_refl .nil
theorem ga_cons (h : PE X e (tG X.K s0 Γ d)) (t : PA X el (tGA X.K s0 Γ ds)) (hs : starEach (e :: el) X.env = (false, eval e X.env) :: starEach el X.env := by rfl) : PA X (e :: el) (tGA X.K s0 Γ (d :: ds)) :=
  pa_imp (pa_cons h t hs) fun σ H Q ⟨⟨l, hs⟩, en, q⟩ => ⟨⟨l, hs⟩, en, fun H1 v k dv => ⟨⟨l, k _ _ hs⟩, en.same k, fun H2 vs k2 dvs => q H2 _ (sm_trans k k2) (.cons (dv.same k2).dv dvs)⟩⟩
theorem g_lst (a : PA X el (tGA X.K s0 Γ ds)) (hl : decide (ds.length ≤ 900) = true := by exact rfl) : PE X (.List el pos) (tG X.K s0 Γ (.list ds)) :=
  pe_imp (pe_lst a) fun σ H Q ⟨⟨l, hs⟩, en, q⟩ => ⟨⟨l, hs⟩, en, fun H1 vs k dv => ⟨by have := of_decide_eq_true hl; rw [dv.len, sizeLine_eq]; omega, fun p hp => by
    have k2 : L2.Same H1 (upd H1 p (.lst vs)) := sm_new sm_refl hp
    have n : p ≠ s0 := (ne_of_none (k _ _ hs) hp).symm
    have d2 := dv.same (off_sm (s := s0) k2)
    exact q _ _ (sm_trans k k2) ⟨.lst (SqL.of (by rw [off_at n]; exact upd_same)) d2, fun es e => by cases e; exact ⟨p, vs, rfl, upd_same, n, d2⟩⟩⟩⟩
theorem g_tup {x1 : _} (a : PA X el (tGA X.K s0 Γ ds)) (hl : decide (ds.length ≤ 900) = true := by exact rfl) : PE X (.Tuple el x1 pos) (tG X.K s0 Γ (.tuple ds)) :=
  pe_imp (pe_tup a) fun σ H Q ⟨⟨l, hs⟩, en, q⟩ => ⟨⟨l, hs⟩, en, fun H1 vs k dv => ⟨by have := of_decide_eq_true hl; rw [dv.len, sizeLine_eq]; omega, fun p hp => by
    have k2 : L2.Same H1 (upd H1 p (.tup vs)) := sm_new sm_refl hp
    have n : p ≠ s0 := (ne_of_none (k _ _ hs) hp).symm
    have d2 := dv.same (off_sm (s := s0) k2)
    exact q _ _ (sm_trans k k2) (.of (.tup (SqT.of (by rw [off_at n]; exact upd_same)) d2) fun _ z => nomatch z)⟩⟩
theorem g_dic : PE X (.Dict [] [] pos) (tG X.K s0 Γ (.dict [])) := pe_imp pe_dnewK fun σ H Q ⟨⟨l, hs⟩, en, q⟩ p hp => by
  have k2 : L2.Same H (upd H p (.dK [])) := sm_new sm_refl hp
  have n : p ≠ s0 := (ne_of_none hs hp).symm
  exact q _ _ k2 (.of (.dic (by rw [off_at n]; exact upd_same)) fun _ z => nomatch z)
/-- lists, one behind the other -/
theorem g_cat {a b : Expr} (ha : PE X a (tG X.K s0 Γ (.list ds))) (hb : PE X b (tG X.K s0 Γ (.list es))) (hl : ds.length + es.length ≤ 10000) : PE X (.BinOp a .Add b pos) (tG X.K s0 Γ (.list (ds ++ es))) :=
  pe_imp (pe_op op_cat ha hb) fun σ H Q ⟨⟨l, hs⟩, en, q⟩ => ⟨⟨l, hs⟩, en, fun H1 v1 k1 d1 => ⟨⟨l, k1 _ _ hs⟩, en.same k1, fun H2 v2 k2 d2 => by
    obtain ⟨a1, xs, rfl, e1, n1, c1⟩ := d1.ls _ rfl
    obtain ⟨a2, ys, rfl, e2, n2, c2⟩ := d2.ls _ rfl
    refine ⟨a1, a2, xs, ys, rfl, rfl, k2 _ _ e1, e2, by rw [c1.len, c2.len, sizeLine_eq]; omega, fun p hp => ?_⟩
    have k3 : L2.Same H2 (upd H2 p (.lst (xs ++ ys))) := sm_new sm_refl hp
    have n : p ≠ s0 := (ne_of_none (k2 _ _ (k1 _ _ hs)) hp).symm
    have c3 := DvAll.app (c1.same (off_sm (s := s0) (sm_trans k2 k3))) (c2.same (off_sm (s := s0) k3))
    exact q _ _ (sm_trans k1 (sm_trans k2 k3)) ⟨.lst (SqL.of (by rw [off_at n]; exact upd_same)) c3, fun es e => by cases e; exact ⟨p, _, rfl, upd_same, n, c3⟩⟩⟩⟩
/-- a tuple behind a tuple -/
theorem g_catT {a b : Expr} (ha : PE X a (tG X.K s0 Γ (.tuple ds))) (hb : PE X b (tG X.K s0 Γ (.tuple es))) (hl : ds.length + es.length ≤ 900) : PE X (.BinOp a .Add b pos) (tG X.K s0 Γ (.tuple (ds ++ es))) :=
  pe_imp (pe_op op_catA ha hb) fun σ H Q ⟨⟨l, hs⟩, en, q⟩ => ⟨⟨l, hs⟩, en, fun H1 v1 k1 d1 => ⟨⟨l, k1 _ _ hs⟩, en.same k1, fun H2 v2 k2 d2 => by
    cases (d1.same k2).dv with
    | @tup a1 xs _ s1 c1 =>
      cases d2.dv with
      | @tup a2 ys _ s2 c2 =>
        refine catV (sqT_sm s1 off_sub) (sqT_sm s2 off_sub) (by rw [c1.len, c2.len]; omega) fun H3 p k3 hp => ?_
        have hs3 := k3 _ _ (k2 _ _ (k1 _ _ hs))
        exact q _ _ (sm_trans k1 (sm_trans k2 k3)) (.of (.tup (off_seqT hp hs3) (DvAll.app (c1.same (off_sm k3)) (c2.same (off_sm k3)))) fun _ z => nomatch z)⟩⟩
/-- [x, ..] * n -/
theorem g_rep {a b : Expr} {n : Nat} {tb : TE} (ha : PE X a (tG X.K s0 Γ (.list [d]))) (hb : PE X b tb) (hn : ∀ σ H Q, EnvD X.K s0 Γ σ H → Q (.int n) H → tb σ H Q) (hl : n ≤ 10000) : PE X (.BinOp a .Mult b pos) (tG X.K s0 Γ (.list (List.replicate n d))) :=
  pe_imp (pe_op op_rep ha hb) fun σ H Q ⟨⟨l, hs⟩, en, q⟩ => ⟨⟨l, hs⟩, en, fun H1 v1 k1 d1 => hn _ _ _ (en.same k1) (by
    obtain ⟨a1, xs, rfl, e1, n1, c1⟩ := d1.ls _ rfl
    cases c1 with
    | @cons v _ _ _ c t =>
      cases t
      refine ⟨a1, n, [v], rfl, rfl, e1, by omega, by omega, by rw [sizeLine_eq]; simp; omega, fun p hp => ?_⟩
      rw [Int.toNat_natCast, flat_one]
      have k3 : L2.Same H1 (upd H1 p (.lst (List.replicate n v))) := sm_new sm_refl hp
      have np : p ≠ s0 := (ne_of_none (k1 _ _ hs) hp).symm
      have c3 := dv_rep (c.same (off_sm (s := s0) k3)) n
      exact q _ _ (sm_trans k1 k3) ⟨.lst (SqL.of (by rw [off_at np]; exact upd_same)) c3, fun es e => by cases e; exact ⟨p, _, rfl, upd_same, np, c3⟩⟩)⟩
/-- list(t) -/
theorem g_list (h : PE X e (tCB (fun xs H Q => ∃ p ys, xs = [.ref p] ∧ (SqL X.K H p ys ∨ SqT X.K H p ys) ∧ ∀ l, H l = none → Q (.ref l) (upd H l (.lst ys))) (tCons (tG X.K s0 Γ (.tuple ds)) tNil))) : PE X e (tG X.K s0 Γ (.list ds)) :=
  pe_imp h fun σ H Q ⟨⟨l, hs⟩, en, q⟩ => ⟨⟨l, hs⟩, en, fun H1 v1 k1 d1 => by
    cases d1.dv with
    | @tup a1 xs _ s1 c1 =>
      refine ⟨a1, xs, rfl, .inr (sqT_sm s1 off_sub), fun p hp => ?_⟩
      have k3 : L2.Same H1 (upd H1 p (.lst xs)) := sm_new sm_refl hp
      have n : p ≠ s0 := (ne_of_none (k1 _ _ hs) hp).symm
      have c3 := c1.same (off_sm (s := s0) k3)
      exact q _ _ (sm_trans k1 k3) ⟨.lst (SqL.of (by rw [off_at n]; exact upd_same)) c3, fun es e => by cases e; exact ⟨p, _, rfl, upd_same, n, c3⟩⟩⟩
/-- tuple(l) -/
theorem g_tuple (h : PE X e (tCB (fun xs H Q => ∃ p ys, xs = [.ref p] ∧ ((SqL X.K H p ys ∧ ∀ l, H l = none → Q (.ref l) (upd H l (.tup ys))) ∨ (SqT X.K H p ys ∧ Q (.ref p) H))) (tCons (tG X.K s0 Γ (.list ds)) tNil))) : PE X e (tG X.K s0 Γ (.tuple ds)) :=
  pe_imp h fun σ H Q ⟨⟨l, hs⟩, en, q⟩ => ⟨⟨l, hs⟩, en, fun H1 v1 k1 d1 => by
    obtain ⟨a1, xs, rfl, e1, n1, c1⟩ := d1.ls _ rfl
    refine ⟨a1, xs, rfl, .inl ⟨SqL.of e1, fun p hp => ?_⟩⟩
    have k3 : L2.Same H1 (upd H1 p (.tup xs)) := sm_new sm_refl hp
    have n : p ≠ s0 := (ne_of_none (k1 _ _ hs) hp).symm
    exact q _ _ (sm_trans k1 k3) (.of (.tup (SqT.of (by rw [off_at n]; exact upd_same)) (c1.same (off_sm (s := s0) k3))) fun _ z => nomatch z)⟩
/-- t[i] -/
theorem g_ixT {a b : Expr} {tb : TE} {i : Int} {k : Nat} (ha : PE X a (tG X.K s0 Γ (.tuple ds))) (hb : PE X b tb) (hi : ∀ σ H Q, Q (.int i) H → tb σ H Q) (hk : ixN ds.length i = some k) (hd : ds[k]? = some d) (hn : ∀ es, d ≠ .list es) (hs : PlainIx b) : PE X (.Subscript a b pos) (tG X.K s0 Γ d) :=
  pe_imp (pe_ix ix_tup ha hb hs) fun σ H Q ⟨⟨l, hs⟩, en, q⟩ => ⟨⟨l, hs⟩, en, fun H1 v1 k1 d1 => hi _ _ _ (by
    cases d1.dv with
    | @tup a1 xs _ s1 c1 =>
      obtain ⟨v, hv, dv⟩ := c1.at_ hd
      exact ⟨a1, xs, i, v, rfl, rfl, sqT_sm s1 off_sub, by unfold atI; rw [c1.len, hk]; exact hv, q _ _ k1 (.of dv hn)⟩)⟩
/-- menu[take(bag, len(menu))] -/
theorem g_pick {ib im : Nat} {E : XK} (h : PE X e (tOp (rIxL X.K) (tVar im) (tCall spTake [] E (tCons (tVar ib) (tCons (tCB (fun xs H Q => ∃ p ys, xs = [.ref p] ∧ (SqL X.K H p ys ∨ SqT X.K H p ys) ∧ Q (.int ys.length) H) (tCons (tVar im) tNil)) tNil))))) (m : (im, .list ds) ∈ Γ) :
    PE X e fun σ H Q => ∃ (l : List V) (n : Nat), σ[ib]? = some (some (.ref s0)) ∧ H s0 = some (.lst l) ∧ SrcV n l ∧ n ≤ 1000000 ∧ EnvD X.K s0 Γ σ H ∧ 0 < ds.length ∧ ds.length ≤ 1000 ∧
      ∀ H' v d l', Ch s0 H H' → H' s0 = some (.lst l') → SrcV (n + 1) l' → d ∈ ds → Dv X.K (offH H' s0) v d → Q v H' :=
  pe_imp h fun σ H Q ⟨l, n, eb, hs, hl, hn, en, h0, h9, q⟩ => by
    obtain ⟨v, ev, dt⟩ := en _ m
    obtain ⟨a, xs, rfl, ea, na, c⟩ := dt.ls _ rfl
    have hlen := c.len
    refine ⟨.ref a, ev, .ref s0, eb, .ref a, ev, a, xs, rfl, .inl (SqL.of ea), s0, l, n, xs.length, rfl, hs, hl, hn, by omega, by omega, fun l2 r hl2 h0 h1 => ?_⟩
    obtain ⟨j, rfl⟩ : ∃ j : Nat, r = (j : Int) := ⟨r.toNat, by omega⟩
    obtain ⟨u, hu, du⟩ := c.at_ (List.getElem?_eq_getElem (show j < ds.length by omega))
    refine ⟨a, xs, (j : Nat), u, rfl, rfl, SqL.of (by rw [upd_ne na]; exact ea), atI_nat hu, ?_⟩
    exact q _ u _ l2 Ch.src upd_same hl2 (List.getElem_mem _) (du.same (off_ch Ch.src))
end
end Ln


set_option Elab.async false
set_option linter.all false
set_option maxRecDepth 100000
set_option maxHeartbeats 2000000
namespace Ln
open PySem PySem.Spec PyProof.Rows L2 GxR
/-! ### data that may be shown -/
structure Gd (d : PyData) (dep wt : Nat) : Prop where
  lay : d.canLay0 = true
  dep : d.depth ≤ dep
  wt : d.weight ≤ wt
  iss : d.intsShort 13 = true
  sh : d.showable = true
  nd : d.hasDict = false
structure GdA (ds : List PyData) (dep wt : Nat) : Prop where
  lay : PyData.canLayAll0 ds = true
  dep : PyData.depthAll ds ≤ dep
  wt : PyData.weightAll ds ≤ wt
  iss : PyData.intsShortAll 13 ds = true
  sh : PyData.showableAll ds = true
  nd : PyData.hasDictAll ds = false
theorem GdA.nil {dep : Nat} : GdA [] dep 0 := ⟨rfl, Nat.zero_le _, Nat.le_refl _, rfl, rfl, rfl⟩
theorem GdA.cons {d : PyData} {ds : List PyData} {dep w1 w2 : Nat} (a : Gd d dep w1) (b : GdA ds dep w2) : GdA (d :: ds) dep (w1 + 1 + w2) := by
  refine ⟨?_, ?_, ?_, ?_, ?_, ?_⟩
  · rw [PyData.canLayAll0, a.lay, b.lay]
    rfl
  · have := a.dep
    have := b.dep
    rw [PyData.depthAll]
    omega
  · have := a.wt
    have := b.wt
    rw [PyData.weightAll]
    omega
  · rw [PyData.intsShortAll, a.iss, b.iss]
    rfl
  · rw [PyData.showableAll, a.sh, b.sh]
    rfl
  · rw [PyData.hasDictAll, a.nd, b.nd]
    rfl
theorem GdA.list {ds : List PyData} {dep w : Nat} (a : GdA ds dep w) : Gd (.list ds) (dep + 1) w :=
  ⟨by rw [PyData.canLay0]; exact a.lay, by rw [PyData.depth]; exact Nat.succ_le_succ a.dep, by rw [PyData.weight]; exact a.wt, by rw [PyData.intsShort]; exact a.iss, by rw [PyData.showable]; exact a.sh, by rw [PyData.hasDict]; exact a.nd⟩
theorem GdA.tuple {ds : List PyData} {dep w : Nat} (a : GdA ds dep w) : Gd (.tuple ds) (dep + 1) w :=
  ⟨by rw [PyData.canLay0]; exact a.lay, by rw [PyData.depth]; exact Nat.succ_le_succ a.dep, by rw [PyData.weight]; exact a.wt, by rw [PyData.intsShort]; exact a.iss, by rw [PyData.showable]; exact a.sh, by rw [PyData.hasDict]; exact a.nd⟩
theorem Gd.mono {d : PyData} {a b u v : Nat} (h : Gd d a u) (h1 : a ≤ b) (h2 : u ≤ v) : Gd d b v := ⟨h.lay, Nat.le_trans h.dep h1, Nat.le_trans h.wt h2, h.iss, h.sh, h.nd⟩
theorem GdA.map {α : Type} {f : α → PyData} {dep w : Nat} : ∀ (xs : List α), (∀ x ∈ xs, Gd (f x) dep w) → GdA (xs.map f) dep (xs.length * (w + 1))
  | [], _ => by
    rw [List.length_nil, Nat.zero_mul]
    exact .nil
  | x :: r, h => by
    have a := GdA.cons (h x List.mem_cons_self) (GdA.map r fun y hy => h y (List.mem_cons_of_mem _ hy))
    rw [List.length_cons, Nat.succ_mul, Nat.add_comm]
    exact a
theorem Gd.str {x : Str} (h1 : PyData.strOk x = true) (h2 : x.length ≤ 4) : Gd (.str x) 0 4 :=
  ⟨by rw [PyData.canLay0]; exact h1, by rw [PyData.depth]; exact Nat.le_refl _, by rw [PyData.weight]; exact h2, rfl, rfl, rfl⟩
set_option maxRecDepth 1000000 in
theorem shown_ints : ∀ n < 1001, decide ((PyData.shown (.int (n : Nat))).length ≤ 13) = true := by decide +kernel
theorem Gd.int {n : Nat} (h : n ≤ 1000) : Gd (.int (n : Nat)) 0 11 := by
  have hl : (if ((n : Nat) : Int) = 0 then 0 else ((n : Nat) : Int).natAbs.log2 + 1) ≤ 11 := by
    split
    · omega
    · have : ((n : Nat) : Int).natAbs.log2 < 10 := (Nat.log2_lt (by omega)).mpr (by show ((n : Nat) : Int).natAbs < 1024; omega)
      omega
  refine ⟨rfl, by rw [PyData.depth]; exact Nat.le_refl _, ?_, ?_, ?_, rfl⟩
  · rw [PyData.weight]
    simpa using hl
  · rw [PyData.intsShort]
    exact shown_ints n (by omega)
  · rw [PyData.showable]
    refine decide_eq_true ?_
    by_cases e : n = 0
    · subst e
      decide
    · have : ((n : Nat) : Int).natAbs.log2 < 10 := (Nat.log2_lt (by omega)).mpr (by show ((n : Nat) : Int).natAbs < 1024; omega)
      omega
theorem Gd.shaped {d : PyData} {dep w : Nat} (h : Gd d dep w) (hd : dep ≤ 60) : SeqAt.shaped d = true := by
  unfold SeqAt.shaped
  rw [Bool.and_eq_true]
  have := h.dep
  exact ⟨h.lay, decide_eq_true (by omega)⟩
theorem Gd.len {d : PyData} {dep w : Nat} (h : Gd d dep w) (hd : dep ≤ 60) (hw : w ≤ 1000000) : d.shown.length ≤ sizeLine := by
  have h1 := h.dep
  have h2 := h.wt
  have hl : PyData.layable0 d = true := by
    unfold PyData.layable0
    rw [Bool.and_eq_true, Bool.and_eq_true]
    exact ⟨⟨h.lay, decide_eq_true (by omega)⟩, decide_eq_true (by omega)⟩
  exact Nat.le_trans (shown_le13 hl h.iss) (by decide)
/-! ### repr, where nothing is being shown -/
def rRepr (K : PySem.W.Frag) : List V → Hp → VK → Prop := fun vs H Q => ∃ (a : Addr) (d : PyData) (dep w : Nat), vs = [.ref a] ∧ Dp K H (.ref a) d ∧ Gd d dep w ∧ dep ≤ 60 ∧ w ≤ 1000000 ∧ Q (.str d.shown) H
theorem cr_repr {X : Cx} (hg : X.A.guards = some []) (hu : X.A.units + 64 < cLine) : CallR X (.builtin "repr") (rRepr X.K) := by
  intro pins s σ H vs us Q I r h
  obtain ⟨a, d, dep, w, rfl, hd, hG, h60, hw, q⟩ := h
  obtain ⟨u, rfl, r1⟩ := vals1 r
  obtain ⟨as, hr⟩ := Dp.reads I d (.ref a) u hd r1
  obtain rfl : u = Value.ref a := r1
  have h1 := hG.dep
  exact repr_of_reads' hr hG.sh (PyData.noDict_hsm hG.nd) hg (by omega) (fun _ _ e => e) (fun h' t tk hk => ⟨.str d.shown, H, I.kept hk, ⟨_, rfl⟩, q⟩) (hG.len h60 hw)
/-! ### the data shown -/
def Ev.dat : Ev → PyData
  | .inn c => .tuple [.str "in", .str c]
  | .out => .tuple [.str "out"]
def strD (xs : List Str) : List PyData := xs.map PyData.str
def natD (ns : List Nat) : List PyData := ns.map fun n => PyData.int (n : Nat)
theorem dp_evs {K : PySem.W.Frag} {H : Hp} : ∀ {as : List Addr} {es : List Ev}, EvsAt K H as es → DpAll K H (as.map V.ref) (es.map Ev.dat)
  | _, _, .nil => .nil
  | _, .inn c :: r, .cons h t => .cons (.tup h (.cons (.str _) (.cons (.str _) .nil))) (dp_evs t)
  | _, .out :: r, .cons h t => .cons (.tup h (.cons (.str _) .nil)) (dp_evs t)
theorem gd_in : PyData.strOk "in" = true := by decide +kernel
theorem gd_out : PyData.strOk "out" = true := by decide +kernel
theorem gd_ev {e : Ev} (h : ∀ c, e = .inn c → carB c = true) : Gd e.dat 1 20 := by
  cases e with
  | inn c => exact (GdA.tuple (GdA.cons (Gd.str gd_in (by decide +kernel)) (GdA.cons (Gd.str (car_ok (h c rfl)) (carLen (h c rfl))) GdA.nil))).mono (Nat.le_refl _) (by decide)
  | out => exact (GdA.tuple (GdA.cons (Gd.str gd_out (by decide +kernel)) GdA.nil)).mono (Nat.le_refl _) (by decide)
theorem gd_strs {xs : List Str} (h : ∀ x ∈ xs, carB x = true) (hl : xs.length ≤ 1000) : GdA (strD xs) 0 5000 := by
  have a := GdA.map (f := PyData.str) (dep := 0) (w := 4) xs fun x hx => Gd.str (car_ok (h x hx)) (carLen (h x hx))
  exact ⟨a.lay, a.dep, Nat.le_trans a.wt (by omega), a.iss, a.sh, a.nd⟩
/-- a def's promise where nothing is being shown -/
structure FnG (P : Program) (w : World) (K : PySem.W.Frag) (mg : Str → Option Value) (base : Heap) (k : Nat) (f : Addr) (fd : FuncData) (ps : List Str) (sp : Sp) : Prop where
  len : ∀ vs H Q E, sp vs H Q E → vs.length = ps.length
  run : ∀ (A : Around) (outer : List Env) (s : Shared) (H : Hp) (args : Args) (us : List Value) (vs : List V) (Q : VK) (E : XK), Room k A → A.guards = some [] → Env0 P w K mg base A outer s H → BindsTo s fd args (ps.zip us) → Vals vs us → sp vs H Q E →
    codeAny (model P w) A (.call (.ref f) args) (CR CX0 outer P w H s Q E) s
theorem FnG.of {P : Program} {w : World} {K : PySem.W.Frag} {mg : Str → Option Value} {base : Heap} {k : Nat} {f : Addr} {fd : FuncData} {ps : List Str} {sp : Sp} (F : FnOk P w K mg base CX0 k f fd ps sp) : FnG P w K mg base k f fd ps sp := ⟨F.len, fun A outer s H args us vs Q E hr _ e0 hb r h => F.run A outer s H args us vs Q E hr e0 hb r h⟩
section
variable {P : Program} {w : World} {K : PySem.W.Frag} {mg : Str → Option Value} {base : Heap}
theorem Fun.okG {x qual : Str} {st : Stmt} {f : Addr} {fd : FuncData} {N ps : List Str} {k : Nat} {sp : Sp} (F : Fun K x qual st f fd) (S : FnScope N ps (defScope st)) (len : ∀ vs H Q E, sp vs H Q E → vs.length = ps.length)
    (hbody : ∀ (cdv : Value) (A : Around) (outer : List Env) (s : Shared) (H : Hp) (vs : List V) (Q : VK) (E : XK), Room k (A.deeper (envOfC qual (defScope st) s.heap.objs.size f cdv)) → A.guards = some [] → sp vs H Q E →
      ∃ t, PSs (cxOf CX0 P w K mg base N qual (defScope st) f cdv A outer s H E).nox (defBody st) t ∧ t { nx := fun _ H' => Q .non H', rt := Q } (start N vs) H) : FnG P w K mg base (k + 1) f fd ps sp := by
  obtain ⟨oc, od, kV, doc, pm, an, cdv, ct, osl, rfl, lk, hcd⟩ := F.ex
  refine ⟨len, fun A outer s H args us vs Q E hr hgd e0 hb r hsp => ?_⟩
  have KX : K.In s.heap := e0.mod.kin.keeps fun b o e => (e0.bs b o e).1
  have lim : s.heap.NoLimit := e0.mod.nolimit.keeps fun b o e => (e0.bs b o e).1
  have kinds : ∀ y ∈ ps.zip us, (defScope st).names.lookup y.1 = some .local ∨ ((defScope st).names.lookup y.1 = some .cell ∧ ((cellsFrom (s.heap.objs.size + 1) (defScope st).names []).lookup y.1).isSome = true) := by
    rintro ⟨n, v⟩ hy
    rcases S.par n (List.of_mem_zip hy).1 with q | q
    · exact .inl q
    · exact .inr ⟨q, PySem.W.cellsFrom_some _ _ _ (.inl q)⟩
  refine codeAny_call_function hr.depth (KX _ _ lk) rfl S.co S.gen rfl (PySem.W.codeRec_of KX hcd) (hb _ _ _ _ ?_)
  refine wpAny_newFunctionEnv_cells S.kind kinds fun env he s1 x1 => ?_
  subst he
  refine ⟨lim.keeps x1.toInCall.keep, codeAny_func ?_⟩
  obtain ⟨t, ht, hq⟩ := hbody cdv A outer s H vs Q E (hr.deeper _) hgd hsp
  have I : Inv (cxOf CX0 P w K mg base N qual (defScope st) f cdv A outer s H E) [] (start N vs) H s1 := inv_start S hr.hd e0 (len _ _ _ _ hsp) r x1
  refine wpAny_mono (ht.nox.run [] s1 (start N vs) H _ I hq) (fun fl s' hs => ?_) fun e s' hs => hs
  match fl, hs with
  | .ret u, ⟨v, σ', H', J, rv, q⟩ => exact ⟨v, H', J.os, J.bare, J.base, J.hok, rv, q⟩
  | .next, ⟨σ', H', J, q⟩ => exact ⟨.non, H', J.os, J.bare, J.base, J.hok, rfl, q⟩
  | .brk, ⟨_, _, _, q⟩ => exact False.elim q
  | .cont, ⟨_, _, _, q⟩ => exact False.elim q
end
section
variable {X : Cx} {k : Nat} {f : Addr} {fd : FuncData} {ps : List Str} {sp : Sp} {x : Str} {p pos : Pos} {e : Expr} {es : List Expr} {t : TA}
theorem pe_callG (F : FnG X.prog X.w X.K X.mg X.base k f fd ps sp) (hr : Room k X.A) (hgd : X.A.guards = some []) (hg : Gl X x) (hm : X.mg x = some (.ref f)) (hk : PySem.W.keepIn X.K (.ref f) = true) (hb : Binds X.K fd ps [])
    (ha : PA X (e :: es) t) (hdb : (x == ("__debug__" : Str)) = false := by decide) (he : starEach (e :: es) X.env = (false, eval e X.env) :: starEach es X.env := by rfl) (hpl : (backTo pos (starEach es X.env)).any (·.1) = false := by rfl) :
    PE X (.Call (.Name x p) (e :: es) [] pos) (tCall sp [] E0 t) := by
  refine ⟨fun pins s σ H Q I h => wpAny_Call_Name_kw (ld_glob I hg hm ?_ hdb)⟩
  refine PySem.W.callWith_K (h₀ := X.base) I.ok.mod.kin hk (thn (ha.run pos pins s σ H _ I h) fun us s1 ⟨vs, H1, I1, r, q⟩ => ⟨I1.kIn, ?_⟩) he hpl
  have q : sp (vs ++ []) H1 Q E0 := q
  rw [List.append_nil] at q
  have hl : (us ++ []).length = ps.length := by
    rw [List.append_nil, ← r.length]
    exact F.len _ _ _ _ q
  have hbt := hb s1 us I1.kIn hl
  rw [List.append_nil] at hbt
  refine wpAny_call (codeAny_mono (F.run X.A X.stack s1 H1 ⟨us, []⟩ us vs Q E0 hr hgd I1.env0 hbt r q) fun rr s' hq => ?_)
  match rr, hq with
  | .error e, hq => exact False.elim hq
  | .ok (.ret u), hq => exact I1.after hq
  | .ok .next, hq => exact False.elim hq
  | .ok .brk, hq => exact False.elim hq
  | .ok .cont, hq => exact False.elim hq
end
end Ln


set_option Elab.async false
set_option linter.all false
set_option maxRecDepth 100000
set_option maxHeartbeats 2000000
namespace Ln
open PySem PySem.Spec PyProof.Rows L2 GxR
/-! ### repr of values of any plain kind, an empty dict among them -/
structure Rp (d : PyData) (dep wt : Nat) : Prop where
  sh : d.showable = true
  dep : d.depth ≤ dep
  wt : d.weight ≤ wt
  lv : d.leavesShort 13 = true
structure RpA (ds : List PyData) (dep wt : Nat) : Prop where
  sh : PyData.showableAll ds = true
  dep : PyData.depthAll ds ≤ dep
  wt : PyData.weightAll ds ≤ wt
  lv : PyData.leavesShortAll 13 ds = true
def rpB (d : PyData) (dep wt : Nat) : Bool := d.showable && decide (d.depth ≤ dep) && decide (d.weight ≤ wt) && d.leavesShort 13
theorem Rp.dec {d : PyData} {dep wt : Nat} (h : rpB d dep wt = true) : Rp d dep wt := by
  unfold rpB at h
  simp only [Bool.and_eq_true, decide_eq_true_eq] at h
  exact ⟨h.1.1.1, h.1.1.2, h.1.2, h.2⟩
def rpaB (ds : List PyData) (dep wt : Nat) : Bool := PyData.showableAll ds && decide (PyData.depthAll ds ≤ dep) && decide (PyData.weightAll ds ≤ wt) && PyData.leavesShortAll 13 ds
theorem RpA.dec {ds : List PyData} {dep wt : Nat} (h : rpaB ds dep wt = true) : RpA ds dep wt := by
  unfold rpaB at h
  simp only [Bool.and_eq_true, decide_eq_true_eq] at h
  exact ⟨h.1.1.1, h.1.1.2, h.1.2, h.2⟩
theorem RpA.nil {dep : Nat} : RpA [] dep 0 := ⟨rfl, Nat.zero_le _, Nat.le_refl _, rfl⟩
theorem RpA.cons {d : PyData} {ds : List PyData} {dep w1 w2 : Nat} (a : Rp d dep w1) (b : RpA ds dep w2) : RpA (d :: ds) dep (w1 + 1 + w2) := by
  refine ⟨?_, ?_, ?_, ?_⟩
  · rw [PyData.showableAll, a.sh, b.sh]
    rfl
  · have := a.dep
    have := b.dep
    rw [PyData.depthAll]
    omega
  · have := a.wt
    have := b.wt
    rw [PyData.weightAll]
    omega
  · rw [PyData.leavesShortAll, a.lv, b.lv]
    rfl
theorem RpA.mono {ds : List PyData} {a b u v : Nat} (h : RpA ds a u) (h1 : a ≤ b) (h2 : u ≤ v) : RpA ds b v := ⟨h.sh, Nat.le_trans h.dep h1, Nat.le_trans h.wt h2, h.lv⟩
theorem Rp.mono {d : PyData} {a b u v : Nat} (h : Rp d a u) (h1 : a ≤ b) (h2 : u ≤ v) : Rp d b v := ⟨h.sh, Nat.le_trans h.dep h1, Nat.le_trans h.wt h2, h.lv⟩
theorem RpA.app {ds es : List PyData} {dep w1 w2 : Nat} (a : RpA ds dep w1) (b : RpA es dep w2) : RpA (ds ++ es) dep (w1 + w2) := by
  induction ds generalizing w1 with
  | nil => exact b.mono (Nat.le_refl _) (Nat.le_add_left _ _)
  | cons d r ih =>
    have s := a.sh
    have l := a.lv
    have dp := a.dep
    have w := a.wt
    rw [PyData.showableAll, Bool.and_eq_true] at s
    rw [PyData.leavesShortAll, Bool.and_eq_true] at l
    rw [PyData.depthAll] at dp
    rw [PyData.weightAll] at w
    have h := RpA.cons (dep := dep) (w1 := d.weight) ⟨s.1, by omega, Nat.le_refl _, l.1⟩ (ih (w1 := PyData.weightAll r) ⟨s.2, by omega, Nat.le_refl _, l.2⟩)
    exact h.mono (Nat.le_refl _) (by omega)
theorem RpA.list {ds : List PyData} {dep w : Nat} (a : RpA ds dep w) : Rp (.list ds) (dep + 1) w :=
  ⟨by rw [PyData.showable]; exact a.sh, by rw [PyData.depth]; exact Nat.succ_le_succ a.dep, by rw [PyData.weight]; exact a.wt, by rw [PyData.leavesShort]; exact a.lv⟩
theorem RpA.tuple {ds : List PyData} {dep w : Nat} (a : RpA ds dep w) : Rp (.tuple ds) (dep + 1) w :=
  ⟨by rw [PyData.showable]; exact a.sh, by rw [PyData.depth]; exact Nat.succ_le_succ a.dep, by rw [PyData.weight]; exact a.wt, by rw [PyData.leavesShort]; exact a.lv⟩
theorem Rp.gd {d : PyData} {dep w : Nat} (h : Gd d dep w) : Rp d dep w := ⟨h.sh, h.dep, h.wt, PyData.leavesShort_of_canLay0 13 d h.lay h.iss⟩
theorem RpA.map {α : Type} {f : α → PyData} {dep w : Nat} : ∀ (xs : List α), (∀ x ∈ xs, Rp (f x) dep w) → RpA (xs.map f) dep (xs.length * (w + 1))
  | [], _ => by
    rw [List.length_nil, Nat.zero_mul]
    exact .nil
  | x :: r, h => by
    have a := RpA.cons (h x List.mem_cons_self) (RpA.map r fun y hy => h y (List.mem_cons_of_mem _ hy))
    rw [List.length_cons, Nat.succ_mul, Nat.add_comm]
    exact a
theorem RpA.rep {d : PyData} {dep w : Nat} (h : Rp d dep w) : ∀ n : Nat, RpA (List.replicate n d) dep (n * (w + 1))
  | 0 => by
    rw [Nat.zero_mul]
    exact .nil
  | n + 1 => by
    have a := RpA.cons h (RpA.rep h n)
    rw [List.replicate_succ, Nat.succ_mul, Nat.add_comm]
    exact a
theorem Rp.len {d : PyData} {dep w : Nat} (h : Rp d dep w) (hw : w ≤ 1000000) : d.shown.length ≤ sizeLine := by
  have h1 := PyData.shown_le 13 (by decide) d h.lv
  have h2 := h.wt
  rw [sizeLine_eq]
  omega
theorem rp_str {x : Str} (h : carB x = true) : Rp (.str x) 0 4 := Rp.gd (Gd.str (car_ok h) (carLen h))
theorem rp_strs {xs : List Str} (h : ∀ x ∈ xs, carB x = true) (hl : xs.length ≤ 1000) : RpA (xs.map PyData.str) 4 5000 := (RpA.map xs fun x hx => rp_str (h x hx)).mono (by decide) (by omega)
theorem rp_evs {es : List Ev} (h : ∀ c, Ev.inn c ∈ es → carB c = true) (hl : es.length ≤ 200) : RpA (es.map Ev.dat) 4 5000 := (RpA.map es fun e he => Rp.gd (gd_ev fun c z => h c (z ▸ he))).mono (by decide) (by omega)
theorem rpT {X B : List PyData} (hX : RpA X 4 5000) (hB : RpA B 4 1000) : Rp (.tuple (X ++ B)) 5 10000 := (RpA.app hX hB).tuple.mono (by decide) (by decide)
theorem rpL {X B : List PyData} (hX : RpA X 4 5000) (hB : RpA B 4 1000) : Rp (.list (X ++ B)) 5 10000 := (RpA.app hX hB).list.mono (by decide) (by decide)
section
variable {X : Cx} {pins : List (Addr × Obj)} {σ : L2.St} {H : Hp} {s : Shared}
mutual
theorem Dv.repk (I : Inv X pins σ H s) : ∀ (d : PyData) (v : V) (u : Value), Dv X.K H v d → RelV v u → d.showable = true → d.shown.length ≤ sizeLine →
    (∃ as, Reads s.heap u d as) ∧ ∃ bs, ReadAtMost s.heap d.depth bs ∧ ReprK X.prog X.w bs s.heap d.depth u d.shown
  | .none, _, _, h, r, _, _ => by
    cases h
    cases r
    exact ⟨⟨_, Reads.none⟩, [], fun _ z => (nomatch z), by rw [PyData.shown]; exact .of_is ReprIs.none _ _ _⟩
  | .bool b, _, _, h, r, _, _ => by
    cases h
    cases r
    exact ⟨⟨_, Reads.bool b⟩, [], fun _ z => (nomatch z), by rw [PyData.shown]; exact .of_is (ReprIs.bool b) _ _ _⟩
  | .int i, _, _, h, r, hs, _ => by
    cases h
    obtain ⟨t, rfl⟩ := r
    exact ⟨⟨_, Reads.int i t⟩, [], fun _ z => (nomatch z), by rw [PyData.shown]; exact .of_is (ReprIs.int t (by rw [PyData.showable] at hs; exact of_decide_eq_true hs)) _ _ _⟩
  | .str x, _, _, h, r, _, hz => by
    cases h
    obtain ⟨t, rfl⟩ := r
    exact ⟨⟨_, Reads.str x t⟩, [], fun _ z => (nomatch z), by rw [PyData.shown] at hz ⊢; exact .of_is (ReprIs.str x t hz) _ _ _⟩
  | .list ds, _, _, h, r, hs, hz => by
    cases h with
    | lst hq ha =>
      cases r
      obtain ⟨its, rv, ⟨o, n, ho, hc, _, hd⟩, _⟩ := I.list hq
      rw [PyData.showable] at hs
      rw [PyData.shown] at hz
      obtain ⟨⟨as, hr⟩, bs, hb, hk⟩ := DvAll.repk I ds _ its ha rv hs fun t ht => Nat.le_trans (listText_mem_le ht) hz
      have rd := Reads.list ho hc hd hr
      have hna := not_mem_of_deeper rd (n := PyData.depthAll ds) (by rw [PyData.depth]; omega) hb
      refine ⟨⟨_, rd⟩, _ :: bs, ReadAtMost.cons rd (by rw [PyData.depth]; omega) hb, ?_⟩
      rw [PyData.depth, PyData.shown]
      cases its with
      | nil =>
        cases hr
        rw [PyData.shownAll, listText_nil]
        exact ReprK.listEmpty ho hc hd
      | cons y l => exact ReprK.list ho hc hd hna (by simpa using hk.length_eq) fun i y e => hk.item i y (by simpa using e)
  | .tuple ds, _, _, h, r, hs, hz => by
    cases h with
    | tup hq ha =>
      cases r
      obtain ⟨its, rv, ⟨o, ho, hc, n, hd⟩, _⟩ := I.tuple hq
      rw [PyData.showable] at hs
      rw [PyData.shown] at hz
      obtain ⟨⟨as, hr⟩, bs, hb, hk⟩ := DvAll.repk I ds _ its ha rv hs fun t ht => Nat.le_trans (tupleText_mem_le ht) hz
      have rd := Reads.tuple ho hc hd hr
      have hna := not_mem_of_deeper rd (n := PyData.depthAll ds) (by rw [PyData.depth]; omega) hb
      refine ⟨⟨_, rd⟩, _ :: bs, ReadAtMost.cons rd (by rw [PyData.depth]; omega) hb, ?_⟩
      rw [PyData.depth, PyData.shown]
      exact ReprK.tuple ho hc hd hna hk
  | .dict kvs, _, _, h, r, hs, hz => by
    cases h with
    | dic e =>
      cases r
      obtain ⟨_, hsys, vs, kv, o, es, ep, ho, hx, hd, _, hp, _⟩ := dk_of I.hok e
      have e0 : vs = [] := by cases kv; rfl
      subst e0
      have e1 : es.toList = [] := by
        cases q : es.toList with
        | nil => rfl
        | cons a b =>
          rw [q] at hp
          cases hp
      have rd : Reads s.heap (.ref _) (.dict []) _ := Reads.dict (es := es) ho hx.1 hd (by rw [e1]; exact .nil) (by rw [e1]; exact .nil)
      refine ⟨⟨_, rd⟩, [_], ReadAtMost.cons rd (Nat.le_refl _) (fun _ z => nomatch z), ?_⟩
      rw [PyData.depth, PyData.shown]
      exact ReprK.dict ho hx.1 hd hsys (fun z => nomatch z) (by rw [e1]; exact .nil)
theorem DvAll.repk (I : Inv X pins σ H s) : ∀ (ds : List PyData) (vs : List V) (us : List Value), DvAll X.K H vs ds → Vals vs us → PyData.showableAll ds = true → (∀ t ∈ PyData.shownAll ds, t.length ≤ sizeLine) →
    (∃ as, ReadsAll s.heap us ds as) ∧ ∃ bs, ReadAtMost s.heap (PyData.depthAll ds) bs ∧ ReprAllK X.prog X.w bs s.heap (PyData.depthAll ds) us (PyData.shownAll ds)
  | [], _, _, h, r, _, _ => by
    cases h
    cases r
    exact ⟨⟨_, ReadsAll.nil⟩, [], fun _ z => (nomatch z), by rw [PyData.shownAll]; exact .nil⟩
  | d :: ds, _, _, h, r, hs, hz => by
    cases h with
    | cons h1 h2 =>
      cases r with
      | cons r1 r2 =>
        rw [PyData.showableAll, Bool.and_eq_true] at hs
        rw [PyData.shownAll] at hz
        obtain ⟨⟨as, q1⟩, b1, hb1, k1⟩ := Dv.repk I d _ _ h1 r1 hs.1 (hz _ List.mem_cons_self)
        obtain ⟨⟨bs, q2⟩, b2, hb2, k2⟩ := DvAll.repk I ds _ _ h2 r2 hs.2 fun t ht => hz t (List.mem_cons_of_mem _ ht)
        refine ⟨⟨_, ReadsAll.cons q1 q2⟩, b1 ++ b2, fun b hm => ?_, ?_⟩
        · rw [PyData.depthAll]
          rcases List.mem_append.mp hm with hm | hm
          · obtain ⟨d', as', r', h'⟩ := hb1 b hm
            exact ⟨d', as', r', Nat.le_trans h' (Nat.le_max_left _ _)⟩
          · obtain ⟨d', as', r', h'⟩ := hb2 b hm
            exact ⟨d', as', r', Nat.le_trans h' (Nat.le_max_right _ _)⟩
        · rw [PyData.depthAll, PyData.shownAll]
          exact .cons ((k1.more fun b hb => List.mem_append_left _ hb).level_le (Nat.le_max_left _ _)) (k2.more_le (fun b hb => List.mem_append_right _ hb) (Nat.le_max_right _ _))
end
/-- repr of a list, where nothing is being shown -/
def rReprD (K : PySem.W.Frag) : List V → Hp → VK → Prop := fun vs H Q => ∃ (a : Addr) (ds : List PyData) (dep w : Nat), vs = [.ref a] ∧ Dv K H (.ref a) (.list ds) ∧ RpA ds dep w ∧ dep ≤ 50 ∧ w ≤ 1000000 ∧ Q (.str (PyData.shown (.list ds))) H
theorem cr_reprD (hg : X.A.guards = some []) (hu : X.A.units + 64 < cLine) : CallR X (.builtin "repr") (rReprD X.K) := by
  intro pins s σ H vs us Q I r h
  obtain ⟨a, ds, dep, w, rfl, hd, hG, h60, hw, q⟩ := h
  obtain ⟨u, rfl, r1⟩ := vals1 r
  obtain rfl : u = Value.ref a := r1
  have hL := hG.list
  have hz := hL.len hw
  have hdp := hG.dep
  rw [PyData.shown] at hz
  cases hd with
  | lst hq ha =>
    obtain ⟨its, rv, ⟨o, n, ho, hc, _, hd⟩, _⟩ := I.list hq
    obtain ⟨⟨as, hr⟩, bs, hb, hk⟩ := DvAll.repk I ds _ its ha rv hG.sh fun t ht => Nat.le_trans (listText_mem_le ht) hz
    have rd := Reads.list ho hc hd hr
    have hna := not_mem_of_deeper rd (n := PyData.depthAll ds) (by rw [PyData.depth]; omega) hb
    refine call_repr_slot (by omega) (show s.TypeIs (.ref a) "list" from ⟨o, ho, hc⟩) F.slot_list_repr.toG ?_
    have fin : ∀ (h' : Heap) (u : Tok) (tk : _), (∀ b o, s.heap.get? b = some o → h'.get? b = some o) → EP X pins σ Q (.str (PyData.shown (.list ds)) u) { s with heap := h', toks := tk } := fun h' u tk hk => ⟨.str _, H, I.kept hk, ⟨_, rfl⟩, q⟩
    rw [PyData.shown] at fin
    cases its with
    | nil =>
      cases hr
      rw [PyData.shownAll, listText_nil] at fin
      exact call_list_repr_empty ⟨o, ho, hc⟩ ho hd ⟨_, _, rfl, fin s.heap _ _ fun _ _ e => e⟩
    | cons y l =>
      exact call_list_reprK ho hc hd hna (by simpa using hk.length_eq) (fun i y e => hk.item i y (by simpa using e)) hg (fun b _ => Clear.nil b) (by show X.A.units + 1 + (PyData.depthAll ds + 1) < cLine; omega) (fun _ _ e => e) (fun h' u tk hk => ⟨_, _, rfl, fin h' u tk hk⟩) hz
end
end Ln


set_option Elab.async false
set_option linter.all false
set_option maxRecDepth 100000
set_option maxHeartbeats 4000000
namespace Ln
open PySem PySem.Spec PyProof.Rows L2
/-! ### x in t, x a text, t of values of any plain kind -/
theorem dict_declines (l : Addr) (es : Array DictEntry) (n : Nat) (dd : Option Addr) (sl : Array (Option Value)) (b : Str) (u : Tok) :
    Meets (Builtin.«dict.__eq__» ⟨[.ref l, .str b u], []⟩) (fun _ R s => s.heap.get? l = some { cls := .type "dict", dict := dd, data := .dict es n, slots := sl } ∧ R (.ok (.ret .notImplemented)) s) :=
  .of_wp fun prog w A R s h => by
    obtain ⟨hp, g, d, tk, os⟩ := s
    obtain ⟨hl, h⟩ := h
    have f1 := F.sub_str_dict
    wp_walk using wpAny_loadPart' hl, wpAny_load hl
    all_goals exact ⟨_, rfl, h⟩
theorem str_declines_dict (b : Str) (u : Tok) (l : Addr) (es : Array DictEntry) (n : Nat) (dd : Option Addr) (sl : Array (Option Value)) :
    Meets (Builtin.«str.__eq__» ⟨[.str b u, .ref l], []⟩) (fun _ R s => s.heap.get? l = some { cls := .type "dict", dict := dd, data := .dict es n, slots := sl } ∧ R (.ok (.ret .notImplemented)) s) :=
  .of_wp fun prog w A R s h => by
    obtain ⟨hp, g, d, tk, os⟩ := s
    obtain ⟨hl, h⟩ := h
    wp_walk using wpAny_loadPart' hl, wpAny_load hl
    all_goals exact ⟨_, rfl, h⟩
section
variable {A : Around} {s : Shared}
theorem rcAt_dict_str {l : Addr} {es : Array DictEntry} {n : Nat} {dd : Option Addr} {sl : Array (Option Value)} (b : Str) (u : Tok) (ho : s.heap.get? l = some { cls := .type "dict", dict := dd, data := .dict es n, slots := sl }) (hu : A.units < cLine) : SeqAt.RcAt A s (.ref l) (.str b u) false := fun prog w E Q h =>
  SeqAt.rc_eq_decline_or (k := false) ⟨_, ho, rfl⟩ (typeIs_str s b u) (by decide) F.sub_str_dict F.slot_dict_eq F.slot_str_eq_refl
    (fun _ hq => call_meets F.slot_dict_eq ⟨_, ho, rfl⟩ F.entry_dict_eq (F.args_dict_eq_2 _ _) (dict_declines l es n dd sl b u) ⟨ho, hq⟩)
    (fun _ hq => call_meets F.slot_str_eq_refl (typeIs_str s b u) F.entry_str_eq (F.args_str_eq_2 _ _) (str_declines_dict b u l es n dd sl) ⟨ho, hq⟩)
    (fun _ hq => wpAny_of_eq (rfl : isSame (.ref l) (.str b u) = pure false) hq) (.inr hu) h
theorem eqAt_dict_str {l : Addr} {es : Array DictEntry} {n : Nat} {dd : Option Addr} {sl : Array (Option Value)} (b : Str) (u : Tok) (ho : s.heap.get? l = some { cls := .type "dict", dict := dd, data := .dict es n, slots := sl }) (hu : A.units < cLine) : SeqAt.EqAt A s (.ref l) (.str b u) false := fun prog w E Q h => by
  unfold eqBool
  refine wpAny_holding ?_
  refine wpAny_ite_split (fun hab => absurd (eq_of_beq hab) nofun) (fun _ => ?_)
  exact wpAny_bind (rcAt_dict_str b u ho hu prog w E _ (wpAny_truthy_bool h))
end
/-- the text z itself -/
def eqS (z : Str) : PyData → Bool
  | .str x => x == z
  | _ => false
def eqSU (z : Str) : Value → Bool
  | .str x _ => x == z
  | _ => false
section
variable {X : Cx} {pins : List (Addr × Obj)} {σ : L2.St} {H : Hp} {s : Shared}
theorem dv_eqS {z : Str} {v : V} {d : PyData} {u : Value} (h : Dv X.K H v d) (r : RelV v u) : eqSU z u = eqS z d := by
  cases h with
  | non => cases r; rfl
  | bl b => cases r; rfl
  | int i => obtain ⟨t, rfl⟩ := r; rfl
  | str x _ => obtain ⟨t, rfl⟩ := r; rfl
  | lst _ _ => cases r; rfl
  | tup _ _ => cases r; rfl
  | dic _ => cases r; rfl
theorem dv_eqAt (I : Inv X pins σ H s) {A : Around} (hu : A.units < cLine) {z : Str} {t : Tok} {v : V} {d : PyData} {u : Value} (h : Dv X.K H v d) (r : RelV v u) : SeqAt.EqAt A s u (.str z t) (eqSU z u) := by
  cases h with
  | non => cases r; exact SeqAt.EqAt.none_str z t
  | bl b => cases r; exact SeqAt.EqAt.bool_str b z t
  | int i => obtain ⟨t', rfl⟩ := r; exact SeqAt.EqAt.int_str i t' z t
  | str x _ => obtain ⟨t', rfl⟩ := r; exact SeqAt.EqAt.str_str x t' z t
  | lst hq _ =>
    cases r
    obtain ⟨its, _, pl, _⟩ := I.list hq
    exact SeqAt.EqAt.list_str z t pl.isList hu
  | tup hq _ =>
    cases r
    obtain ⟨its, _, pl, _⟩ := I.tuple hq
    exact SeqAt.EqAt.tuple_str z t pl hu
  | dic e =>
    cases r
    obtain ⟨_, _, vs, _, ⟨oc, od, odt, osl⟩, es, ep, ho, hx, hd, _⟩ := dk_of I.hok e
    have hx := hx.1
    simp only at hx hd
    subst hx hd
    exact eqAt_dict_str z t ho hu
theorem dv_anyS {z : Str} : ∀ {vs : List V} {ds : List PyData} {us : List Value}, DvAll X.K H vs ds → Vals vs us → us.any (eqSU z) = ds.any (eqS z)
  | _, _, _, .nil, .nil => rfl
  | _, _, _, .cons a b, .cons r t => by rw [List.any_cons, List.any_cons, dv_eqS a r, dv_anyS b t]
theorem dv_memS (I : Inv X pins σ H s) {A : Around} (hu : A.units < cLine) {z : Str} {t : Tok} : ∀ {vs : List V} {ds : List PyData} {us : List Value}, DvAll X.K H vs ds → Vals vs us → ∀ u ∈ us, SeqAt.EqAt A s u (.str z t) (eqSU z u)
  | _, _, _, .nil, .nil => fun u hu => nomatch hu
  | _, _, _, .cons a b, .cons r t => fun u hm => by
    rcases List.mem_cons.mp hm with rfl | hm
    · exact dv_eqAt I hu a r
    · exact dv_memS I hu b t u hm
def rInV (K : PySem.W.Frag) : R2 := fun x y H Q => ∃ (p : Addr) (xs : List V) (ds : List PyData) (z : Str), x = .str z ∧ y = .ref p ∧ SqT K H p xs ∧ DvAll K H xs ds ∧ Q (.bl (ds.any (eqS z))) H
/-- z in t -/
theorem op_inDv (hu : X.A.units + 64 < cLine) : OpR X (compareOp .In) (rInV X.K) := by
  intro pins s σ H x y v u Q I rx ry h
  obtain ⟨p, xs, ds, z, rfl, rfl, hq, hA, q⟩ := h
  cases ry
  obtain ⟨t, rfl⟩ := rx
  obtain ⟨its, r, pl, hz⟩ := I.tuple hq
  refine SeqAt.in_tupleAt (eqSU z) pl (fun w hw => dv_memS I (by show X.A.units + 1 < cLine; omega) hA r w (by simpa using hw)) ⟨.bl _, H, I, rfl, ?_⟩
  rw [show its.toArray.any (eqSU z) = its.any (eqSU z) by simp, dv_anyS hA r]
  exact q
end
end Ln


set_option Elab.async false
set_option linter.all false
set_option maxRecDepth 100000
set_option maxHeartbeats 2000000
namespace Ln
open PySem
/-! ### what is no log -/
def outD : PyData := .tuple [.str "out"]
def innD (c : Str) : PyData := .tuple [.str "in", .str c]
theorem dep_inn (c : Str) : depBD (innD c) = false := rfl
theorem arr_inn (c : Str) : arrBD (innD c) = carB c := by
  show (decide (("in" : Str) = "in") && carB c) = carB c
  rw [decide_eq_true rfl, Bool.true_and]
theorem arr_out : arrBD outD = false := rfl
theorem dep_out : depBD outD = true := by
  show decide (("out" : Str) = "out") = true
  exact decide_eq_true rfl
theorem logW_inn {us : List Str} {m : Nat} {c : Str} {r : List PyData} (h : carB c = true) : logW us m (innD c :: r) = if ¬ c ∈ us then logW (c :: us) (m + 1) r else false := by
  rw [logW_cons, arr_inn, if_pos h]
  rfl
theorem logW_out {us : List Str} {m : Nat} {r : List PyData} : logW us m (outD :: r) = if 0 < m then logW us (m - 1) r else false := by
  rw [logW_cons, arr_out, if_neg Bool.false_ne_true, if_pos dep_out]
theorem logW_odd {us : List Str} {m : Nat} {d : PyData} {r : List PyData} (h1 : arrBD d = false) (h2 : depBD d = false) : logW us m (d :: r) = false := by
  rw [logW_cons, h1, h2, if_neg Bool.false_ne_true, if_neg Bool.false_ne_true]
/-- what is bad behind any start is bad behind a log -/
theorem logW_pre {r : List PyData} (h : ∀ us m, logW us m r = false) : ∀ (ds : List PyData) (us : List Str) (m : Nat), logW us m (ds ++ r) = false
  | [], us, m => h us m
  | d :: ds, us, m => by
    show logW us m (d :: (ds ++ r)) = false
    rw [logW_cons]
    split
    · cases carO d with
      | none => rfl
      | some c =>
        show (if ¬ c ∈ us then _ else false) = false
        split
        · exact logW_pre h ds _ _
        · rfl
    · split
      · split
        · exact logW_pre h ds _ _
        · rfl
      · rfl
theorem logW_outs {us : List Str} {r : List PyData} : ∀ n m : Nat, logW us (m + n) (List.replicate n outD ++ r) = logW us m r
  | 0, m => rfl
  | n + 1, m => by
    rw [List.replicate_succ]
    show logW us (m + (n + 1)) (outD :: (List.replicate n outD ++ r)) = _
    rw [logW_out, if_pos (by omega), show m + (n + 1) - 1 = m + n by omega]
    exact logW_outs n m
theorem bad_outs {us : List Str} {n : Nat} : logW us n (List.replicate (n + 1) outD) = false := by
  have h := logW_outs (us := us) (r := [outD]) n 0
  rw [Nat.zero_add, ← List.replicate_succ'] at h
  rw [h, logW_out, if_neg (by decide)]
theorem bad_back {us : List Str} {n : Nat} {c : Str} (hc : c ∈ us) (h : carB c = true) : logW us n (List.replicate n outD ++ [innD c]) = false := by
  have e := logW_outs (us := us) (r := [innD c]) n 0
  rw [Nat.zero_add] at e
  rw [e, logW_inn h, if_neg fun z => z hc]
theorem bad_twice {c : Str} (h : carB c = true) (us : List Str) (m : Nat) : logW us m [innD c, innD c] = false := by
  rw [logW_inn h]
  split
  · rw [logW_inn h, if_neg fun z => z List.mem_cons_self]
  · rfl
theorem bad_again {c : Str} (h : carB c = true) (us : List Str) (m : Nat) : logW us m [innD c, outD, innD c] = false := by
  rw [logW_inn h]
  split
  · rw [logW_out]
    split
    · rw [logW_inn h, if_neg fun z => z List.mem_cons_self]
    · rfl
  · rfl
theorem bad_car {c : Str} (h : carB c = false) (us : List Str) (m : Nat) (r : List PyData) : logW us m (innD c :: r) = false := logW_odd (by rw [arr_inn]; exact h) rfl
end Ln


set_option Elab.async false
set_option linter.all false
set_option maxRecDepth 100000
set_option maxHeartbeats 4000000
namespace Ln
open PySem PySem.Spec PyProof.Rows L2 GxR
/-! ### a law's own judges of any values -/
mutual
def okD : PyData → Bool
  | .str x => PyData.strOk x
  | .list ds => okDA ds
  | .tuple ds => okDA ds
  | _ => true
def okDA : List PyData → Bool
  | [] => true
  | d :: r => okD d && okDA r
end
theorem okDA_at : ∀ {ds : List PyData} {i : Nat} {d : PyData}, okDA ds = true → ds[i]? = some d → okD d = true
  | [], i, d, _, h => by simp at h
  | e :: r, 0, d, h, hd => by
    cases hd
    rw [okDA, Bool.and_eq_true] at h
    exact h.1
  | e :: r, i + 1, d, h, hd => by
    rw [okDA, Bool.and_eq_true] at h
    exact okDA_at (i := i) h.2 hd
/-- over a text -/
theorem lc_str {K : PySem.W.Frag} {z : Str} {g : TG} {tt : TT} {te : TE} {vs : List Nat} {σ : L2.St} {H1 : Hp} {D : Addr} {Qd : Hp → Prop} (Pv : Nat → Hp → Prop) (h0 : Pv 0 (upd H1 D (.lst [])))
    (hs : ∀ i c H, z.cps.toList[i]? = some c → Pv i H → g (.str ⟨#[c]⟩) (wipe σ vs) H fun σ2 H2 => wipe σ2 vs = wipe σ vs ∧ tt σ2 H2 fun b H3 =>
      if b = true then te σ2 H3 fun y H4 => ∃ acc, H4 D = some (.lst acc) ∧ acc.length < sizeLine ∧ Pv (i + 1) (upd H4 D (.lst (acc ++ [y]))) else Pv (i + 1) H3) (hd : ∀ H, Pv z.cps.size H → Qd H) :
    ∃ W : Nat → Nat → Hp → Prop, (∃ m, W 0 m (upd H1 D (.lst []))) ∧ ∀ i m H, W i m H →
      ((Its z).stop i H ∧ Qd H) ∨ ((Its z).go i H ∧ ∃ Nx : Hp → Prop, (∀ H', Nx H' → ∃ m', m' < m ∧ W (i + 1) m' H') ∧ ∀ x H', (Its z).yld i H x H' → g x (wipe σ vs) H' fun σ2 H2 => wipe σ2 vs = wipe σ vs ∧ tt σ2 H2 fun b H3 =>
        if b = true then te σ2 H3 fun y H4 => ∃ acc, H4 D = some (.lst acc) ∧ acc.length < sizeLine ∧ Nx (upd H4 D (.lst (acc ++ [y]))) else Nx H3) := by
  refine ⟨fun i m H => m = z.cps.size - i ∧ i ≤ z.cps.size ∧ Pv i H, ⟨z.cps.size, by simp, Nat.zero_le _, h0⟩, ?_⟩
  rintro i m H ⟨rfl, hi, p⟩
  by_cases hlt : i < z.cps.size
  · refine .inr ⟨hlt, Pv (i + 1), fun H' p' => ⟨z.cps.size - (i + 1), by omega, rfl, hlt, p'⟩, fun x H' y => ?_⟩
    obtain ⟨rfl, c, hc, rfl⟩ := y
    exact hs i c _ (by rw [Array.getElem?_toList]; exact hc) p
  · have e : i = z.cps.size := by omega
    subst e
    exact .inl ⟨Nat.le_refl _, hd H p⟩
def abcS : Str := "abcdefghijklmnopqrstuvwxyz"
theorem abc_iff (c : Nat) : decide (c ∈ abcS.cps.toList) = lowB c := by
  have e : abcS.cps.toList = (List.range 26).map (· + 97) := by decide +kernel
  rw [e]
  unfold lowB
  by_cases h : 97 ≤ c ∧ c ≤ 122
  · rw [decide_eq_true h.1, decide_eq_true h.2, decide_eq_true]
    · rfl
    · exact List.mem_map.mpr ⟨c - 97, List.mem_range.mpr (by omega), by omega⟩
  · rw [decide_eq_false]
    · by_cases a : 97 ≤ c
      · rw [decide_eq_false (show ¬ c ≤ 122 by omega), Bool.and_false]
      · rw [decide_eq_false a, Bool.false_and]
    · intro z
      obtain ⟨j, hj, rfl⟩ := List.mem_map.mp z
      have := List.mem_range.mp hj
      omega
theorem eqv_nilL (xs : List PyData) : PyData.eqv (.list xs) (.list []) = xs.isEmpty := by
  cases xs with
  | nil => decide +kernel
  | cons x r => simp [PyData.eqv, PyData.eqvAll]
theorem strsD_snoc : ∀ (ds : List PyData) (d : PyData), strsD (ds ++ [d]) = (strsD ds).bind fun xs => (strsD [d]).map (xs ++ ·)
  | [], d => by
    show strsD [d] = (strsD [d]).map fun y => y
    cases strsD [d] <;> rfl
  | .str x :: r, d => by
    show (strsD (r ++ [d])).map (x :: ·) = ((strsD r).map (x :: ·)).bind fun xs => (strsD [d]).map (xs ++ ·)
    rw [strsD_snoc r d]
    cases strsD r <;> cases strsD [d] <;> rfl
  | .none :: r, d => rfl
  | .bool _ :: r, d => rfl
  | .int _ :: r, d => rfl
  | .list _ :: r, d => rfl
  | .tuple _ :: r, d => rfl
  | .dict _ :: r, d => rfl
theorem strsD_any {z : Str} : ∀ {ds : List PyData} {xs : List Str}, strsD ds = some xs → ds.any (eqS z) = decide (z ∈ xs)
  | [], xs, h => by
    cases h
    rfl
  | .str x :: r, xs, h => by
    have h : (strsD r).map (x :: ·) = some xs := h
    cases e : strsD r with
    | none => rw [e] at h; cases h
    | some ys =>
      rw [e] at h
      cases h
      rw [List.any_cons, strsD_any e]
      show ((x == z) || decide (z ∈ ys)) = _
      by_cases q : z = x
      · subst q
        simp
      · have : (x == z) = false := by
          rw [beq_eq_false_iff_ne]
          exact Ne.symm q
        rw [this, Bool.false_or]
        exact decide_eq_decide.mpr ⟨fun h => List.mem_cons_of_mem _ h, fun h => (List.mem_cons.mp h).resolve_left q⟩
  | .none :: r, xs, h => by cases h
  | .bool _ :: r, xs, h => by cases h
  | .int _ :: r, xs, h => by cases h
  | .list _ :: r, xs, h => by cases h
  | .tuple _ :: r, xs, h => by cases h
  | .dict _ :: r, xs, h => by cases h
theorem laneB_snoc (xs : List Str) (z : Str) : laneB (xs ++ [z]) = (laneB xs && (carB z && !decide (z ∈ xs))) := by
  unfold laneB
  rw [List.all_append, Bool.eq_iff_iff]
  simp only [Bool.and_eq_true, List.all_cons, List.all_nil, Bool.and_true, decide_eq_true_eq, Bool.not_eq_true', decide_eq_false_iff_not, List.nodup_append, List.nodup_cons, List.mem_singleton]
  constructor
  · rintro ⟨⟨h1, h2⟩, h3, _, h4⟩
    exact ⟨⟨h1, h3⟩, h2, fun h => h4 z h z rfl rfl⟩
  · rintro ⟨⟨h1, h3⟩, h2, h4⟩
    exact ⟨⟨h1, h2⟩, h3, by simp, fun a ha b hb e => h4 (by rw [← hb, ← e]; exact ha)⟩
/-- one more part -/
theorem lane_snoc (ds : List PyData) (d : PyData) : laneD (.tuple (ds ++ [d])) = (laneD (.tuple ds) && (carD d && !(match d with | .str z => ds.any (eqS z) | _ => false))) := by
  show (match strsD (ds ++ [d]) with | some xs => laneB xs | none => false) = ((match strsD ds with | some xs => laneB xs | none => false) && _)
  rw [strsD_snoc]
  cases e : strsD ds with
  | none => rfl
  | some xs =>
    cases d with
    | str z =>
      show laneB (xs ++ [z]) = (laneB xs && (carB z && !ds.any (eqS z)))
      rw [laneB_snoc, strsD_any e]
    | _ => show false = (laneB xs && (false && _)); rw [Bool.false_and, Bool.and_false]
section
variable {P : Program} {w : World} {K : PySem.W.Frag} {mg : Str → Option Value} {base : Heap} {Ps : List Addr}
def spLawCar (K : PySem.W.Frag) : Sp := fun vs H Q _ => ∃ (v : V) (d : PyData), vs = [v] ∧ Dv K H v d ∧ okD d = true ∧ ∀ H', L2.Same H H' → Q (.bl (carD d)) H'
def spLawLane (K : PySem.W.Frag) : Sp := fun vs H Q _ => ∃ (v : V) (d : PyData), vs = [v] ∧ Dv K H v d ∧ okD d = true ∧ SzA d ∧ ∀ H', L2.Same H H' → Q (.bl (laneD d)) H'
theorem logW_no {us : List Str} {m : Nat} {d : PyData} {r : List PyData} (h1 : arrBD d = false) (h2 : depBD d = false) : logW us m (d :: r) = false := by
  rw [logW_cons, h1, h2, if_neg Bool.false_ne_true, if_neg Bool.false_ne_true]
theorem arr_non {e : PyData} {r : List PyData} (h : isStr e = false) : arrBD (.tuple (e :: r)) = false := by
  cases e with
  | str x => cases h
  | _ => rfl
theorem dep_non {e : PyData} {r : List PyData} (h : isStr e = false) : depBD (.tuple (e :: r)) = false := by
  cases e with
  | str x => cases h
  | _ => rfl
def spLawLog (K : PySem.W.Frag) : Sp := fun vs H Q _ => ∃ (t : Addr) (v : V) (xs : List Str) (d : PyData), vs = [.ref t, v] ∧ SqT K H t (xs.map V.str) ∧ xs.length ≤ 300 ∧ Dv K H v d ∧ okD d = true ∧ (∀ ds, d = .list ds → ds.length ≤ 600) ∧ ∀ H', L2.Same H H' → Q (.bl (logD xs d)) H'
end
end Ln


set_option Elab.async false
set_option linter.all false
set_option maxRecDepth 100000
set_option maxHeartbeats 4000000
namespace Ln
open PySem PySem.Spec PyProof.Rows L2 GxR
/-! ### values of any plain kind, read off several objects; odd values; bent values -/
def offB (H : Hp) (S : Addr → Bool) : Hp := fun b => if S b = true then none else H b
def Full (S : Addr → Bool) (H : Hp) : Prop := ∀ b, S b = true → H b ≠ none
theorem Full.same {S : Addr → Bool} {H H' : Hp} (h : Full S H) (k : L2.Same H H') : Full S H' := fun b hb z => h b hb (sm_none k z)
theorem Full.out {S : Addr → Bool} {H : Hp} {p : Addr} (h : Full S H) (hp : H p = none) : S p = false := by
  cases e : S p with
  | false => rfl
  | true => exact absurd hp (h p e)
theorem offB_at {H : Hp} {S : Addr → Bool} {b : Addr} (n : S b = false) : offB H S b = H b := by
  unfold offB
  rw [n]
  rfl
theorem offB_sub {H : Hp} {S : Addr → Bool} : L2.Same (offB H S) H := fun b o e => by
  unfold offB at e
  split at e
  · cases e
  · exact e
theorem off_mv {H H' : Hp} {S S' : Addr → Bool} (k : ∀ b o, H b = some o → S b = false → H' b = some o) (i : ∀ b, S' b = true → S b = true) : L2.Same (offB H S) (offB H' S') := fun b o e => by
  cases z : S b with
  | true =>
    unfold offB at e
    rw [z] at e
    cases e
  | false =>
    have z' : S' b = false := by
      cases y : S' b with
      | false => rfl
      | true => rw [i b y] at z; cases z
    rw [offB_at z] at e
    rw [offB_at z']
    exact k b o e z
theorem offB_sm {H H' : Hp} {S : Addr → Bool} (k : L2.Same H H') : L2.Same (offB H S) (offB H' S) := off_mv (fun b o e _ => k b o e) fun _ h => h
theorem offB_ch {s0 : Addr} {H H' : Hp} {S : Addr → Bool} (k : Ch s0 H H') (hs : S s0 = true) : L2.Same (offB H S) (offB H' S) := off_mv (fun b o e z => k b o e fun y => by rw [y, hs] at z; cases z) fun _ h => h
structure Bt2 (K : PySem.W.Frag) (S : Addr → Bool) (H : Hp) (v : V) (d : PyData) : Prop where
  dv : Dv K (offB H S) v d
  ls : ∀ ds, d = .list ds → ∃ (a : Addr) (xs : List V), v = .ref a ∧ H a = some (.lst xs) ∧ S a = false ∧ DvAll K (offB H S) xs ds
def EnvB (K : PySem.W.Frag) (S : Addr → Bool) (Γ : List (Nat × PyData)) (σ : L2.St) (H : Hp) : Prop := ∀ p ∈ Γ, ∃ v, σ[p.1]? = some (some v) ∧ Bt2 K S H v p.2
def tB2 (K : PySem.W.Frag) (S : Addr → Bool) (Γ : List (Nat × PyData)) (d : PyData) : TE := fun σ H Q => Full S H ∧ EnvB K S Γ σ H ∧ ∀ H' v, L2.Same H H' → Bt2 K S H' v d → Q v H'
def tBA (K : PySem.W.Frag) (S : Addr → Bool) (Γ : List (Nat × PyData)) (ds : List PyData) : TA := fun σ H Q => Full S H ∧ EnvB K S Γ σ H ∧ ∀ H' vs, L2.Same H H' → DvAll K (offB H' S) vs ds → Q vs H'
section
variable {K : PySem.W.Frag} {S : Addr → Bool} {H H' : Hp} {v : V} {d : PyData} {Γ : List (Nat × PyData)} {σ : L2.St}
theorem Bt2.same (h : Bt2 K S H v d) (k : L2.Same H H') : Bt2 K S H' v d := ⟨h.dv.same (offB_sm k), fun ds e => by
  obtain ⟨a, xs, e1, e2, n, dv⟩ := h.ls ds e
  exact ⟨a, xs, e1, k _ _ e2, n, dv.same (offB_sm k)⟩⟩
theorem Bt2.of (h : Dv K (offB H S) v d) (n : ∀ ds, d ≠ .list ds) : Bt2 K S H v d := ⟨h, fun ds e => absurd e (n ds)⟩
theorem EnvB.same (h : EnvB K S Γ σ H) (k : L2.Same H H') : EnvB K S Γ σ H' := fun p hp => let ⟨v, e, d⟩ := h p hp; ⟨v, e, d.same k⟩
theorem EnvB.nil : EnvB K S [] σ H := fun _ h => nomatch h
theorem EnvB.cons {i : Nat} (e : σ[i]? = some (some v)) (h : Bt2 K S H v d) (t : EnvB K S Γ σ H) : EnvB K S ((i, d) :: Γ) σ H := fun p hp => by
  rcases List.mem_cons.mp hp with rfl | hp
  · exact ⟨v, e, h⟩
  · exact t p hp
end
section
variable {X : Cx} {S : Addr → Bool} {Γ : List (Nat × PyData)} {d : PyData} {ds es : List PyData} {e : Expr} {el : List Expr} {pos : Pos}
theorem b_non {j : Nat} : PE X (.Constant .none j pos) (tB2 X.K S Γ .none) := pe_imp pe_non fun σ H Q ⟨_, _, q⟩ => q H _ sm_refl (.of .non fun _ z => nomatch z)
theorem b_int {j : Nat} {i : Int} : PE X (.Constant (.int i) j pos) (tB2 X.K S Γ (.int i)) := pe_imp pe_int fun σ H Q ⟨_, _, q⟩ => q H _ sm_refl (.of (.int i) fun _ z => nomatch z)
theorem b_of {i : Int} {t : TE} (h : PE X e t) (k : ∀ σ H Q, Q (.int i) H → t σ H Q) : PE X e (tB2 X.K S Γ (.int i)) := pe_imp h fun σ H Q ⟨_, _, q⟩ => k _ _ _ (q H _ sm_refl (.of (.int i) fun _ z => nomatch z))
theorem b_bl {j : Nat} {b : Bool} : PE X (.Constant (.bool b) j pos) (tB2 X.K S Γ (.bool b)) := pe_imp pe_bl fun σ H Q ⟨_, _, q⟩ => q H _ sm_refl (.of (.bl b) fun _ z => nomatch z)
theorem b_str {j : Nat} {x : Str} (h : decide (x.length ≤ 100) = true := by decide) : PE X (.Constant (.str x) j pos) (tB2 X.K S Γ (.str x)) := pe_imp pe_str fun σ H Q ⟨_, _, q⟩ => q H _ sm_refl (.of (.str x (by have := of_decide_eq_true h; rw [sizeLine_eq]; omega)) fun _ z => nomatch z)
theorem b_var {i : Nat} {x : Str} (h : PE X (.Name x pos) (tVar i)) (m : (i, d) ∈ Γ) : PE X (.Name x pos) (tB2 X.K S Γ d) := pe_imp h fun σ H Q ⟨_, en, q⟩ => let ⟨v, ev, dv⟩ := en _ m; ⟨v, ev, q H v sm_refl dv⟩
theorem ba_nil : PA X [] (tBA X.K S Γ []) := pa_imp pa_nil fun σ H Q ⟨_, _, q⟩ => q H [] sm_refl .nil
theorem ba_cons (h : PE X e (tB2 X.K S Γ d)) (t : PA X el (tBA X.K S Γ ds)) (hs : starEach (e :: el) X.env = (false, eval e X.env) :: starEach el X.env := by rfl) : PA X (e :: el) (tBA X.K S Γ (d :: ds)) :=
  pa_imp (pa_cons h t hs) fun σ H Q ⟨hs, en, q⟩ => ⟨hs, en, fun H1 v k dv => ⟨hs.same k, en.same k, fun H2 vs k2 dvs => q H2 _ (sm_trans k k2) (.cons (dv.same k2).dv dvs)⟩⟩
theorem b_lst (a : PA X el (tBA X.K S Γ ds)) (hl : decide (ds.length ≤ 900) = true := by exact rfl) : PE X (.List el pos) (tB2 X.K S Γ (.list ds)) :=
  pe_imp (pe_lst a) fun σ H Q ⟨hs, en, q⟩ => ⟨hs, en, fun H1 vs k dv => ⟨by have := of_decide_eq_true hl; rw [dv.len, sizeLine_eq]; omega, fun p hp => by
    have k2 : L2.Same H1 (upd H1 p (.lst vs)) := sm_new sm_refl hp
    have n : S p = false := (hs.same k).out hp
    have d2 := dv.same (offB_sm (S := S) k2)
    exact q _ _ (sm_trans k k2) ⟨.lst (SqL.of (by rw [offB_at n]; exact upd_same)) d2, fun es e => by cases e; exact ⟨p, vs, rfl, upd_same, n, d2⟩⟩⟩⟩
theorem b_tup {x1 : _} (a : PA X el (tBA X.K S Γ ds)) (hl : decide (ds.length ≤ 900) = true := by exact rfl) : PE X (.Tuple el x1 pos) (tB2 X.K S Γ (.tuple ds)) :=
  pe_imp (pe_tup a) fun σ H Q ⟨hs, en, q⟩ => ⟨hs, en, fun H1 vs k dv => ⟨by have := of_decide_eq_true hl; rw [dv.len, sizeLine_eq]; omega, fun p hp => by
    have k2 : L2.Same H1 (upd H1 p (.tup vs)) := sm_new sm_refl hp
    have n : S p = false := (hs.same k).out hp
    have d2 := dv.same (offB_sm (S := S) k2)
    exact q _ _ (sm_trans k k2) (.of (.tup (SqT.of (by rw [offB_at n]; exact upd_same)) d2) fun _ z => nomatch z)⟩⟩
theorem b_dic : PE X (.Dict [] [] pos) (tB2 X.K S Γ (.dict [])) := pe_imp pe_dnewK fun σ H Q ⟨hs, en, q⟩ p hp => by
  have k2 : L2.Same H (upd H p (.dK [])) := sm_new sm_refl hp
  have n : S p = false := hs.out hp
  exact q _ _ k2 (.of (.dic (by rw [offB_at n]; exact upd_same)) fun _ z => nomatch z)
theorem b_cat {a b : Expr} (ha : PE X a (tB2 X.K S Γ (.list ds))) (hb : PE X b (tB2 X.K S Γ (.list es))) (hl : ds.length + es.length ≤ 10000) : PE X (.BinOp a .Add b pos) (tB2 X.K S Γ (.list (ds ++ es))) :=
  pe_imp (pe_op op_cat ha hb) fun σ H Q ⟨hs, en, q⟩ => ⟨hs, en, fun H1 v1 k1 d1 => ⟨hs.same k1, en.same k1, fun H2 v2 k2 d2 => by
    obtain ⟨a1, xs, rfl, e1, n1, c1⟩ := d1.ls _ rfl
    obtain ⟨a2, ys, rfl, e2, n2, c2⟩ := d2.ls _ rfl
    refine ⟨a1, a2, xs, ys, rfl, rfl, k2 _ _ e1, e2, by rw [c1.len, c2.len, sizeLine_eq]; omega, fun p hp => ?_⟩
    have k3 : L2.Same H2 (upd H2 p (.lst (xs ++ ys))) := sm_new sm_refl hp
    have n : S p = false := (hs.same (sm_trans k1 k2)).out hp
    have c3 := DvAll.app (c1.same (offB_sm (S := S) (sm_trans k2 k3))) (c2.same (offB_sm (S := S) k3))
    exact q _ _ (sm_trans k1 (sm_trans k2 k3)) ⟨.lst (SqL.of (by rw [offB_at n]; exact upd_same)) c3, fun es e => by cases e; exact ⟨p, _, rfl, upd_same, n, c3⟩⟩⟩⟩
/-- menu[draw(source, len(menu))] -/
theorem b_pick {ib im : Nat} {s0 : Addr} {E : XK} (h : PE X e (tOp (rIxL X.K) (tVar im) (tCall spDraw [] E (tCons (tVar ib) (tCons (tCB (fun xs H Q => ∃ p ys, xs = [.ref p] ∧ (SqL X.K H p ys ∨ SqT X.K H p ys) ∧ Q (.int ys.length) H) (tCons (tVar im) tNil)) tNil))))) (m : (im, .list ds) ∈ Γ) (hS : S s0 = true) :
    PE X e fun σ H Q => ∃ (l : List V) (n : Nat), σ[ib]? = some (some (.ref s0)) ∧ H s0 = some (.lst l) ∧ SrcV n l ∧ n ≤ 1000000 ∧ EnvB X.K S Γ σ H ∧ 0 < ds.length ∧ ds.length ≤ 1000 ∧
      ∀ H' v d l', Ch s0 H H' → H' s0 = some (.lst l') → SrcV (n + 1) l' → d ∈ ds → Dv X.K (offB H' S) v d → Q v H' :=
  pe_imp h fun σ H Q ⟨l, n, eb, hs, hl, hn, en, h0, h9, q⟩ => by
    obtain ⟨v, ev, dt⟩ := en _ m
    obtain ⟨a, xs, rfl, ea, na, c⟩ := dt.ls _ rfl
    have hlen := c.len
    have nas : a ≠ s0 := fun z => by rw [z, hS] at na; cases na
    refine ⟨.ref a, ev, .ref s0, eb, .ref a, ev, a, xs, rfl, .inl (SqL.of ea), s0, l, n, xs.length, rfl, hs, hl, hn, by omega, by omega, fun l2 r hl2 h0 h1 => ?_⟩
    obtain ⟨j, rfl⟩ : ∃ j : Nat, r = (j : Int) := ⟨r.toNat, by omega⟩
    obtain ⟨u, hu, du⟩ := c.at_ (List.getElem?_eq_getElem (show j < ds.length by omega))
    refine ⟨a, xs, (j : Nat), u, rfl, rfl, SqL.of (by rw [upd_ne nas]; exact ea), atI_nat hu, ?_⟩
    exact q _ u _ l2 Ch.src upd_same hl2 (List.getElem_mem _) (du.same (offB_ch Ch.src hS))
end
/-! sizes -/
structure Bd (d : PyData) (dep w ln : Nat) : Prop where
  rp : Rp d dep w
  ok : okD d = true
  ln : ∀ ds, (d = .list ds ∨ d = .tuple ds) → ds.length ≤ ln
def lenD : PyData → Nat
  | .list ds => ds.length
  | .tuple ds => ds.length
  | _ => 0
def bdB (d : PyData) (dep w ln : Nat) : Bool := rpB d dep w && okD d && decide (lenD d ≤ ln)
theorem Bd.dec {d : PyData} {dep w ln : Nat} (h : bdB d dep w ln = true) : Bd d dep w ln := by
  unfold bdB at h
  simp only [Bool.and_eq_true, decide_eq_true_eq] at h
  refine ⟨.dec h.1.1, h.1.2, fun ds e => ?_⟩
  rcases e with rfl | rfl
  · exact h.2
  · exact h.2
theorem Bd.mono {d : PyData} {a b u v m k : Nat} (h : Bd d a u m) (h1 : a ≤ b) (h2 : u ≤ v) (h3 : m ≤ k) : Bd d b v k := ⟨h.rp.mono h1 h2, h.ok, fun ds e => Nat.le_trans (h.ln ds e) h3⟩
structure BdA (ds : List PyData) (dep w : Nat) : Prop where
  rp : RpA ds dep w
  ok : okDA ds = true
theorem BdA.mono {ds : List PyData} {a b u v : Nat} (h : BdA ds a u) (h1 : a ≤ b) (h2 : u ≤ v) : BdA ds b v := ⟨h.rp.mono h1 h2, h.ok⟩
theorem okDA_app : ∀ (A B : List PyData), okDA (A ++ B) = (okDA A && okDA B)
  | [], B => by rw [List.nil_append, okDA, Bool.true_and]
  | a :: A, B => by rw [List.cons_append, okDA, okDA, okDA_app A B, Bool.and_assoc]
theorem BdA.nil {dep : Nat} : BdA [] dep 0 := ⟨.nil, by rw [okDA]⟩
theorem BdA.cons {d : PyData} {ds : List PyData} {dep a b ln : Nat} (h : Bd d dep a ln) (t : BdA ds dep b) : BdA (d :: ds) dep (a + 1 + b) := ⟨.cons h.rp t.rp, by rw [okDA, h.ok, t.ok]; rfl⟩
theorem BdA.app {A B : List PyData} {dep a b : Nat} (h : BdA A dep a) (t : BdA B dep b) : BdA (A ++ B) dep (a + b) := ⟨h.rp.app t.rp, by rw [okDA_app, h.ok, t.ok]; rfl⟩
theorem BdA.uncons {d : PyData} {ds : List PyData} {dep w : Nat} (h : BdA (d :: ds) dep w) : ∃ a b, a + 1 + b ≤ w ∧ Rp d dep a ∧ okD d = true ∧ BdA ds dep b := by
  have s := h.rp.sh
  have l := h.rp.lv
  have dp := h.rp.dep
  have w' := h.rp.wt
  have o := h.ok
  rw [PyData.showableAll, Bool.and_eq_true] at s
  rw [PyData.leavesShortAll, Bool.and_eq_true] at l
  rw [PyData.depthAll] at dp
  rw [PyData.weightAll] at w'
  rw [okDA, Bool.and_eq_true] at o
  exact ⟨d.weight, PyData.weightAll ds, by omega, ⟨s.1, by omega, Nat.le_refl _, l.1⟩, o.1, ⟨s.2, by omega, Nat.le_refl _, l.2⟩, o.2⟩
theorem BdA.split : ∀ {A B : List PyData} {dep w : Nat}, BdA (A ++ B) dep w → ∃ a b, a + b ≤ w ∧ BdA A dep a ∧ BdA B dep b
  | [], B, dep, w, h => ⟨0, w, by omega, .nil, h⟩
  | d :: A, B, dep, w, h => by
    obtain ⟨a, b, e, hd, ho, ht⟩ := h.uncons
    obtain ⟨c, g, e2, hA, hB⟩ := BdA.split ht
    exact ⟨a + 1 + c, g, by omega, ⟨.cons hd hA.rp, by rw [okDA, ho, hA.ok]; rfl⟩, hB⟩
theorem BdA.len : ∀ {A : List PyData} {dep w : Nat}, BdA A dep w → A.length ≤ w
  | [], _, _, _ => Nat.zero_le _
  | d :: A, dep, w, h => by
    obtain ⟨a, b, e, _, _, ht⟩ := h.uncons
    have := BdA.len ht
    rw [List.length_cons]
    omega
theorem BdA.rev : ∀ {A : List PyData} {dep w : Nat}, BdA A dep w → BdA A.reverse dep w
  | [], _, _, h => h
  | d :: A, dep, w, h => by
    obtain ⟨a, b, e, hd, ho, ht⟩ := h.uncons
    rw [List.reverse_cons]
    exact (BdA.app (BdA.rev ht) ⟨.cons hd .nil, by rw [okDA, ho, okDA]; rfl⟩).mono (Nat.le_refl _) (by omega)
theorem BdA.tk {A : List PyData} {dep w : Nat} (i : Nat) (h : BdA A dep w) : ∃ a b, a + b ≤ w ∧ BdA (A.take i) dep a ∧ BdA (A.drop i) dep b := BdA.split (by rw [List.take_append_drop]; exact h)
theorem BdA.list {ds : List PyData} {dep w : Nat} (h : BdA ds dep w) : Bd (.list ds) (dep + 1) w ds.length := ⟨h.rp.list, by rw [okD]; exact h.ok, fun es e => by
  rcases e with e | e
  · cases e
    exact Nat.le_refl _
  · cases e⟩
theorem BdA.tuple {ds : List PyData} {dep w : Nat} (h : BdA ds dep w) : Bd (.tuple ds) (dep + 1) w ds.length := ⟨h.rp.tuple, by rw [okD]; exact h.ok, fun es e => by
  rcases e with e | e
  · cases e
  · cases e
    exact Nat.le_refl _⟩
theorem Bd.ofL {ds : List PyData} {dep w ln : Nat} (h : Bd (.list ds) dep w ln) : ∃ j, dep = j + 1 ∧ BdA ds j w := by
  have s := h.rp.sh
  have l := h.rp.lv
  have dp := h.rp.dep
  have w' := h.rp.wt
  have o := h.ok
  rw [PyData.showable] at s
  rw [PyData.leavesShort] at l
  rw [PyData.depth] at dp
  rw [PyData.weight] at w'
  rw [okD] at o
  exact ⟨dep - 1, by omega, ⟨s, by omega, w', l⟩, o⟩
theorem Bd.ofT {ds : List PyData} {dep w ln : Nat} (h : Bd (.tuple ds) dep w ln) : ∃ j, dep = j + 1 ∧ BdA ds j w := by
  have s := h.rp.sh
  have l := h.rp.lv
  have dp := h.rp.dep
  have w' := h.rp.wt
  have o := h.ok
  rw [PyData.showable] at s
  rw [PyData.leavesShort] at l
  rw [PyData.depth] at dp
  rw [PyData.weight] at w'
  rw [okD] at o
  exact ⟨dep - 1, by omega, ⟨s, by omega, w', l⟩, o⟩
def menO1 : List PyData := [.none, .bool true, .bool false, .int 0, .int 1, .int (-1), .str "", .str "a", .str "ab", .str "abcde", .str "A", .str "in", .str "out", .tuple [], .list [], .dict [], .tuple [.str "in", .str "a"], .tuple [.str "out"]]
def menO2 : List PyData := [.tuple [.str "in"], .tuple [.str "out", .str "a"], .tuple [.str "in", .str "a", .str "b"], .list [.str "out"], .list [.str "in", .str "a"], .str "L", .tuple [.str "in", .tuple [.str "a"]], .tuple [.str "OUT"]]
theorem odd_bd {d : PyData} (h : d ∈ menO1 ++ menO2) : Bd d 2 30 3 := by
  have e : ∀ d ∈ menO1 ++ menO2, bdB d 2 30 3 = true := by
    have k : ((menO1 ++ menO2).all fun d => bdB d 2 30 3) = true := by decide +kernel
    exact List.all_eq_true.mp k
  exact .dec (e d h)
section
variable {P : Program} {w : World} {K : PySem.W.Frag} {mg : Str → Option Value} {base : Heap} {Ps : List Addr}
def spOdd (K : PySem.W.Frag) : Sp := fun vs H Q _ => ∃ (s0 : Addr) (l : List V) (n : Nat) (S : Addr → Bool), vs = [.ref s0] ∧ H s0 = some (.lst l) ∧ SrcV n l ∧ n + 10 ≤ 1000000 ∧ S s0 = true ∧ Full S H ∧
  ∀ (H' : Hp) (v : V) (d : PyData) (l' : List V), Ch s0 H H' → H' s0 = some (.lst l') → SrcV (n + 1) l' → Dv K (offB H' S) v d → Bd d 2 30 3 → Q v H'
end
end Ln


set_option Elab.async false
set_option linter.all false
set_option maxRecDepth 100000
set_option maxHeartbeats 8000000
namespace Ln
open PySem PySem.Spec PyProof.Rows L2
/-! ### slices with a number, values set in a list -/
theorem cut_pt {xs : List V} {c : Nat} : cutV xs none (some (c : Int)) = xs.take c := by
  unfold cutV
  rw [HT.sIx_none, List.drop_zero, Nat.sub_zero, show HT.sIx xs.length xs.length (some (c : Int)) = min c xs.length from HT.sIx_nat _ _ c]
  rw [List.take_eq_take_iff]
  omega
theorem cut_pd {xs : List V} {c : Nat} : cutV xs (some (c : Int)) none = xs.drop c := by
  unfold cutV
  rw [show HT.sIx xs.length 0 (some (c : Int)) = min c xs.length from HT.sIx_nat _ _ c, HT.sIx_none]
  by_cases h : c ≤ xs.length
  · rw [Nat.min_eq_left h, List.take_of_length_le (by rw [List.length_drop]; omega)]
  · rw [Nat.min_eq_right (by omega), Nat.sub_self, List.take_zero, List.drop_eq_nil_of_le (by omega : xs.length ≤ c)]
theorem DvAll.drop {K : PySem.W.Frag} {H : Hp} : ∀ (n : Nat) {vs : List V} {ds : List PyData}, DvAll K H vs ds → DvAll K H (vs.drop n) (ds.drop n)
  | 0, _, _, h => h
  | n + 1, _, _, .nil => .nil
  | n + 1, _, _, .cons a b => DvAll.drop n b
theorem use_it {P G : Prop} (f : P → G) (p : P) : G := f p
theorem ixN_nat8 {n j : Nat} (h : j < n) : ixN n ((j : Nat) : Int) = some j := by
  unfold ixN
  rw [if_pos (by omega), if_pos (by omega)]
  rfl
theorem dv_set {K : PySem.W.Frag} {H : Hp} {v : V} {d : PyData} : ∀ {vs : List V} {ds : List PyData}, DvAll K H vs ds → Dv K H v d → ∀ c : Nat, DvAll K H (vs.set c v) (ds.set c d)
  | _, _, .nil, _, _ => .nil
  | _, _, .cons _ b, h, 0 => .cons h b
  | _, _, .cons a b, h, c + 1 => .cons a (dv_set b h c)
end Ln


set_option Elab.async false
set_option linter.all false
set_option maxRecDepth 100000
set_option maxHeartbeats 4000000
namespace Ln
open PySem PySem.Spec PyProof.Rows L2 GxR
/-! ### more rules for values of any plain kind: slices, sums, copies, picks -/
theorem pe_any {α : Type} {X : Cx} {e : Expr} {t : α → TE} (h : ∀ a, PE X e (t a)) : PE X e fun σ H Q => ∃ a, t a σ H Q := ⟨fun pins s σ H Q I ⟨a, q⟩ => (h a).run pins s σ H Q I q⟩
theorem ps_any {α : Type} {X : Cx} {e : Stmt} {t : α → TS} (h : ∀ a, PS X e (t a)) : PS X e fun D σ H => ∃ a, t a D σ H := ⟨fun pins s σ H D I ⟨a, q⟩ => (h a).run pins s σ H D I q⟩
theorem pss_any {α : Type} {X : Cx} {e : List Stmt} {t : α → TS} (h : ∀ a, PSs X e (t a)) : PSs X e fun D σ H => ∃ a, t a D σ H := ⟨fun pins s σ H D I ⟨a, q⟩ => (h a).run pins s σ H D I q⟩
theorem cut_neg1 {xs : List V} : cutV xs none (some (-1)) = xs.take (xs.length - 1) := by
  unfold cutV
  rw [HT.sIx_none, List.drop_zero, Nat.sub_zero]
  have e : HT.sIx xs.length xs.length (some (-1)) = xs.length - 1 := by
    show (if (-1 : Int) < 0 then ((-1 : Int) + (xs.length : Int)).toNat else min (-1 : Int).toNat xs.length) = _
    rw [if_pos (by decide)]
    omega
  rw [e]
theorem dvT {K : PySem.W.Frag} {H : Hp} {v : V} {ds : List PyData} (h : Dv K H v (.tuple ds)) : ∃ (a : Addr) (xs : List V), v = .ref a ∧ SqT K H a xs ∧ DvAll K H xs ds := by
  cases h with
  | tup a b => exact ⟨_, _, rfl, a, b⟩
theorem dvL {K : PySem.W.Frag} {H : Hp} {v : V} {ds : List PyData} (h : Dv K H v (.list ds)) : ∃ (a : Addr) (xs : List V), v = .ref a ∧ SqL K H a xs ∧ DvAll K H xs ds := by
  cases h with
  | lst a b => exact ⟨_, _, rfl, a, b⟩
theorem dvI {K : PySem.W.Frag} {H : Hp} {v : V} {i : Int} (h : Dv K H v (.int i)) : v = .int i := by
  cases h
  rfl
theorem sqT_sub {K : PySem.W.Frag} {H H1 : Hp} {a : Addr} {xs : List V} (h : SqT K H a xs) (k : L2.Same H H1) : SqT K H1 a xs := by
  rcases h with h | h
  · rcases h with h | ⟨o, h⟩
    · exact .inl (.inl (k _ _ h))
    · exact .inl (.inr ⟨o, k _ _ h⟩)
  · exact .inr h
theorem sqL_sub {K : PySem.W.Frag} {H H1 : Hp} {a : Addr} {xs : List V} (h : SqL K H a xs) (k : L2.Same H H1) : SqL K H1 a xs := by
  rcases h with h | h
  · rcases h with h | ⟨o, h⟩
    · exact .inl (.inl (k _ _ h))
    · exact .inl (.inr ⟨o, k _ _ h⟩)
  · exact .inr h
section
variable {X : Cx} {S : Addr → Bool} {Γ : List (Nat × PyData)} {d d2 : PyData} {ds es : List PyData} {e a b c : Expr} {el : List Expr} {pos p2 : Pos}
/-- a sum of tuples -/
theorem b_tcat (ha : PE X a (tB2 X.K S Γ (.tuple ds))) (hb : PE X b (tB2 X.K S Γ (.tuple es))) (hl : ds.length + es.length ≤ 10000) : PE X (.BinOp a .Add b pos) (tB2 X.K S Γ (.tuple (ds ++ es))) :=
  pe_imp (pe_op op_catA ha hb) fun σ H Q ⟨hs, en, q⟩ => ⟨hs, en, fun H1 v1 k1 d1 => ⟨hs.same k1, en.same k1, fun H2 v2 k2 dd => by
    obtain ⟨a1, xs, rfl, s1, c1⟩ := dvT (d1.dv.same (offB_sm (S := S) k2))
    obtain ⟨a2, ys, rfl, s2, c2⟩ := dvT dd.dv
    refine ⟨a1, a2, xs, ys, rfl, rfl, sqT_sub s1 offB_sub, sqT_sub s2 offB_sub, by rw [c1.len, c2.len, sizeLine_eq]; omega, fun e => ?_, fun _ e => ?_, fun _ _ p hp => ?_⟩
    · subst e
      cases c1
      exact q _ _ (sm_trans k1 k2) dd
    · subst e
      cases c2
      rw [List.append_nil] at q
      exact q _ _ (sm_trans k1 k2) (d1.same k2)
    · have k3 : L2.Same H2 (upd H2 p (.tup (xs ++ ys))) := sm_new sm_refl hp
      have n : S p = false := (hs.same (sm_trans k1 k2)).out hp
      have c3 := DvAll.app (c1.same (offB_sm (S := S) k3)) (c2.same (offB_sm (S := S) k3))
      exact q _ _ (sm_trans k1 (sm_trans k2 k3)) (.of (.tup (SqT.of (by rw [offB_at n]; exact upd_same)) c3) fun _ z => nomatch z)⟩⟩
/-- t[:n] -/
theorem b_ttake {n : Nat} (ha : PE X a (tB2 X.K S Γ (.tuple ds))) (hn : PE X c (tB2 X.K S Γ (.int (n : Nat)))) : PE X (.Subscript a (.Slice none (some c) none p2) pos) (tB2 X.K S Γ (.tuple (ds.take n))) :=
  pe_imp (pe_slice sl_tupA ha po_none (po_some hn)) fun σ H Q ⟨hs, en, q⟩ => ⟨hs, en, fun H1 v1 k1 d1 => ⟨hs.same k1, en.same k1, fun H2 v2 k2 dd => by
    obtain rfl := dvI dd.dv
    refine ⟨_, rfl, ?_⟩
    obtain ⟨a1, xs, rfl, s1, c1⟩ := dvT (d1.dv.same (offB_sm (S := S) k2))
    refine ⟨a1, xs, rfl, sqT_sub s1 offB_sub, fun e => ?_, fun _ p hp => ?_⟩
    · have h : xs.length ≤ n := by
        have := e.2
        rw [HT.sIx_nat] at this
        omega
      rw [List.take_of_length_le (by rw [← c1.len]; exact h)] at q
      exact q _ _ (sm_trans k1 k2) (d1.same k2)
    · rw [cut_pt]
      have k3 : L2.Same H2 (upd H2 p (.tup (xs.take n))) := sm_new sm_refl hp
      have nn : S p = false := (hs.same (sm_trans k1 k2)).out hp
      exact q _ _ (sm_trans k1 (sm_trans k2 k3)) (.of (.tup (SqT.of (by rw [offB_at nn]; exact upd_same)) ((c1.take n).same (offB_sm (S := S) k3))) fun _ z => nomatch z)⟩⟩
/-- t[n:] -/
theorem b_tdrop {n : Nat} (ha : PE X a (tB2 X.K S Γ (.tuple ds))) (hn : PE X c (tB2 X.K S Γ (.int (n : Nat)))) : PE X (.Subscript a (.Slice (some c) none none p2) pos) (tB2 X.K S Γ (.tuple (ds.drop n))) :=
  pe_imp (pe_slice sl_tupA ha (po_some hn) po_none) fun σ H Q ⟨hs, en, q⟩ => ⟨hs, en, fun H1 v1 k1 d1 => ⟨hs.same k1, en.same k1, fun H2 v2 k2 dd => by
    obtain rfl := dvI dd.dv
    refine ⟨_, rfl, ?_⟩
    obtain ⟨a1, xs, rfl, s1, c1⟩ := dvT (d1.dv.same (offB_sm (S := S) k2))
    refine ⟨a1, xs, rfl, sqT_sub s1 offB_sub, fun e => ?_, fun _ p hp => ?_⟩
    · have h : xs.length = 0 ∨ n = 0 := by
        have := e.1
        rw [HT.sIx_nat] at this
        omega
      have e2 : ds.drop n = ds := by
        rcases h with h | h
        · rw [c1.len] at h
          rw [List.eq_nil_of_length_eq_zero h, List.drop_nil]
        · rw [h, List.drop_zero]
      rw [e2] at q
      exact q _ _ (sm_trans k1 k2) (d1.same k2)
    · rw [cut_pd]
      have k3 : L2.Same H2 (upd H2 p (.tup (xs.drop n))) := sm_new sm_refl hp
      have nn : S p = false := (hs.same (sm_trans k1 k2)).out hp
      exact q _ _ (sm_trans k1 (sm_trans k2 k3)) (.of (.tup (SqT.of (by rw [offB_at nn]; exact upd_same)) ((DvAll.drop n c1).same (offB_sm (S := S) k3))) fun _ z => nomatch z)⟩⟩
/-- a new list of these values -/
theorem bt_new {H : Hp} {p : Addr} {xs : List V} (hs : Full S H) (hp : H p = none) (dv : DvAll X.K (offB H S) xs ds) : L2.Same H (upd H p (.lst xs)) ∧ Bt2 X.K S (upd H p (.lst xs)) (.ref p) (.list ds) := by
  have k : L2.Same H (upd H p (.lst xs)) := sm_new sm_refl hp
  have n : S p = false := hs.out hp
  have d2 := dv.same (offB_sm (S := S) k)
  exact ⟨k, .lst (SqL.of (by rw [offB_at n]; exact upd_same)) d2, fun es e => by cases e; exact ⟨p, xs, rfl, upd_same, n, d2⟩⟩
/-- l[:n] -/
theorem b_ltake {n : Nat} (ha : PE X a (tB2 X.K S Γ (.list ds))) (hn : PE X c (tB2 X.K S Γ (.int (n : Nat)))) : PE X (.Subscript a (.Slice none (some c) none p2) pos) (tB2 X.K S Γ (.list (ds.take n))) :=
  pe_imp (pe_slice sl_list ha po_none (po_some hn)) fun σ H Q ⟨hs, en, q⟩ => ⟨hs, en, fun H1 v1 k1 d1 => ⟨hs.same k1, en.same k1, fun H2 v2 k2 dd => by
    obtain rfl := dvI dd.dv
    refine ⟨_, rfl, ?_⟩
    obtain ⟨a1, xs, rfl, s1, c1⟩ := dvL (d1.dv.same (offB_sm (S := S) k2))
    refine ⟨a1, xs, rfl, sqL_sub s1 offB_sub, fun p hp => ?_⟩
    rw [cut_pt]
    have z := bt_new (hs.same (sm_trans k1 k2)) hp (c1.take n)
    exact q _ _ (sm_trans k1 (sm_trans k2 z.1)) z.2⟩⟩
/-- l[n:] -/
theorem b_ldrop {n : Nat} (ha : PE X a (tB2 X.K S Γ (.list ds))) (hn : PE X c (tB2 X.K S Γ (.int (n : Nat)))) : PE X (.Subscript a (.Slice (some c) none none p2) pos) (tB2 X.K S Γ (.list (ds.drop n))) :=
  pe_imp (pe_slice sl_list ha (po_some hn) po_none) fun σ H Q ⟨hs, en, q⟩ => ⟨hs, en, fun H1 v1 k1 d1 => ⟨hs.same k1, en.same k1, fun H2 v2 k2 dd => by
    obtain rfl := dvI dd.dv
    refine ⟨_, rfl, ?_⟩
    obtain ⟨a1, xs, rfl, s1, c1⟩ := dvL (d1.dv.same (offB_sm (S := S) k2))
    refine ⟨a1, xs, rfl, sqL_sub s1 offB_sub, fun p hp => ?_⟩
    rw [cut_pd]
    have z := bt_new (hs.same (sm_trans k1 k2)) hp (DvAll.drop n c1)
    exact q _ _ (sm_trans k1 (sm_trans k2 z.1)) z.2⟩⟩
/-- l[:-1] -/
theorem b_linit (ha : PE X a (tB2 X.K S Γ (.list ds))) (hn : PE X c (tB2 X.K S Γ (.int (-1)))) : PE X (.Subscript a (.Slice none (some c) none p2) pos) (tB2 X.K S Γ (.list (ds.take (ds.length - 1)))) :=
  pe_imp (pe_slice sl_list ha po_none (po_some hn)) fun σ H Q ⟨hs, en, q⟩ => ⟨hs, en, fun H1 v1 k1 d1 => ⟨hs.same k1, en.same k1, fun H2 v2 k2 dd => by
    obtain rfl := dvI dd.dv
    refine ⟨_, rfl, ?_⟩
    obtain ⟨a1, xs, rfl, s1, c1⟩ := dvL (d1.dv.same (offB_sm (S := S) k2))
    refine ⟨a1, xs, rfl, sqL_sub s1 offB_sub, fun p hp => ?_⟩
    rw [cut_neg1, c1.len]
    have z := bt_new (hs.same (sm_trans k1 k2)) hp (c1.take (ds.length - 1))
    exact q _ _ (sm_trans k1 (sm_trans k2 z.1)) z.2⟩⟩
/-- list(t) -/
theorem b_listT {x : Str} {p p1 : Pos} (hg : Gl X x) (hm : X.mg x = none) (hv : bootBuiltins x = some (.type "list")) (ha : PE X a (tB2 X.K S Γ (.tuple ds))) (hn : x ≠ "__name__" := by decide) (hdb : (x == ("__debug__" : Str)) = false := by decide)
    (hs : starEach [a] X.env = (false, eval a X.env) :: starEach [] X.env := by rfl) : PE X (.Call (.Name x p) [a] [] p1) (tB2 X.K S Γ (.list ds)) :=
  pe_imp (pe_callTy call_list_of hg hm hv (pa_cons ha pa_nil hs) hn hdb hs (by rfl)) fun σ H Q ⟨hF, en, q⟩ => ⟨hF, en, fun H1 v1 k1 d1 => by
    obtain ⟨a1, xs, rfl, s1, c1⟩ := dvT d1.dv
    refine ⟨a1, xs, rfl, .inr (sqT_sub s1 offB_sub), fun l hl => ?_⟩
    have z := bt_new (hF.same k1) hl c1
    exact q _ _ (sm_trans k1 z.1) z.2⟩
/-- tuple(l) -/
theorem b_tupL {x : Str} {p p1 : Pos} (hg : Gl X x) (hm : X.mg x = none) (hv : bootBuiltins x = some (.type "tuple")) (ha : PE X a (tB2 X.K S Γ (.list ds))) (hn : x ≠ "__name__" := by decide) (hdb : (x == ("__debug__" : Str)) = false := by decide)
    (hs : starEach [a] X.env = (false, eval a X.env) :: starEach [] X.env := by rfl) : PE X (.Call (.Name x p) [a] [] p1) (tB2 X.K S Γ (.tuple ds)) :=
  pe_imp (pe_callTy call_tuple_of hg hm hv (pa_cons ha pa_nil hs) hn hdb hs (by rfl)) fun σ H Q ⟨hF, en, q⟩ => ⟨hF, en, fun H1 v1 k1 d1 => by
    obtain ⟨a1, xs, rfl, s1, c1⟩ := dvL d1.dv
    refine ⟨a1, xs, rfl, .inl ⟨sqL_sub s1 offB_sub, fun l hl => ?_⟩⟩
    have k : L2.Same H1 (upd H1 l (.tup xs)) := sm_new sm_refl hl
    have n : S l = false := (hF.same k1).out hl
    exact q _ _ (sm_trans k1 k) (.of (.tup (SqT.of (by rw [offB_at n]; exact upd_same)) (c1.same (offB_sm (S := S) k))) fun _ z => nomatch z)⟩
theorem dv_flat {K : PySem.W.Frag} {H : Hp} {xs : List V} (h : DvAll K H xs ds) : ∀ n : Nat, DvAll K H (List.replicate n xs).flatten (List.replicate n ds).flatten
  | 0 => .nil
  | n + 1 => by
    rw [List.replicate_succ, List.replicate_succ, List.flatten_cons, List.flatten_cons]
    exact DvAll.app h (dv_flat h n)
/-- l * n -/
theorem b_rep {n : Nat} (ha : PE X a (tB2 X.K S Γ (.list ds))) (hn : PE X b (tB2 X.K S Γ (.int (n : Nat)))) (hl : ds.length * n ≤ 10000) (hn2 : n ≤ 1000) : PE X (.BinOp a .Mult b pos) (tB2 X.K S Γ (.list (List.replicate n ds).flatten)) :=
  pe_imp (pe_op op_rep ha hn) fun σ H Q ⟨hs, en, q⟩ => ⟨hs, en, fun H1 v1 k1 d1 => ⟨hs.same k1, en.same k1, fun H2 v2 k2 dd => by
    obtain rfl := dvI dd.dv
    obtain ⟨a1, xs, rfl, e1, n1, c1⟩ := d1.ls _ rfl
    refine ⟨a1, _, xs, rfl, rfl, k2 _ _ e1, by omega, by omega, by rw [c1.len, sizeLine_eq, Int.toNat_natCast]; omega, fun p hp => ?_⟩
    rw [Int.toNat_natCast]
    have z := bt_new (hs.same (sm_trans k1 k2)) hp (dv_flat (c1.same (offB_sm (S := S) k2)) n)
    exact q _ _ (sm_trans k1 (sm_trans k2 z.1)) z.2⟩⟩
/-- x if c else y, c known -/
theorem b_ifT {tc : TT} (k : Bool) (hc : PT X c tc) (ha : PE X a (tB2 X.K S Γ d)) (hb : PE X b (tB2 X.K S Γ d2)) (ht : ∀ σ H (Q : Bool → Hp → Prop), Full S H → EnvB X.K S Γ σ H → (∀ H', L2.Same H H' → Q k H') → tc σ H Q) :
    PE X (.IfExp c a b pos) (tB2 X.K S Γ (if k = true then d else d2)) :=
  pe_imp (pe_ifExp hc ha hb) fun σ H Q ⟨hs, en, q⟩ => ht _ _ _ hs en fun H' k1 => by
    cases k with
    | true => exact ⟨hs.same k1, en.same k1, fun H2 v k2 dd => q H2 v (sm_trans k1 k2) dd⟩
    | false => exact ⟨hs.same k1, en.same k1, fun H2 v k2 dd => q H2 v (sm_trans k1 k2) dd⟩
/-! values, each of them kept whole -/
inductive BtAll (K : PySem.W.Frag) (S : Addr → Bool) (H : Hp) : List V → List PyData → Prop
  | nil : BtAll K S H [] []
  | cons {v : V} {vs : List V} {d : PyData} {ds : List PyData} : Bt2 K S H v d → BtAll K S H vs ds → BtAll K S H (v :: vs) (d :: ds)
theorem BtAll.same {K : PySem.W.Frag} {H H' : Hp} {vs : List V} (h : BtAll K S H vs ds) (k : L2.Same H H') : BtAll K S H' vs ds := by
  induction h with
  | nil => exact .nil
  | cons a _ ih => exact .cons (a.same k) ih
theorem BtAll.at_ {K : PySem.W.Frag} {H : Hp} {vs : List V} (h : BtAll K S H vs ds) : ∀ {i : Nat} {d : PyData}, ds[i]? = some d → ∃ v, vs[i]? = some v ∧ Bt2 K S H v d := by
  induction h with
  | nil => intro i d e; cases e
  | cons a _ ih =>
    intro i d e
    cases i with
    | zero =>
      cases e
      exact ⟨_, rfl, a⟩
    | succ i => exact ih e
theorem BtAll.len {K : PySem.W.Frag} {H : Hp} {vs : List V} (h : BtAll K S H vs ds) : vs.length = ds.length := by
  induction h with
  | nil => rfl
  | cons _ _ ih => rw [List.length_cons, List.length_cons, ih]
theorem Bt2.ch {s0 : Addr} {H H' : Hp} {v : V} {K : PySem.W.Frag} (h : Bt2 K S H v d) (k : Ch s0 H H') (hS : S s0 = true) : Bt2 K S H' v d := ⟨h.dv.same (offB_ch k hS), fun ds e => by
  obtain ⟨a, xs, e1, e2, n, dv⟩ := h.ls ds e
  have na : a ≠ s0 := fun z => by
    rw [z, hS] at n
    cases n
  exact ⟨a, xs, e1, k _ _ e2 na, n, dv.same (offB_ch k hS)⟩⟩
theorem EnvB.ch {s0 : Addr} {H H' : Hp} {K : PySem.W.Frag} {σ : L2.St} (h : EnvB K S Γ σ H) (k : Ch s0 H H') (hS : S s0 = true) : EnvB K S Γ σ H' := fun p hp => let ⟨v, e, d⟩ := h p hp; ⟨v, e, d.ch k hS⟩
def tBA2 (K : PySem.W.Frag) (S : Addr → Bool) (Γ : List (Nat × PyData)) (ds : List PyData) : TA := fun σ H Q => Full S H ∧ EnvB K S Γ σ H ∧ ∀ H' vs, L2.Same H H' → BtAll K S H' vs ds → Q vs H'
theorem ba2_nil : PA X [] (tBA2 X.K S Γ []) := pa_imp pa_nil fun σ H Q ⟨_, _, q⟩ => q H [] sm_refl .nil
theorem ba2_cons (h : PE X e (tB2 X.K S Γ d)) (t : PA X el (tBA2 X.K S Γ ds)) (hs : starEach (e :: el) X.env = (false, eval e X.env) :: starEach el X.env := by rfl) : PA X (e :: el) (tBA2 X.K S Γ (d :: ds)) :=
  pa_imp (pa_cons h t hs) fun σ H Q ⟨hs, en, q⟩ => ⟨hs, en, fun H1 v k dv => ⟨hs.same k, en.same k, fun H2 vs k2 dvs => q H2 _ (sm_trans k k2) (.cons (dv.same k2) dvs)⟩⟩
/-- what a pick of ds at a draw leaves -/
def tPickB (K : PySem.W.Frag) (S : Addr → Bool) (Γ : List (Nat × PyData)) (ib : Nat) (ds : List PyData) (P : Hp → V → PyData → Prop) : TE := fun σ H Q => ∃ (s0 : Addr) (l : List V) (n : Nat), σ[ib]? = some (some (.ref s0)) ∧ H s0 = some (.lst l) ∧ SrcV n l ∧ n ≤ 1000000 ∧ S s0 = true ∧ Full S H ∧ EnvB K S Γ σ H ∧
  ∀ H' v d l', Ch s0 H H' → H' s0 = some (.lst l') → SrcV (n + 1) l' → d ∈ ds → P H' v d → Q v H'
/-- [..][draw(source, n)] -/
theorem b_pickL {ib n : Nat} {E : XK} {i : Expr} {p3 : Pos} (ha : PA X el (tBA2 X.K S Γ ds)) (hi : PE X i (tCall spDraw [] E (tCons (tVar ib) (tCons (tC (.int n)) tNil)))) (hn : ds.length = n) (h0 : 0 < n) (h1 : n ≤ 900)
    (ho : ∀ {te ti : TE}, PE X (.List el p2) te → PE X i ti → PE X (.Subscript (.List el p2) i p3) (tOp (rIxL X.K) te ti)) :
    PE X (.Subscript (.List el p2) i p3) (tPickB X.K S Γ ib ds fun H v d => Bt2 X.K S H v d) :=
  pe_imp (ho (pe_lst ha) hi) fun σ H Q ⟨s0, l, m, es, hs, hl, hm, hS, hF, en, q⟩ => ⟨hF, en, fun H1 vs k1 bt => ⟨by rw [bt.len, hn, sizeLine_eq]; omega, fun p hp => by
    have k2 : L2.Same H1 (upd H1 p (.lst vs)) := sm_new sm_refl hp
    have hs2 := k2 _ _ (k1 _ _ hs)
    have nas : p ≠ s0 := fun z => by rw [z, k1 _ _ hs] at hp; cases hp
    refine ⟨.ref s0, es, s0, l, m, (n : Nat), rfl, hs2, hl, hm, by omega, by omega, fun l2 r hl2 r0 r1 => ?_⟩
    obtain ⟨j, rfl⟩ : ∃ j : Nat, r = (j : Int) := ⟨r.toNat, by omega⟩
    obtain ⟨u, hu, du⟩ := bt.at_ (List.getElem?_eq_getElem (show j < ds.length by omega))
    refine ⟨p, vs, (j : Nat), u, rfl, rfl, SqL.of (by rw [upd_ne nas]; exact upd_same), atI_nat hu, ?_⟩
    exact q _ u _ l2 ((Ch.refl.sm (sm_trans k1 k2)).trans Ch.src) upd_same hl2 (List.getElem_mem _) ((du.same k2).ch Ch.src hS)⟩⟩
/-- e[draw(source, n)], e a list -/
theorem b_pickE {ib n : Nat} {E : XK} {i : Expr} {p3 : Pos} (ha : PE X a (tB2 X.K S Γ (.list ds))) (hi : PE X i (tCall spDraw [] E (tCons (tVar ib) (tCons (tC (.int n)) tNil)))) (hn : ds.length = n) (h0 : 0 < n) (h1 : n ≤ 900)
    (ho : ∀ {te ti : TE}, PE X a te → PE X i ti → PE X (.Subscript a i p3) (tOp (rIxL X.K) te ti)) :
    PE X (.Subscript a i p3) (tPickB X.K S Γ ib ds fun H v d => Dv X.K (offB H S) v d) :=
  pe_imp (ho ha hi) fun σ H Q ⟨s0, l, m, es, hs, hl, hm, hS, hF, en, q⟩ => ⟨hF, en, fun H1 v k1 bt => by
    obtain ⟨p, vs, rfl, hp, np, c⟩ := bt.ls _ rfl
    have hs2 := k1 _ _ hs
    have nas : p ≠ s0 := fun z => by rw [z, hS] at np; cases np
    refine ⟨.ref s0, es, s0, l, m, (n : Nat), rfl, hs2, hl, hm, by omega, by omega, fun l2 r hl2 r0 r1 => ?_⟩
    obtain ⟨j, rfl⟩ : ∃ j : Nat, r = (j : Int) := ⟨r.toNat, by omega⟩
    obtain ⟨u, hu, du⟩ := c.at_ (List.getElem?_eq_getElem (show j < ds.length by omega))
    refine ⟨p, vs, (j : Nat), u, rfl, rfl, SqL.of (by rw [upd_ne nas]; exact hp), atI_nat hu, ?_⟩
    exact q _ u _ l2 ((Ch.refl.sm k1).trans Ch.src) upd_same hl2 (List.getElem_mem _) (du.same (offB_ch Ch.src hS))⟩
end
end Ln


set_option Elab.async false
set_option linter.all false
set_option maxRecDepth 100000
set_option maxHeartbeats 4000000
/-! own rules: lists walked, pairs taken apart and lists made where an exception is being handled -/
namespace LHot
open PySem PySem.Spec PyProof.Rows L2 HotX L2H
section
variable {prog : Program} {w : World} {A : Around} {E : Value → Shared → Prop} {s : Shared}
/-- an iterator over a list or a tuple is not the exception that is handled -/
theorem hot_ne {x1 q : Addr} {o : Obj} {a b : Value} (hot : HotAt A x1 s.heap) (ho : s.heap.get? q = some o) (hd : o.data = .fields #[a, b]) : x1 ≠ q := fun z => by
  obtain ⟨_, o1, v1, g1, d1, c1⟩ := hot
  rw [z, ho] at g1
  cases g1
  rw [hd] at d1
  cases d1
  cases c1
theorem hot_keep {x1 q : Addr} {f : Obj → Obj} (hot : HotAt A x1 s.heap) (n : x1 ≠ q) : HotAt A x1 (s.heap.update q f) := by
  obtain ⟨hh, o1, v1, g1, d1, c1⟩ := hot
  exact ⟨hh, o1, v1, (Heap.get?_update_other _ _ n.symm).trans g1, d1, c1⟩
/-- what a walk's end does: StopIteration is made, raised and caught -/
theorem stop_hot {x1 : Addr} {α : Type} {Qf : α → Shared → Prop} {R : Value → Shared → Prop} (hot : HotAt A x1 s.heap)
    (h : ∀ (a : Addr) (h' : Heap), Shared.TypeIs { s with heap := h' } (.ref a) "StopIteration" → (∀ b o, s.heap.get? b = some o → h'.get? b = some o) → R (.ref a) { s with heap := h' }) :
    wpAny (model prog w) A ((do let e ← newExc (.type "StopIteration") []; raiseNew e) : Sem α) Qf R s := by
  obtain ⟨hh, o1, v1, g1, d1, c1⟩ := hot
  refine wpAny_bind ?_
  simp only [newExc, newTuple]
  refine wpAny_bind (wpAny_newObj_type ?_ (by size_fits))
  refine wpAny_bind (m := firstArgMember _ _) (wpAny_of_eq (a := Value.none) (by first | rfl | (simp only [firstArgMember]; rfl)) ?_)
  refine wpAny_newObj_type ?_ (by size_fits)
  have g2 := Heap.get?_push_of_some { cls := .type "tuple", data := .seq #[] } g1
  refine raiseNew_hot ⟨hh, o1, v1, Heap.get?_push_of_some _ (Heap.get?_push_of_some _ g1), d1, c1⟩ (Nat.ne_of_lt (Heap.lt_size (Heap.get?_push_of_some _ g1))) (Heap.get?_push_size _ rfl) rfl (by first | (simp; done) | (simp; omega) | (simp only [Array.size_append]; simp; omega)) ?_
  refine h _ _ ⟨_, Heap.get?_update_self _ (Heap.get?_push_size _ rfl) rfl, rfl⟩ fun b o e => ?_
  rw [Heap.get?_update_other _ _ (Nat.ne_of_gt (Heap.lt_size (Heap.get?_push_of_some _ e)))]
  exact Heap.get?_push_of_some _ (Heap.get?_push_of_some _ e)
theorem end_list {q tq x1 : Addr} {k : Nat} {its : Array Value} {Q : Option Value → Shared → Prop} (hot : HotAt A x1 s.heap) (hi : s.heap.IsListIter q tq k) (hs : s.heap.IsList tq its) (hn : its[k]? = none)
    (h : ∀ h', Heap.ExtBut q s.heap h' → Q none { s with heap := h' }) : wpAny (model prog w) A (pyNext (.ref q)) Q E s := by
  obtain ⟨oq, eq, cq, dq⟩ := id hi
  obtain ⟨ot, et, _, nt, dt⟩ := hs
  unfold pyNext
  refine wpAny_bind (wpAny_attempt (wpAny_callSpecial?_slot (name := Str.ofString "__next__") hi.typeIs slot_listiter_next (wpAny_call_entry slot_listiter_next hi.typeIs entry_listiter_next ?_ (args_listiter_next _))))
  show wpAny _ _ (field (.ref q) 0 >>= _) _ _ s
  refine wpAny_bind (wpAny_field eq dq (x := .ref tq) rfl ?_)
  show wpAny _ _ (if (Value.ref tq == Value.none) = true then _ else _) _ _ s
  rw [if_neg (fun z : (Value.ref tq == Value.none) = true => Bool.false_ne_true z)]
  show wpAny _ _ (field (.ref q) 1 >>= _) _ _ s
  refine wpAny_bind (wpAny_field eq dq (x := .int k 0) rfl ?_)
  show wpAny _ _ (seqItems? (.ref tq) >>= _) _ _ s
  refine wpAny_bind (wpAny_seqItems et dt ?_)
  simp only [Int.toNat_natCast, hn]
  refine wpAny_bind (wpAny_rule (wpAny_bind (wpAny_setField eq dq (by simp) ?_)))
  show wpAny _ _ (newExc (.type "StopIteration") [] >>= fun e => raiseNew e) _ _ _
  refine stop_hot (A := A.in1) (x1 := x1) ?_ fun a h' ty kp => ?_
  · exact hot_keep hot (hot_ne hot eq dq)
  refine wpAny_bind (wpAny_isInstance (T := "StopIteration") (b := true) ty isSubtype_stop ?_)
  refine wpAny_pure (h _ fun b o nb e => kp b o ?_)
  exact (Heap.get?_update_other _ _ (Ne.symm nb)).trans e
theorem end_tup {q tq x1 : Addr} {k : Nat} {its : Array Value} {Q : Option Value → Shared → Prop} (hot : HotAt A x1 s.heap) (hi : IsTupIter s.heap q tq k) (hs : IsTup s.heap tq its) (hn : its[k]? = none)
    (h : ∀ h', Heap.ExtBut q s.heap h' → Q none { s with heap := h' }) : wpAny (model prog w) A (pyNext (.ref q)) Q E s := by
  obtain ⟨oq, eq, cq, dq⟩ := id hi
  obtain ⟨ot, et, _, nt, dt⟩ := hs
  unfold pyNext
  refine wpAny_bind (wpAny_attempt (wpAny_callSpecial?_slot (name := Str.ofString "__next__") hi.typeIs slot_tupleiter_next (wpAny_call_entry slot_tupleiter_next hi.typeIs entry_tupleiter_next ?_ (args_tupleiter_next _))))
  show wpAny _ _ (field (.ref q) 0 >>= _) _ _ s
  refine wpAny_bind (wpAny_field eq dq (x := .ref tq) rfl ?_)
  show wpAny _ _ (if (Value.ref tq == Value.none) = true then _ else _) _ _ s
  rw [if_neg (fun z : (Value.ref tq == Value.none) = true => Bool.false_ne_true z)]
  show wpAny _ _ (field (.ref q) 1 >>= _) _ _ s
  refine wpAny_bind (wpAny_field eq dq (x := .int k 0) rfl ?_)
  show wpAny _ _ (seqItems? (.ref tq) >>= _) _ _ s
  refine wpAny_bind (wpAny_seqItems et dt ?_)
  simp only [Int.toNat_natCast, hn]
  refine wpAny_bind (wpAny_rule (wpAny_bind (wpAny_setField eq dq (by simp) ?_)))
  show wpAny _ _ (newExc (.type "StopIteration") [] >>= fun e => raiseNew e) _ _ _
  refine stop_hot (A := A.in1) (x1 := x1) ?_ fun a h' ty kp => ?_
  · exact hot_keep hot (hot_ne hot eq dq)
  refine wpAny_bind (wpAny_isInstance (T := "StopIteration") (b := true) ty isSubtype_stop ?_)
  refine wpAny_pure (h _ fun b o nb e => kp b o ?_)
  exact (Heap.get?_update_other _ _ (Ne.symm nb)).trans e
/-- a tuple taken apart -/
theorem apart_hot {env : Env} {es : List Expr} {c : Nat} {pos : Pos} {tq x1 : Addr} {its : Array Value} {Q : Unit → Shared → Prop} (hot : HotAt A x1 s.heap) (ht : IsTup s.heap tq its) (hn : (assignEach es env).length = its.size) (hst : (assignEach es env).findIdx? (·.1) = none)
    (h : ∀ h', (∀ b o, s.heap.get? b = some o → h'.get? b = some o) → wpAny (model prog w) A (assignInOrder ((assignEach es env).map (·.2)) its.toList) Q E { s with heap := h' }) : wpAny (model prog w) A (assign (.Tuple es c pos) env (.ref tq)) Q E s := by
  rw [assign_Tuple]
  refine wpAny_bind (wpAny_standAt ?_)
  unfold unpack
  rw [hn, hst]
  refine wpAny_bind (wpAny_holding ?_)
  have nt : tq ≠ s.heap.objs.size := by
    obtain ⟨o, e, _⟩ := ht
    exact Nat.ne_of_lt (Heap.lt_size e)
  unfold unpackItems
  refine wpAny_bind ?_
  unfold notIterableAtAll
  refine wpAny_bind (wpAny_specialOf ht.typeIs slot_tuple_iter.lookup (wpAny_pure ?_))
  simp only [Bool.false_eq_true, if_false]
  refine wpAny_bind (wpAny_holding (iter_tuple ht (wpAny_bind (wpAny_holding (draw_tuple nt its.size 0 _ _ ⟨_, Heap.get?_push_size _ rfl, rfl, rfl⟩ (ht.push _) (by omega) fun h1 i1 s1 => ?_)))))
  have t1 : IsTup h1 tq its := (ht.push _).extBut s1.extBut nt
  have hot1 : HotAt A x1 h1 := by
    obtain ⟨hh, o1, v1, g1, d1, c1⟩ := hot
    exact ⟨hh, o1, v1, s1.extBut _ _ (Nat.ne_of_lt (Heap.lt_size g1)) (Heap.get?_push_of_some _ g1), d1, c1⟩
  rw [List.drop_zero, List.take_of_length_le (by simp), if_neg (by simp)]
  refine wpAny_bind (wpAny_holding (end_tup hot1 i1 t1 (by simp) fun h2 e2 => ?_))
  simp only [Option.isSome_none, Bool.false_eq_true, if_false]
  refine wpAny_pure (h h2 fun b o e => ?_)
  have nb := Nat.ne_of_lt (Heap.lt_size e)
  exact e2 b o nb (s1.extBut b o nb (Heap.get?_push_of_some _ e))
end
theorem turn_listL {P : Program} {w : World} {K : PySem.W.Frag} {tg : Expr} (a it : Addr) : TurnH P w K tg (Itl K a) [it] it (fun i h => h.IsListIter it a i) where
  mem := List.mem_singleton.mpr rfl
  obj := fun i h st b hb => by
    obtain rfl := List.mem_singleton.mp hb
    obtain ⟨o, e, _, d⟩ := st
    exact ⟨o, e, fun v z => by rw [d] at z; cases z⟩
  keep := fun i h h' st k => st.at fun o e => k it (List.mem_singleton.mpr rfl) o e
  item := fun X hP hw hK hc i pins s σ H E I hf st hg => by
    subst hP hw hK
    obtain ⟨xs, x, hq, hx⟩ := hg
    obtain ⟨us, rv, p, _⟩ := I.list hq
    obtain ⟨u, hu, ru⟩ := rv.get hx
    obtain ⟨f0, f1, f2, f3, f4, f5⟩ := hf it (List.mem_singleton.mpr rfl)
    refine wpAny_pyNext_list_item st p.isList (x := u) (by simpa using hu) fun h' st' sb => ⟨u, rfl, ?_⟩
    obtain ⟨o, e, c, d⟩ := id st'
    refine go_of (s := { s with heap := h' }) e c d (by decide) ⟨x, H, ?_, ru, ⟨rfl, fun ys hy => by rw [I.list_inj hy hq]; exact hx⟩, st', fun b hb => (hf b hb).1⟩
    exact I.turned (t' := s.toks) (fun b o nb e => (sb.2 b nb).trans e) f0 f1 f3 f4 f5
  done := fun X hP hw hK hc i pins s σ H E I hf st hg => by
    subst hP hw hK
    obtain ⟨xs, hq, hx⟩ := hg
    obtain ⟨us, rv, p, _⟩ := I.list hq
    obtain ⟨f0, f1, f2, f3, f4, f5⟩ := hf it (List.mem_singleton.mpr rfl)
    have hl := rv.length
    obtain ⟨x1, hot⟩ := hc.at I
    exact end_list hot st p.isList (by simp; omega) fun h' eb => ⟨rfl, I.turned (t' := s.toks) (fun b o nb e => eb b o nb e) f0 f1 f3 f4 f5⟩
  self := fun _ _ _ _ _ st h => wpAny_pyIter_listiter st h
section
variable {X : Cx} {tg : Expr}
theorem pi_listL {l : Expr} {tl : TE} (hl : PE X l tl) : PIH X tg l (iList X.K tl) := by
  refine ⟨fun pins s σ H R I h => thn (hl.run pins s σ H _ I h) fun v s1 ⟨x, H1, I1, r1, a, ex, ⟨xs, hq⟩, q⟩ => ?_⟩
  subst ex
  cases r1
  obtain ⟨us, _, p, _⟩ := I1.list hq
  refine wpAny_pyIter_list p.isList ⟨s1.heap.objs.size, [s1.heap.objs.size], _, _, H1, rfl, I1.kept (t' := s1.toks) fun b o e => Heap.get?_push_of_some _ e, turn_listL a _, ⟨_, Heap.get?_push_size _ rfl, rfl, rfl⟩, fun b hb => ?_, q⟩
  obtain rfl := List.mem_singleton.mp hb
  exact I1.fpOk (Nat.le_refl _) (I1.hok.fresh (Nat.le_refl _))
theorem pg_tupL {es : List Expr} {k n : Nat} {t : TGs} {pos : Pos} (hc : HotC X) (h : PGs X es t) (hn : (assignEach es X.env).length = n := by rfl) (hst : (assignEach es X.env).findIdx? (·.1) = none := by rfl) : PG X (.Tuple es k pos) (gTup X.K n t) := by
  refine ⟨fun pins s σ H v u Q I r ⟨a, xs, ev, hq, hl, hw⟩ => ?_⟩
  subst ev
  cases r
  obtain ⟨us, rv, ht, _⟩ := I.tuple hq
  obtain ⟨x1, hot⟩ := hc.at I
  refine apart_hot hot ht (by simp [hn, ← hl, rv.length]) hst fun h' hx => ?_
  exact h.run pins _ σ H xs _ Q (I.kept (t' := s.toks) hx) (by simpa using rv) hw
/-- the block of a list that is made while an exception is handled: the exception stays pinned -/
abbrev blkL (X : Cx) (s : Shared) (H : Hp) (scope : Scope) (cenv : Env) (fp : List Addr) : Cx := { X.blk s H scope cenv fp with pn := X.pn }
theorem startL {pins : List (Addr × Obj)} {σ : L2.St} {H : Hp} {s : Shared} {scope : Scope} {own : List (Str × Nat)} {fp : List Addr} (I : Inv X pins σ H s) (ok : BlkOk X.N X.env.scope scope own) (hN : X.N.Nodup) (hfp : ∀ b ∈ fp, FpOk X pins H b ∧ b < s.heap.objs.size) :
    Inv (blkL X s H scope (compEnvC scope (cellsFrom (s.heap.objs.size + 1) scope.names (cloFrom X.env.cells scope.names [])) s.heap.objs.size X.env) fp) [] (wipe σ (own.map (·.2))) H { s with heap := pushCells (s.heap.push { cls := .type "dict", data := .dict #[] }) scope.names } := by
  have J := block_start I ok hN hfp
  have k := J.ok
  refine ⟨⟨k.mod, k.kind, k.glob, k.blt, k.above, k.inj, k.has, k.cab, k.hd, k.frames, k.stk, k.exf, k.bs, k.bsz, k.noex, k.exfs, k.funs, k.frf⟩, J.os, J.bare, J.base, J.loc, J.cell, J.free, J.freeC, fun p hp => ?_, J.hok, J.len⟩
  have hp : p ∈ X.pn := by simpa using hp
  obtain ⟨g, f, nl, nf, nc⟩ := I.pin p (List.mem_append_left _ hp)
  refine ⟨pushCells_keeps _ _ _ _ (Heap.get?_push_of_some _ g), f, ?_, fun z => ?_, nc⟩
  · exact Nat.ne_of_lt (Heap.lt_size g)
  · rcases List.mem_cons.mp (I.stkSub p.1 z) with w | w
    · exact nl w
    · exact nf w
/-- [e for x in xs if t] while an exception is handled -/
theorem pe_lcL {elt iter : Expr} {ifs : List Expr} {scope : Scope} {own : List (Str × Nat)} {pos : Pos} {wi : TI} {g : TG} {tt : TT} {te : TE} (hc : HotC X) (hN : X.N.Nodup) (hi : PIH X tg iter wi) (ok : BlkOk X.N X.env.scope scope own)
    (hg : ∀ (s : Shared) (H : Hp) (C : Addr) (cl : List (Str × Addr)) (fp : List Addr), PG (blkL X s H scope (compEnvC scope cl C X.env) fp) tg g) (ht : ∀ (s : Shared) (H : Hp) (C : Addr) (cl : List (Str × Addr)) (fp : List Addr), PTs (blkL X s H scope (compEnvC scope cl C X.env) fp) ifs tt)
    (he : ∀ (s : Shared) (H : Hp) (C : Addr) (cl : List (Str × Addr)) (fp : List Addr), PE (blkL X s H scope (compEnvC scope cl C X.env) fp) elt te) (hs : ∀ x, foldedSetIterable iter X.env x = pure x := by intro _; rfl) :
    PE X (.ListComp elt [⟨tg, iter, ifs, 0⟩] scope pos) (tLc wi g tt te (own.map (·.2))) := by
  refine ⟨fun pins s σ H Q I h => ?_⟩
  rw [eval_ListComp]
  have cells : ∀ y ∈ scope.names, y.2 = .free → ∃ c, X.env.cells.lookup y.1 = some c := fun y hy e => I.ok.has _ (ok.free y hy e)
  refine wpAny_comprehension_free (use := none) rfl hs (closure_ok cells) ok.kind (fun y hy e => by rw [ok.uniq y hy, e]) (thn (hi.run pins s σ H _ I h) fun xv s1 hx => thn hx fun itv s2 ⟨it, fp, tn, J, H2, eit, I2, T, st2, f2, q⟩ => ?_)
  subst eit
  refine wpAny_newObj_type (newEnv_comp ?_) (by show 0 ≤ sizeLine; decide)
  generalize eD : s2.heap.objs.size = D
  obtain ⟨W, ⟨m0, w0⟩, turn⟩ := q D (I2.hok.fresh (Nat.le_of_eq eD))
  -- the list that is being made
  generalize e3 : ({ s2 with heap := s2.heap.push { cls := .type "list", data := .seq ([] : List Value).toArray } } : Shared) = s3
  have grow : ∀ b o, s2.heap.get? b = some o → s3.heap.get? b = some o := fun b o e => by rw [← e3]; exact Heap.get?_push_of_some _ e
  have I3 : Inv X pins σ (upd H2 D (.lst [])) s3 := by
    rw [← e3]
    refine I2.laid (t' := s2.toks) (fun b o e => Heap.get?_push_of_some _ e) (Nat.le_of_eq eD) ⟨Nat.zero_le _, [], 0, .nil, ?_⟩
    rw [← eD]
    exact Heap.get?_push_size _ rfl
  have old : ∀ b ∈ fp, b < s2.heap.objs.size := fun b hb => (T.obj _ _ st2 b hb).elim fun o e => Heap.lt_size e.1
  have f3 : ∀ b ∈ fp, FpOk X pins (upd H2 D (.lst [])) b ∧ b < s3.heap.objs.size := fun b hb => by
    have lt := old b hb
    refine ⟨⟨?_, (f2 b hb).2⟩, by rw [← e3]; show b < (Heap.push _ _).objs.size; rw [Heap.size_push]; exact Nat.lt_succ_of_lt lt⟩
    rw [upd_ne (by rw [← eD]; exact Nat.ne_of_lt lt)]
    exact (f2 b hb).1
  have st3 : tn 0 s3.heap := T.keep _ _ _ st2 fun b _ o e => grow b o e
  have I4 := startL I3 ok hN f3
  show codeAny _ _ (.compStart (.ListComp elt [⟨tg, iter, ifs, 0⟩] scope pos) 0 (.ref it) (.ref D) (compEnvC scope (cellsFrom (s3.heap.objs.size + 1) scope.names (cloFrom X.env.cells scope.names [])) s3.heap.objs.size X.env)) (compPost (model X.prog X.w) X.A X.xe none (EP X pins σ Q) (.ref D) s3.heap.objs.size) { s3 with heap := pushCells (s3.heap.push { cls := .type "dict", data := .dict #[] }) scope.names }
  generalize ec : compEnvC scope (cellsFrom (s3.heap.objs.size + 1) scope.names (cloFrom X.env.cells scope.names [])) s3.heap.objs.size X.env = ce at I4 ⊢
  obtain ⟨H3, eH⟩ : ∃ H3 : Hp, H3 = upd H2 D (.lst []) := ⟨_, rfl⟩
  have pg : PG (blkL X s3 H3 scope ce fp) tg g := by rw [← ec]; exact hg _ _ _ _ _
  have pt : PTs (blkL X s3 H3 scope ce fp) ifs tt := by rw [← ec]; exact ht _ _ _ _ _
  have pe : PE (blkL X s3 H3 scope ce fp) elt te := by rw [← ec]; exact he _ _ _ _ _
  rw [← eH] at I4
  rw [← eH] at I3 w0 f3
  have hcB : HotC (blkL X s3 H3 scope ce fp) := hc
  have cL : ce.locals = s3.heap.objs.size := by rw [← ec]; rfl
  have notp : ∀ b ∈ fp, ∀ p ∈ X.pn, p.1 ≠ b := fun b hb p hp => (f2 b hb).2.2.2.2.2 p (List.mem_append_left _ hp)
  generalize e4 : ({ s3 with heap := pushCells (s3.heap.push { cls := .type "dict", data := .dict #[] }) scope.names } : Shared) = s4 at I4 ⊢
  have st4 : tn 0 s4.heap := T.keep _ _ _ st3 fun b _ o e => by rw [← e4]; exact pushCells_keeps _ _ _ _ (Heap.get?_push_of_some _ e)
  have here : ∀ {σ' : L2.St} {H' : Hp} {s' : Shared}, Inv (blkL X s3 H3 scope ce fp) [] σ' H' s' → (∀ b ∈ fp, H' b = none) → ∀ b ∈ fp, FpOk (blkL X s3 H3 scope ce fp) [] H' b := fun {σ' H' s'} J' n b hb =>
    ⟨n b hb, (J'.ok.exf b hb).1, J'.ok.exfs b hb, .inl hb, fun x c e => (J'.ok.exf b hb).2 x c e, fun p hp => notp b hb p (by simpa using hp)⟩
  have loop : codeAny (model X.prog X.w) X.A (.compLoop (.ListComp elt [⟨tg, iter, ifs, 0⟩] scope pos) 0 (.ref it) (.ref D) ce) (compPost (model X.prog X.w) X.A X.xe none (EP X pins σ Q) (.ref D) s3.heap.objs.size) s4 := by
    refine compLoop_any (fun n s' => ∃ i H', Inv (blkL X s3 H3 scope ce fp) [] (wipe σ (own.map (·.2))) H' s' ∧ tn i s'.heap ∧ (∀ b ∈ fp, H' b = none) ∧ W i n H') ?_ m0 ⟨0, H3, I4, st4, fun b hb => (f3 b hb).1.1, w0⟩
    rintro n s5 ⟨i, H5, I5, st5, n5, w5⟩
    rcases turn i n H5 w5 with ⟨stop, qq⟩ | ⟨go, Nx, hNx, step⟩
    · -- the end: back in the def's own context
      refine thnF (T.done (blkL X s3 H3 scope ce fp) rfl rfl rfl hcB i [] s5 _ H5 (fun _ _ => False) I5 (here I5 n5) st5 stop) fun r s6 ⟨hr, I6⟩ => ?_
      subst hr
      have I7 : Inv X pins σ H5 s6 := I3.call' (ch := fp) I6.os I6.base I6.hok I6.bare fun b hb => ⟨(f3 b hb).1.2.2.2.1, (f3 b hb).1.2.1, (f3 b hb).1.2.2.2.2.1, (f3 b hb).1.2.2.2.2.2⟩
      have nC : H5 s3.heap.objs.size = none := by rw [← cL]; exact I6.free
      obtain ⟨m, hn, _⟩ := I6.loc
      have hn : s6.heap.Ns ce.locals m := hn
      rw [cL] at hn
      obtain ⟨f0, f1, f2', f3', f4, f5⟩ := I3.fpOk (Nat.le_refl s3.heap.objs.size) nC
      exact ⟨m, hn, fun h'' sb => ⟨.ref D, H5, I7.turned (t' := s6.toks) (fun b o hb e => (sb.2 b hb).trans e) f0 f1 f3' f4 f5, rfl, qq⟩⟩
    · refine thnF (T.item (blkL X s3 H3 scope ce fp) rfl rfl rfl hcB i [] s5 _ H5 (fun _ _ => False) I5 (here I5 n5) st5 go) fun r s6 ⟨u, hr, h6⟩ => ?_
      subst hr
      refine thnF h6 fun _ s7 ⟨x, H7, I7, r7, y7, st7, n7⟩ => ?_
      refine thnF (pg.run _ s7 _ H7 x u _ (I7.pinned (here I7 n7) (T.obj _ _ st7)) r7 (step x H7 y7)) fun _ s8 ⟨σ8, H8, I8, hw8, q8⟩ => ?_
      refine thnF (pt.run _ s8 σ8 H8 _ I8 q8) fun b s9 ⟨H9, I9, q9⟩ => ?_
      have next : ∀ {s' : Shared} {H' : Hp}, Inv (blkL X s3 H3 scope ce fp) ([] ++ pinsAt fp s7.heap) σ8 H' s' → Nx H' → ∃ m, m < n ∧ ∃ i H', Inv (blkL X s3 H3 scope ce fp) [] (wipe σ (own.map (·.2))) H' s' ∧ tn i s'.heap ∧ (∀ b ∈ fp, H' b = none) ∧ W i m H' := fun {s' H'} J' nx => by
        obtain ⟨m', hm, w'⟩ := hNx H' nx
        have pins' : ∀ b ∈ fp, ∀ o, s7.heap.get? b = some o → s'.heap.get? b = some o ∧ H' b = none := fun b hb o e =>
          have z := J'.pin (b, o) (List.mem_append_right _ (List.mem_append_right _ (mem_pinsAt hb e)))
          ⟨z.1, z.2.1⟩
        refine ⟨m', hm, i + 1, H', (J'.unpinned (pins := [])).weak (by rw [← hw8, wipe_length]) (fun j v e => ?_), T.keep _ _ _ st7 fun b hb o e => (pins' b hb o e).1, fun b hb => ?_, w'⟩
        · rw [← hw8] at e
          exact (wipe_some e).1
        · obtain ⟨o, e, _⟩ := T.obj _ _ st7 b hb
          exact (pins' b hb o e).2
      cases b with
      | false =>
        simp only [Bool.false_eq_true, if_false] at q9 ⊢
        exact next I9 q9
      | true =>
        simp only [if_true] at q9 ⊢
        exact thnF (pe.run _ s9 σ8 H9 _ I9 q9) fun z s10 ⟨yv, H10, I10, r10, acc, hD10, hz10, nx⟩ => app_ok (X := blkL X s3 H3 scope ce fp) I10 hD10 hz10 r10 fun s11 I11 => next I11 nx
  exact codeAny_compStart_list loop (T.self X.A 0 _ _ _ st4 loop)
end
end LHot


set_option Elab.async false
set_option linter.all false
set_option maxRecDepth 100000
set_option maxHeartbeats 4000000
/-! own rules: a def of one parameter that is called in an except suite with the exception that is handled -/
namespace LHot
open PySem PySem.Spec PyProof.Rows L2 HotX L2H
/-- its promise: the exception's place, its class -/
abbrev SpE := Addr → Addr → Hp → VK → Prop
structure FnE (P : Program) (w : World) (K : PySem.W.Frag) (mg : Str → Option Value) (base : Heap) (k : Nat) (f : Addr) (fd : FuncData) (x : Str) (sp : SpE) : Prop where
  run : ∀ (A : Around) (outer : List Env) (s : Shared) (H : Hp) (args : Args) (us : List Value) (Q : VK) (p : Addr × Obj) (D : Addr), RoomH k A → Hot1 A p → Zc (.ref D) none p.2 → (∃ vs, p.2.data = .fields vs) → PinOk outer H s p → Env0 P w K mg base A outer s H → BindsTo s fd args ([x].zip us) → Vals [V.ref p.1] us → sp p.1 D H Q →
    codeAny (model P w) A (.call (.ref f) args) (CR CX0 outer P w H s Q E0) s
section
variable {P : Program} {w : World} {K : PySem.W.Frag} {mg : Str → Option Value} {base : Heap}
theorem fnE_of {k : Nat} {f : Addr} {x name qual : Str} {params : Arguments} {body : List Stmt} {scope : Scope} {dV kV doc pm cdv ct oc : Value} {an od : Option Addr} {osl : Array (Option Value)} {N : List Str} {sp : SpE}
    (lk : K.lookup f = some ⟨oc, od, .func (PySem.W.fnOf name qual params body scope dV kV doc pm an cdv ct), osl⟩) (hcd : PySem.W.codeIn K cdv qual = true) (S : FnScope N [x] scope)
    (hbody : ∀ (A : Around) (outer : List Env) (s : Shared) (H : Hp) (Q : VK) (p : Addr × Obj) (D : Addr), Hot1 A p → Zc (.ref D) none p.2 → (∃ vs, p.2.data = .fields vs) → RoomH k (A.deeper (envOfC qual scope s.heap.objs.size f cdv)) → sp p.1 D H Q →
      ∃ t, PSs (cxH CX0 P w K mg base N qual scope f cdv A outer s H E0 p) body t ∧ t { nx := fun _ H' => Q .non H', rt := Q } (L2.start N [V.ref p.1]) H) :
    FnE P w K mg base (k + 1) f (PySem.W.fnOf name qual params body scope dV kV doc pm an cdv ct) x sp := by
  refine ⟨fun A outer s H args us Q p D hr hot hz hf hpin e0 hb r hsp => ?_⟩
  have KX : K.In s.heap := e0.mod.kin.keeps fun b o e => (e0.bs b o e).1
  have lim : s.heap.NoLimit := e0.mod.nolimit.keeps fun b o e => (e0.bs b o e).1
  have kinds : ∀ y ∈ [x].zip us, scope.names.lookup y.1 = some .local ∨ (scope.names.lookup y.1 = some .cell ∧ ((cellsFrom (s.heap.objs.size + 1) scope.names []).lookup y.1).isSome = true) := fun y hy =>
    (S.par y.1 (List.of_mem_zip (a := y.1) (b := y.2) hy).1).imp id fun q => ⟨q, PySem.W.cellsFrom_some _ _ _ (.inl q)⟩
  refine codeAny_call_function hr.depth (KX _ _ lk) rfl S.co S.gen rfl (PySem.W.codeRec_of KX hcd) (hb _ _ _ _ (wpAny_newFunctionEnv_cells S.kind kinds fun env he s1 z => ?_))
  subst he
  refine ⟨lim.keeps z.toInCall.keep, codeAny_func ?_⟩
  obtain ⟨t, ht, hq⟩ := hbody A outer s H Q p D hot hz hf (hr.deeper _) hsp
  refine wpAny_mono (ht.run [] s1 (L2.start N [V.ref p.1]) H _ (inv_startH S hpin e0 rfl r z) hq) (fun fl s' hs => ?_) fun e s' hs => hs
  cases fl with
  | ret u =>
    obtain ⟨v, σ', H', J, rv, q⟩ := hs
    exact ⟨v, H', J.os, J.bare, J.base, J.hok, rv, q⟩
  | next =>
    obtain ⟨σ', H', J, q⟩ := hs
    exact ⟨.non, H', J.os, J.bare, J.base, J.hok, rfl, q⟩
  | brk => exact hs.elim fun _ h => h.elim fun _ h => h.2.elim
  | cont => exact hs.elim fun _ h => h.elim fun _ h => h.2.elim
theorem okE {x z qual : Str} {st : Stmt} {f : Addr} {fd : FuncData} {N : List Str} {k : Nat} {sp : SpE} (F : Fun K x qual st f fd) (S : FnScope N [z] (defScope st))
    (hbody : ∀ (cdv : Value) (A : Around) (outer : List Env) (s : Shared) (H : Hp) (Q : VK) (p : Addr × Obj) (D : Addr), Hot1 A p → Zc (.ref D) none p.2 → (∃ vs, p.2.data = .fields vs) → RoomH k (A.deeper (envOfC qual (defScope st) s.heap.objs.size f cdv)) → sp p.1 D H Q →
      ∃ t, PSs (cxH CX0 P w K mg base N qual (defScope st) f cdv A outer s H E0 p) (defBody st) t ∧ t { nx := fun _ H' => Q .non H', rt := Q } (L2.start N [V.ref p.1]) H) : FnE P w K mg base (k + 1) f fd z sp := by
  obtain ⟨oc, od, kV, doc, pm, an, cdv, ct, osl, rfl, lk, hcd⟩ := F.ex
  exact fnE_of lk hcd S fun A outer s H Q p D h1 h2 h3 hr hsp => hbody cdv A outer s H Q p D h1 h2 h3 hr hsp
end
section
variable {X : Cx} {k : Nat} {f a D : Addr} {oe : Obj} {fd : FuncData} {z x : Str} {sp : SpE} {q pos : Pos} {e : Expr} {t : TA}
def tCallE (a D : Addr) (sp : SpE) (t : TA) : TE := fun σ H Q => t σ H fun vs H2 => vs = [.ref a] ∧ sp a D H2 Q
theorem pe_callE (F : FnE X.prog X.w X.K X.mg X.base k f fd z sp) (hr : RoomH k X.A) (hp : (a, oe) ∈ X.pn) (hot : Hot1 X.A (a, oe)) (hz : Zc (.ref D) none oe) (hf : ∃ vs, oe.data = .fields vs) (hg : Gl X x) (hm : X.mg x = some (.ref f)) (hk : PySem.W.keepIn X.K (.ref f) = true) (hb : Binds X.K fd [z] [])
    (ha : PA X [e] t) (hdb : (x == ("__debug__" : Str)) = false := by decide) (he : starEach [e] X.env = (false, eval e X.env) :: starEach [] X.env := by rfl) (hpl : (backTo pos (starEach [] X.env)).any (·.1) = false := by rfl) : PE X (.Call (.Name x q) [e] [] pos) (tCallE a D sp t) := by
  refine ⟨fun pins s σ H Q I h => wpAny_Call_Name_kw (ld_glob I hg hm ?_ hdb)⟩
  refine PySem.W.callWith_K (h₀ := X.base) I.ok.mod.kin hk (thn (ha.run pos pins s σ H _ I h) fun us s1 ⟨vs, H1, I1, r, ev, q⟩ => ⟨I1.kIn, ?_⟩) he hpl
  subst ev
  have b := hb s1 us I1.kIn (by rw [List.append_nil, ← r.length]; rfl)
  rw [List.append_nil] at b
  obtain ⟨g1, g2, g3, g4, g5⟩ := I1.pin (a, oe) (List.mem_append_left _ hp)
  have pin : PinOk X.stack H1 s1 (a, oe) := ⟨g1, g2, fun hm => (List.mem_cons.mp (I1.stkSub a hm)).elim g3 g4, g5⟩
  refine wpAny_call (codeAny_mono (F.run X.A X.stack s1 H1 ⟨us, []⟩ us Q (a, oe) D hr hot hz hf pin I1.env0 b r q) fun r' s' hq => ?_)
  cases r' with
  | error _ => exact hq.elim
  | ok fl =>
    cases fl with
    | ret u => exact I1.after hq
    | _ => exact hq.elim
/-- isinstance(e, C) of an exception that stands pinned -/
theorem call_isP (hp : (a, oe) ∈ X.pn) (C : ExcC X.K D) (hz : Zc (.ref D) none oe) (hf : ∃ vs, oe.data = .fields vs) : CallR X (.builtin "isinstance") (rIsE X.K D a) := by
  intro pins s σ H xs us Q I r ⟨c, cv, b, ex, hcv, e, q⟩
  subst ex
  match us, r with
  | _, .cons rx (.cons rt .nil) =>
    cases rx
    obtain rfl := hcv _ rt
    obtain ⟨vs, hv⟩ := hf
    have J : PySem.W.InstAt s.heap a oe D none := by
      obtain ⟨oc, od, oda, osl⟩ := oe
      obtain ⟨h1, h2⟩ := hz
      cases h1
      cases h2
      cases hv
      exact ⟨(I.pin _ (List.mem_append.mpr (.inl hp))).1, rfl, rfl, trivial⟩
    exact PySem.W.kia_one (PySem.W.handS_kitx_exc C.hg C.hk C.hs C.hd C.ha C.hn C.ht C.hm) I.kIn J e (fun z => nomatch z) fun tk => ⟨.bl b, H, I.kept (t' := tk) fun _ _ z => z, rfl, q⟩
end
end LHot


set_option Elab.async false
set_option linter.all false
set_option maxRecDepth 100000
set_option maxHeartbeats 4000000
namespace Ln
open PySem PySem.Spec PyProof.Rows L2 GxR
/-! ### the raising defs, with exceptions whose context is None: for suites that call -/
def sideD : PyData → Bool
  | .str y => sideB y
  | _ => false
def sidesD (n : Nat) : PyData → Bool
  | .list ds => decide (ds.length = n) && ds.all sideD
  | _ => false
section
variable {P : Program} {w : World} {K : PySem.W.Frag} {mg : Str → Option Value} {base : Heap} {Ps : List Addr}
theorem okN {x qual : Str} {st : Stmt} {f : Addr} {fd : FuncData} {N ps : List Str} {k : Nat} {sp : Sp} (F : Fun K x qual st f fd) (S : FnScope N ps (defScope st)) (len : ∀ vs H Q E, sp vs H Q E → vs.length = ps.length)
    (hbody : ∀ (cdv : Value) (A : Around) (outer : List Env) (s : Shared) (H : Hp) (vs : List V) (Q : VK) (E : XK), Room k (A.deeper (envOfC qual (defScope st) s.heap.objs.size f cdv)) → sp vs H Q E →
      ∃ t, PSs (cxOf (L2N.CX P w) P w K mg base N qual (defScope st) f cdv A outer s H E) (defBody st) t ∧ t { nx := fun _ H' => Q .non H', rt := Q } (start N vs) H) : FnOk P w K mg base (L2N.CX P w) (k + 1) f fd ps sp := by
  obtain ⟨oc, od, kV, doc, pm, an, cdv, ct, osl, rfl, lk, hcd⟩ := F.ex
  exact fn_of lk hcd S len fun A outer s H vs Q E hr hsp => hbody cdv A outer s H vs Q E hr hsp
theorem okNC {x qual : Str} {st : Stmt} {f : Addr} {fd : FuncData} {c : Addr} {N ps : List Str} {k : Nat} {sp : Sp} (F : FunC K x qual st f fd c) (S : FnScope N ps (defScope st)) (len : ∀ vs H Q E, sp vs H Q E → vs.length = ps.length)
    (hbody : ∀ (A : Around) (outer : List Env) (s : Shared) (H : Hp) (vs : List V) (Q : VK) (E : XK), Room k (A.deeper (envOfC qual (defScope st) s.heap.objs.size f (.ref c))) → sp vs H Q E →
      ∃ t, PSs (cxOf (L2N.CX P w) P w K mg base N qual (defScope st) f (.ref c) A outer s H E) (defBody st) t ∧ t { nx := fun _ H' => Q .non H', rt := Q } (start N vs) H) : FnOk P w K mg base (L2N.CX P w) (k + 1) f fd ps sp := by
  obtain ⟨oc, od, kV, doc, pm, an, ct, osl, rfl, lk, hcd⟩ := F.ex
  exact fn_of lk hcd S len fun A outer s H vs Q E hr hsp => hbody A outer s H vs Q E hr hsp
theorem liftN {k : Nat} {f : Addr} {fd : FuncData} {ps : List Str} {sp : Sp} (F : FnOk P w K mg base CX0 k f fd ps sp) : FnOk P w K mg base (L2N.CX P w) k f fd ps sp := by
  refine ⟨F.len, fun A outer s H args us vs Q E hr he hb hv hs => codeAny_mono (F.run A outer s H args us vs Q E hr he hb hv hs) fun r s' h => ?_⟩
  cases r with
  | ok x =>
    cases x with
    | ret u => exact h
    | _ => exact h
  | error e => exact h.elim
theorem ok_reqLaneN {f fL C : Addr} {fd fdL : FuncData} (F : Fun K "require_lane" "require_lane" sReqLane f fd) (XC : Xc K mg "InvalidLane" C)
    (GL : FnOk P w K mg base CX0 4 fL fdL ["value"] (spLaneA K Ps)) (mgL : mg "is_lane" = some (.ref fL)) (kL : PySem.W.keepIn K (.ref fL) = true) (bL : Binds K fdL ["value"] []) : FnOk P w K mg base (L2N.CX P w) 5 f fd ["value"] (spReqLaneX K Ps C) := by
  refine okN F scReqLane (fun vs H Q E h => ?_) (fun cdv A outer s H vs Q E hr h => ?_)
  · obtain ⟨v, d, rfl, _⟩ := h
    rfl
  · obtain ⟨v, d, rfl, hd, hl, hT, q1, q2⟩ := h
    refine ⟨_, pss_one (ps_if (pt_not (pt_val (pe_call GL hr (by rfl) mgL kL bL .nil pass0 (pa_cons (pv 0) pa_nil)))) (pss_one (L2N.ps_raise rfl (L2N.takes_of rfl rfl rfl rfl) (L2N.pmk_own PySem.F.excBase_ValueError XC.x XC.g XC.k (raises_own XC.b XC.t) rfl))) pss_nil), ?_⟩
    refine ⟨v, rfl, v, d, rfl, hd, hl, hT, fun H' kp => ⟨_, rfl, ?_⟩⟩
    cases h : laneD d with
    | true => exact iteF (q1 h H' kp)
    | false => exact iteT (q2 h H' kp)
theorem ok_logNb {f fR CL : Addr} {fd fdR : FuncData} (F : Fun K "is_log" "is_log" sIsLog f fd)
    (GR : FnOk P w K mg base (L2N.CX P w) 5 fR fdR ["value"] (spReqLaneX K Ps CL)) (mgR : mg "require_lane" = some (.ref fR)) (kR : PySem.W.keepIn K (.ref fR) = true) (bR : Binds K fdR ["value"] []) : FnOk P w K mg base (L2N.CX P w) 6 f fd ["start", "value"] (spLogXb K Ps CL) := by
  refine okN F scIsLog (fun vs H Q E h => ?_) (fun cdv A outer s H vs Q E hr h => ?_)
  · obtain ⟨v, u, d, rfl, _⟩ := h
    rfl
  · obtain ⟨v, u, d, rfl, hd, hz, hT, hb, q⟩ := h
    refine ⟨_, pss_cons (ps_expr (pe_call GR hr (by rfl) mgR kR bR .nil (L2N.passes_call (L2N.takes_of rfl rfl rfl rfl) fun _ _ _ _ h => h) (pa_cons (pv 0) pa_nil))) pss_dead, ?_⟩
    exact ⟨v, rfl, v, d, rfl, hd, (fun ds e => by have := hz.1 ds e; omega), hT, (fun z => by rw [hb] at z; cases z), fun _ => q⟩
theorem ok_logN {f CL : Addr} {fd : FuncData} (h1 : FnOk P w K mg base CX0 6 f fd ["start", "value"] (spLogA K Ps)) (h2 : FnOk P w K mg base (L2N.CX P w) 6 f fd ["start", "value"] (spLogXb K Ps CL)) : FnOk P w K mg base (L2N.CX P w) 6 f fd ["start", "value"] (spLogX K Ps CL) :=
  (fn_or (liftN h1) h2).imp fun vs H Q E ⟨v, u, d, e, ev, hd, he, hz, hz2, hT, q1, q2⟩ => by
    cases hl : laneO d with
    | none => exact .inr ⟨v, u, d, ev, hd, hz, hT, laneO_none hl, q1 hl⟩
    | some xs =>
      obtain ⟨⟨ds, rfl, hs⟩, hB, _⟩ := laneO_some hl
      cases hd with
      | @tup a vs _ hS hA =>
        obtain ⟨e1, e2, e3⟩ := hA.strs hs
        subst e1
        have hlen := hz.1 ds rfl
        rw [e2, List.length_map] at hlen
        exact .inl ⟨a, u, xs, e, ev, ⟨hS, hlen, e3⟩, hB, he, hz2.2, hT, q2 xs hl⟩
theorem ok_reqLogN {f fL CL CG : Addr} {fd fdL : FuncData} (F : Fun K "require_log" "require_log" sReqLog f fd) (XG : Xc K mg "InvalidLog" CG)
    (GL : FnOk P w K mg base (L2N.CX P w) 6 fL fdL ["start", "value"] (spLogX K Ps CL)) (mgL : mg "is_log" = some (.ref fL)) (kL : PySem.W.keepIn K (.ref fL) = true) (bL : Binds K fdL ["start", "value"] []) : FnOk P w K mg base (L2N.CX P w) 7 f fd ["start", "log"] (spReqLogX K Ps CL CG) := by
  refine okN F scReqLog (fun vs H Q E h => ?_) (fun cdv A outer s H vs Q E hr h => ?_)
  · obtain ⟨v, u, d, e, rfl, _⟩ := h
    rfl
  · obtain ⟨v, u, d, e, rfl, hd, he, hz, hz2, hT, q⟩ := h
    refine ⟨_, pss_one (ps_if (pt_not (pt_val (pe_call GL hr (by rfl) mgL kL bL .nil (L2N.passes_call (L2N.takes_of rfl rfl rfl rfl) fun _ _ _ _ h => h) (pa_cons (pv 0) (pa_cons (pv 1) pa_nil))))) (pss_one (L2N.ps_raise rfl (L2N.takes_of rfl rfl rfl rfl) (L2N.pmk_own PySem.F.excBase_ValueError XG.x XG.g XG.k (raises_own XG.b XG.t) rfl))) pss_nil), ?_⟩
    refine ⟨v, rfl, u, rfl, v, u, d, e, rfl, hd, he, hz, hz2, hT, fun hl => ?_, fun xs hl H' kp => ⟨_, rfl, ?_⟩⟩
    · unfold reqLogO at q
      rw [hl] at q
      exact q
    · unfold reqLogO at q
      rw [hl] at q
      have q : Out Ps (if logD xs e = true then none else some CG) H Q E := q
      cases z : logD xs e with
      | true =>
        rw [if_pos z] at q
        exact iteF (q H' kp)
      | false =>
        rw [if_neg (by rw [z]; exact Bool.false_ne_true)] at q
        exact iteT (q H' kp)
/-- lane or log bad -/
def spBad2 (K : PySem.W.Frag) (Ps : List Addr) (CL CG : Addr) : Sp := fun vs H Q E => ∃ (v u : V) (d e : PyData) (C : Addr), vs = [v, u] ∧ Dv K H v d ∧ Dv K H u e ∧ SzA d ∧ SzA e ∧ Tabs Ps H ∧ reqLogO CL CG d e = some C ∧ ∀ H', Kp Ps H H' → E (.ref C) none H'
theorem ok_sizesN {f fL CL CG : Addr} {fd fdL : FuncData} (F : Fun K "sizes" "sizes" sSizes f fd)
    (GL : FnOk P w K mg base (L2N.CX P w) 7 fL fdL ["start", "log"] (spReqLogX K Ps CL CG)) (mgL : mg "require_log" = some (.ref fL)) (kL : PySem.W.keepIn K (.ref fL) = true) (bL : Binds K fdL ["start", "log"] []) : FnOk P w K mg base (L2N.CX P w) 8 f fd ["start", "log"] (spBad2 K Ps CL CG) := by
  refine okN F scSizes (fun vs H Q E h => ?_) (fun cdv A outer s H vs Q E hr h => ?_)
  · obtain ⟨v, u, d, e, C, rfl, _⟩ := h
    rfl
  · obtain ⟨v, u, d, e, C, rfl, hd, he, hz, hz2, hT, hC, q⟩ := h
    refine ⟨_, pss_cons (ps_expr (pe_call GL hr (by rfl) mgL kL bL .nil (L2N.passes_call (L2N.takes_of rfl rfl rfl rfl) fun _ _ _ _ h => h) (pa_cons (pv 0) (pa_cons (pv 1) pa_nil)))) pss_dead, ?_⟩
    refine ⟨v, rfl, u, rfl, v, u, d, e, rfl, hd, he, hz, hz2, hT, ?_⟩
    rw [hC]
    exact q
theorem ok_numbersN {f fL CL CG : Addr} {fd fdL : FuncData} (F : Fun K "numbers" "numbers" sNumbers f fd)
    (GL : FnOk P w K mg base (L2N.CX P w) 7 fL fdL ["start", "log"] (spReqLogX K Ps CL CG)) (mgL : mg "require_log" = some (.ref fL)) (kL : PySem.W.keepIn K (.ref fL) = true) (bL : Binds K fdL ["start", "log"] []) : FnOk P w K mg base (L2N.CX P w) 8 f fd ["start", "log"] (spBad2 K Ps CL CG) := by
  refine okN F scNumbers (fun vs H Q E h => ?_) (fun cdv A outer s H vs Q E hr h => ?_)
  · obtain ⟨v, u, d, e, C, rfl, _⟩ := h
    rfl
  · obtain ⟨v, u, d, e, C, rfl, hd, he, hz, hz2, hT, hC, q⟩ := h
    refine ⟨_, pss_cons (ps_expr (pe_call GL hr (by rfl) mgL kL bL .nil (L2N.passes_call (L2N.takes_of rfl rfl rfl rfl) fun _ _ _ _ h => h) (pa_cons (pv 0) (pa_cons (pv 1) pa_nil)))) pss_dead, ?_⟩
    refine ⟨v, rfl, u, rfl, v, u, d, e, rfl, hd, he, hz, hz2, hT, ?_⟩
    rw [hC]
    exact q
/-- is_side of anything -/
def spSideA (K : PySem.W.Frag) (Ps : List Addr) : Sp := fun vs H Q _ => ∃ (v : V) (d : PyData), vs = [v] ∧ Dv K H v d ∧ Tabs Ps H ∧ ∀ H', Kp Ps H H' → Q (.bl (sideD d)) H'
theorem ok_sideA {f : Addr} {fd : FuncData} (F : Fun K "is_side" "is_side" sIsSide f fd) (B : Bi mg) : FnOk P w K mg base CX0 1 f fd ["value"] (spSideA K Ps) := by
  refine F.ok scIsSide (fun vs H Q E h => ?_) (fun cdv A outer s H vs Q E hr h => ?_)
  · obtain ⟨v, d, rfl, _⟩ := h
    rfl
  · obtain ⟨v, d, rfl, hd, hT, q⟩ := h
    refine ⟨_, pss_one (ps_ret (pe_and (pe_callB call_isi (by rfl) B.isi (by decide +kernel) (pa_cons (pv 0) (pa_cons (pe_bltn (by rfl) B.str (by decide +kernel) (v := .ty "str") rfl) pa_nil)))
      (pe_one (pe_cmpR op_in_seq (pv 0) (pe_tup (pa_cons pe_str (pa_cons pe_str pa_nil))) (by rfl))))), ?_⟩
    refine ⟨v, rfl, v, .ty "str", .type (tyD d), .type "str", isStr d, rfl, .ty _, hd.ty, kit_ty (kit_str d), isStr d, rfl, ?_⟩
    cases hd with
    | str x hx =>
      refine iteT ⟨_, rfl, by show 2 ≤ sizeLine; decide, fun p hp => ⟨p, _, rfl, .inr (SqT.of upd_same), rfl, rfl, ?_⟩⟩
      have e : inV (.str x) [.str "L", .str "R"] = sideB x := by
        unfold inV sideB
        show (decide ("L" = x) || (decide ("R" = x) || false)) = _
        rw [Bool.or_false]
        congr 1
        · exact decide_eq_decide.mpr ⟨fun h => h.symm, fun h => h.symm⟩
        · exact decide_eq_decide.mpr ⟨fun h => h.symm, fun h => h.symm⟩
      show Q (.bl (inV (.str x) [.str "L", .str "R"])) _
      rw [e]
      exact q _ (Kp.new hT hp)
    | _ => exact iteF (q H (Kp.refl hT))
def spReqSidesX (K : PySem.W.Frag) (Ps : List Addr) (CS : Addr) : Sp := fun vs H Q E => ∃ (l : Addr) (u : V) (as : List V) (g : PyData), vs = [.ref l, u] ∧ SqL K H l as ∧ Dv K H u g ∧ Tabs Ps H ∧ sidesD as.length g = false ∧ ∀ H', Kp Ps H H' → E (.ref CS) none H'
theorem ok_reqSidesN {f c P1 fS CS : Addr} {fd fdS : FuncData} (F : FunC K "require_sides" "require_sides" sReqSides f fd c) (B : Bi mg) (TB : TabB base mg c P1) (hP : P1 ∈ Ps) (XS : Xc K mg "InvalidSides" CS)
    (GS : FnOk P w K mg base CX0 1 fS fdS ["value"] (spSideA K Ps)) (mgS : mg "is_side" = some (.ref fS)) (kS : PySem.W.keepIn K (.ref fS) = true) (bS : Binds K fdS ["value"] []) : FnOk P w K mg base (L2N.CX P w) 3 f fd ["log", "sides"] (spReqSidesX K Ps CS) := by
  refine okNC F scReqSides (fun vs H Q E h => ?_) (fun A outer s H vs Q E hr h => ?_)
  · obtain ⟨l, u, as, g, rfl, _⟩ := h
    rfl
  · obtain ⟨l, u, as, g, rfl, hL, hg, hT, hno, q⟩ := h
    refine ⟨_, pss_cons (ps_if (PW.pt (pw_or (pt_not (pt_val (pe_callB call_isi (by rfl) B.isi (by decide +kernel) (pa_cons (pv 1) (pa_cons (pe_bltn (by rfl) B.lst (by decide +kernel) (v := .ty "list") rfl) pa_nil)))))
        (pw_or1 (pt_cmpR op_ne (pe_callB call_len_seq (by rfl) B.len PySem.boot_len (pa_cons (pv 1) pa_nil)) (pe_callB call_len_seq (by rfl) B.len PySem.boot_len (pa_cons (pv 0) pa_nil)) (nomark _)))))
        (pss_one (L2N.ps_raise rfl (L2N.takes_of rfl rfl rfl rfl) (L2N.pmk_own PySem.F.excBase_ValueError XS.x XS.g XS.k (raises_own XS.b XS.t) rfl))) pss_nil)
      (pss_one (ps_if (pt_not (pt_val (pe_allG (k := 1) hr rfl (by rfl) B.all TB rfl ⟨rfl, rfl, by decide +kernel, by decide +kernel, rfl, rfl⟩ (pi_list (pv 1))
          (fun _ _ _ _ _ _ _ _ hk => pe_call GS hk rfl mgS kS bS .nil pass0 (pa_cons (pv 0) pa_nil)))))
        (pss_one (L2N.ps_raise rfl (L2N.takes_of rfl rfl rfl rfl) (L2N.pmk_own PySem.F.excBase_ValueError XS.x XS.g XS.k (raises_own XS.b XS.t) rfl))) pss_nil)), ?_⟩
    refine ⟨u, rfl, u, .ty "list", .type (tyD g), .type "list", isLst g, rfl, .ty _, hg.ty, kit_ty (kit_lst g), isLst g, rfl, ?_⟩
    have me := q H (Kp.refl hT)
    by_cases hl : isLst g = true
    · rw [hl]
      cases hg with
      | @lst m vs ds hS hA =>
        have hlx := hA.len
        refine iteF ⟨.ref m, rfl, m, _, rfl, .inl hS, .ref l, rfl, l, _, rfl, .inl hL, rfl, _, rfl, ?_⟩
        by_cases hlen : vs.length = as.length
        · rw [show decide (V.int ((vs.length : Nat) : Int) = V.int ((as.length : Nat) : Int)) = true from decide_eq_true (by rw [hlen])]
          refine iteF ?_
          have hno : ds.all sideD = false := by
            have hno : (decide (ds.length = as.length) && ds.all sideD) = false := hno
            rw [decide_eq_true (by omega), Bool.true_and] at hno
            exact hno
          refine ⟨.ref m, rfl, m, rfl, ⟨_, hS⟩, hT P1 hP, fun i n H' => n = ds.length - i ∧ Kp Ps H H' ∧ i ≤ ds.length ∧ (ds.take i).all sideD = true, fun H2 hH => ⟨ds.length, by omega, Kp.tabbed hT hP hH, Nat.zero_le _, rfl⟩, fun i n H' hW => ?_⟩
          obtain ⟨rfl, kp, hi, hall⟩ := hW
          have hS' := kp.seqL hT hS
          by_cases hlt : i < ds.length
          · obtain ⟨y, hx, hy⟩ := hA.at_ (List.getElem?_eq_getElem hlt)
            refine .inr ⟨⟨_, _, hS', hx⟩, fun v H3 hyv => ?_⟩
            obtain ⟨rfl, fv⟩ := hyv
            obtain rfl : v = y := Option.some.inj ((fv _ hS').symm.trans hx)
            refine ⟨_, rfl, _, _, rfl, hy.kp kp hT, kp.tab, fun H4 kp4 => ⟨_, rfl, ?_⟩⟩
            refine ite2 (fun hc => ?_) (fun hc => ?_)
            · refine ⟨_, by omega, rfl, kp.trans kp4, hlt, ?_⟩
              rw [List.take_add_one, List.getElem?_eq_getElem hlt, List.all_append, hall]
              simp [hc]
            · exact ⟨false, rfl, iteT (q H4 (kp.trans kp4))⟩
          · exfalso
            rw [List.take_of_length_le (by omega), hno] at hall
            cases hall
        · rw [show decide (V.int ((vs.length : Nat) : Int) = V.int ((as.length : Nat) : Int)) = false from decide_eq_false (fun z => hlen (by have := V.int.inj z; omega))]
          exact iteT me
      | _ => cases hl
    · have hl : isLst g = false := by simpa using hl
      rw [hl]
      exact iteT (iteT me)
/-- replay: lane or log bad; or the sides -/
def spBad3 (K : PySem.W.Frag) (Ps : List Addr) (CL CG : Addr) : Sp := fun vs H Q E => ∃ (v u y : V) (d e : PyData) (C : Addr), vs = [v, u, y] ∧ Dv K H v d ∧ Dv K H u e ∧ SzA d ∧ SzA e ∧ Tabs Ps H ∧ reqLogO CL CG d e = some C ∧ ∀ H', Kp Ps H H' → E (.ref C) none H'
theorem ok_replayN {f fL CL CG : Addr} {fd fdL : FuncData} (F : Fun K "replay" "replay" sReplay f fd)
    (GL : FnOk P w K mg base (L2N.CX P w) 7 fL fdL ["start", "log"] (spReqLogX K Ps CL CG)) (mgL : mg "require_log" = some (.ref fL)) (kL : PySem.W.keepIn K (.ref fL) = true) (bL : Binds K fdL ["start", "log"] []) : FnOk P w K mg base (L2N.CX P w) 8 f fd ["start", "log", "sides"] (spBad3 K Ps CL CG) := by
  refine okN F scReplay (fun vs H Q E h => ?_) (fun cdv A outer s H vs Q E hr h => ?_)
  · obtain ⟨v, u, y, d, e, C, rfl, _⟩ := h
    rfl
  · obtain ⟨v, u, y, d, e, C, rfl, hd, he, hz, hz2, hT, hC, q⟩ := h
    refine ⟨_, pss_cons (ps_expr (pe_call GL hr (by rfl) mgL kL bL .nil (L2N.passes_call (L2N.takes_of rfl rfl rfl rfl) fun _ _ _ _ h => h) (pa_cons (pv 0) (pa_cons (pv 1) pa_nil)))) pss_dead, ?_⟩
    refine ⟨v, rfl, u, rfl, v, u, d, e, rfl, hd, he, hz, hz2, hT, ?_⟩
    rw [hC]
    exact q
def spBadS (K : PySem.W.Frag) (Ps : List Addr) (CS : Addr) : Sp := fun vs H Q E => ∃ (a l : Addr) (y : V) (xs : List Str) (as : List Addr) (es : List Ev) (g : PyData), vs = [.ref a, .ref l, y] ∧ LaneAt K H a xs ∧ laneB xs = true ∧ LogAt K H l as es ∧ logB xs xs.length es = true ∧ Dv K H y g ∧ sidesD as.length g = false ∧ Tabs Ps H ∧ ∀ H', Kp Ps H H' → E (.ref CS) none H'
theorem ok_replayS {f fL fS CS : Addr} {fd fdL fdS : FuncData} (F : Fun K "replay" "replay" sReplay f fd)
    (GL : FnOk P w K mg base CX0 7 fL fdL ["start", "log"] (spReqLog K Ps)) (mgL : mg "require_log" = some (.ref fL)) (kL : PySem.W.keepIn K (.ref fL) = true) (bL : Binds K fdL ["start", "log"] [])
    (GS : FnOk P w K mg base (L2N.CX P w) 3 fS fdS ["log", "sides"] (spReqSidesX K Ps CS)) (mgS : mg "require_sides" = some (.ref fS)) (kS : PySem.W.keepIn K (.ref fS) = true) (bS : Binds K fdS ["log", "sides"] []) : FnOk P w K mg base (L2N.CX P w) 8 f fd ["start", "log", "sides"] (spBadS K Ps CS) := by
  refine okN F scReplay (fun vs H Q E h => ?_) (fun cdv A outer s H vs Q E hr h => ?_)
  · obtain ⟨a, l, y, xs, as, es, g, rfl, _⟩ := h
    rfl
  · obtain ⟨a, l, y, xs, as, es, g, rfl, hL, hB, hE, hB2, hg, hno, hT, q⟩ := h
    refine ⟨_, pss_cons (ps_expr (pe_call GL hr (by rfl) mgL kL bL .nil pass0 (pa_cons (pv 0) (pa_cons (pv 1) pa_nil))))
      (pss_cons (ps_expr (pe_call GS (hr.mono (by decide)) (by rfl) mgS kS bS .nil (L2N.passes_call (L2N.takes_of rfl rfl rfl rfl) fun _ _ _ _ h => h) (pa_cons (pv 1) (pa_cons (pv 2) pa_nil)))) pss_dead), ?_⟩
    refine ⟨.ref a, rfl, .ref l, rfl, a, l, xs, as, es, rfl, hL, hB, hE, hB2, hT, fun H1 k1 => ?_⟩
    refine ⟨.ref l, rfl, y, rfl, l, y, as.map V.ref, g, rfl, (hE.kp k1 hT).at_, hg.kp k1 hT, k1.tab, by rw [List.length_map]; exact hno, fun H2 k2 => q H2 (k1.trans k2)⟩
end
end Ln


set_option Elab.async false
set_option linter.all false
set_option maxRecDepth 100000
set_option maxHeartbeats 4000000
namespace Ln
open PySem PySem.Spec PyProof.Rows L2 GxR
/-! ### data that are a log -/
theorem dep_of {d : PyData} (h : depBD d = true) : d = outD := by
  match d, h with
  | .tuple [.str y], h =>
    have h : decide (y = "out") = true := h
    rw [of_decide_eq_true h]
    rfl
/-- what is a log is a log of events -/
theorem evs_of : ∀ {ds : List PyData} {us : List Str} {n : Nat}, logW us n ds = true → ∃ es : List Ev, ds = es.map Ev.dat ∧ logB us n es = true
  | [], _, _, _ => ⟨[], rfl, rfl⟩
  | d :: r, us, n, h => by
    rw [logW_cons] at h
    split at h
    · rename_i ha
      obtain ⟨c, rfl, hc⟩ := arr_of ha
      have h : (if ¬ c ∈ us then logW (c :: us) (n + 1) r else false) = true := h
      split at h
      · rename_i hn
        obtain ⟨es, rfl, hB⟩ := evs_of h
        exact ⟨.inn c :: es, rfl, by show (if carB c = true ∧ ¬ c ∈ us then logB (c :: us) (n + 1) es else false) = true; rw [if_pos ⟨hc, hn⟩]; exact hB⟩
      · cases h
    · split at h
      · rename_i hd
        have := dep_of hd
        subst this
        split at h
        · rename_i hn
          obtain ⟨es, rfl, hB⟩ := evs_of h
          exact ⟨.out :: es, rfl, by show (if 0 < n then logB us (n - 1) es else false) = true; rw [if_pos hn]; exact hB⟩
        · cases h
      · cases h
theorem dv_evsAt {K : PySem.W.Frag} {H : Hp} : ∀ {es : List Ev} {vs : List V}, DvAll K H vs (es.map Ev.dat) → ∃ as : List Addr, vs = as.map V.ref ∧ EvsAt K H as es
  | [], _, h => by
    cases h
    exact ⟨[], rfl, .nil⟩
  | e :: r, _, h => by
    cases h with
    | cons a b =>
      obtain ⟨as, rfl, hE⟩ := dv_evsAt b
      cases e with
      | inn c =>
        cases a with
        | @tup x xs _ s al =>
          cases al with
          | cons a1 t1 =>
            cases a1
            cases t1 with
            | cons a2 t2 =>
              cases a2
              cases t2
              exact ⟨x :: as, rfl, .cons s hE⟩
      | out =>
        cases a with
        | @tup x xs _ s al =>
          cases al with
          | cons a1 t1 =>
            cases a1
            cases t1
            exact ⟨x :: as, rfl, .cons s hE⟩
end Ln


set_option Elab.async false
set_option linter.all false
set_option maxRecDepth 100000
set_option maxHeartbeats 4000000
namespace Ln
open PySem PySem.Spec PyProof.Rows L2 GxR
theorem le_add {a b n m : Nat} (h : a ≤ n) (k : decide (n + b ≤ m) = true) : a + b ≤ m := Nat.le_trans (Nat.add_le_add_right h b) (of_decide_eq_true k)
theorem fa_nil {α : Type} {P : α → Prop} : ∀ d ∈ ([] : List α), P d := fun _ h => nomatch h
theorem fa_cons {α : Type} {P : α → Prop} {a : α} {l : List α} (h : P a) (t : ∀ d ∈ l, P d) : ∀ d ∈ a :: l, P d := fun d hd => by
  rcases List.mem_cons.mp hd with rfl | hd
  · exact h
  · exact t d hd
theorem fa_app {α : Type} {P : α → Prop} {l m : List α} (h : ∀ d ∈ l, P d) (t : ∀ d ∈ m, P d) : ∀ d ∈ l ++ m, P d := fun d hd => (List.mem_append.mp hd).elim (h d) (t d)
theorem sz_flat {d : PyData} (h1 : isTup d = false) (h2 : isLst d = false) : SzA d := ⟨fun es e => (by rw [e] at h1; cases h1), fun es e => (by rw [e] at h2; cases h2)⟩
theorem sz_lst {ds : List PyData} (h : ds.length ≤ 1000) : SzA (.list ds) := ⟨fun _ e => (nomatch e), fun es e => by cases e; exact h⟩
theorem sz_tupL {ds : List PyData} (h : ds.length ≤ 400) : SzA (.tuple ds) := ⟨fun es e => (by cases e; exact h), fun _ e => (nomatch e)⟩
theorem dv_ev {K : PySem.W.Frag} {H : Hp} {a : Addr} {e : Ev} (h : H a = some (.tup e.vals)) (hz : ∀ c, e = .inn c → c.length ≤ sizeLine) : Dv K H (.ref a) (Ev.dat e) := by
  cases e with
  | inn c => exact .tup (SqT.of h) (.cons (.str "in" (by rw [sizeLine_eq]; decide)) (.cons (.str c (hz c rfl)) .nil))
  | out => exact .tup (SqT.of h) (.cons (.str "out" (by rw [sizeLine_eq]; decide)) .nil)
theorem dv_evs {K : PySem.W.Frag} {H : Hp} : ∀ {as : List Addr} {es : List Ev}, EvT H as es → (∀ c, Ev.inn c ∈ es → c.length ≤ sizeLine) → DvAll K H (as.map V.ref) (es.map Ev.dat)
  | _, _, .nil, _ => .nil
  | _, _, .cons h t, hz => .cons (dv_ev h fun c e => hz c (e ▸ List.mem_cons_self)) (dv_evs t fun c hc => hz c (List.mem_cons_of_mem _ hc))
theorem evt_off {H : Hp} {s0 : Addr} {l : List V} (hs : H s0 = some (.lst l)) : ∀ {as : List Addr} {es : List Ev}, EvT H as es → EvT (offH H s0) as es
  | _, _, .nil => .nil
  | _, _, .cons h t => .cons (by rw [off_at fun z => by rw [z, hs] at h; cases h]; exact h) (evt_off hs t)
theorem ix_first {α : Type} {X : List α} {x : α} : ixN (x :: X).length 0 = some 0 := by
  unfold ixN
  simp
theorem ix_last {α : Type} {X : List α} {x : α} : ixN (x :: X).length (-1) = some X.length := by
  unfold ixN
  rw [if_neg (by decide), if_pos (by simp; omega)]
  congr 1
  simp
  omega
/-- the menu of what is no lane -/
def menL1 (X : List PyData) : List PyData := [.none, .list X, .tuple (X ++ [.str "yy", .str "yy"]), .tuple (X ++ [.str "A"]), .tuple (X ++ [.str "abcde"]), .tuple (X ++ [.str ""]), .tuple (X ++ [.int 1]), .str "ab"]
def menL2 (X : List PyData) : List PyData := [.dict [], .int 5, .tuple (X ++ [.none]), .tuple (X ++ [.tuple [.str "a"]]), .tuple (X ++ [.str "a b"]), .bool true]
theorem last_at (x : Str) (r : List Str) : ((x :: r).map PyData.str)[r.length]? = some (.str ((x :: r).getLast (by simp))) := by
  rw [List.getElem?_map, List.getLast_eq_getElem]
  simp
theorem lenG {K : PySem.W.Frag} {s0 : Addr} {Γ : List (Nat × PyData)} {σ : L2.St} {H : Hp} {Q : VK} {i : Nat} {X : List PyData} (m : (i, .tuple X) ∈ Γ) (en : EnvD K s0 Γ σ H) (q : Q (.int (X.length : Nat)) H) :
    tCB (fun xs H Q => ∃ p ys, xs = [.ref p] ∧ (SqL K H p ys ∨ SqT K H p ys) ∧ Q (.int ys.length) H) (tCons (tVar i) tNil) σ H Q := by
  obtain ⟨v, ev, dt⟩ := en _ m
  cases dt.dv with
  | @tup a ys _ s1 c1 =>
    refine ⟨_, ev, a, ys, rfl, .inr (sqT_sm s1 off_sub), ?_⟩
    rw [c1.len]
    exact q
/-- the menu of what is no log -/
def menA (Es : List PyData) (n : Nat) : List PyData := [.none, .tuple Es, .list (List.replicate (n + 1) outD), .list (Es ++ [innD "yy", innD "yy"]), .list [.tuple [.str "out", .int 0]]]
def menB (Es : List PyData) : List PyData := [.list [.list [.str "out"]], .list [.str "out"], .list (Es ++ [innD "A"]), .list [.tuple [.str "off"]], .list [.tuple [.str "in"]], .dict [], .list [.tuple [.str "in", .str "yy", .int 1]], .list [.none], .int 3]
def menC : List PyData := [.list [.tuple [.str "in", .list [.str "a"]]], .list [.tuple [.str "in", .none]], .list [.tuple [.str "IN", .str "yy"]], .list [innD "yy", outD, innD "yy"], .list [.tuple []]]
def menD (x y : Str) (n : Nat) : List PyData := [.list [innD x], .list (List.replicate n outD ++ [innD y])]
theorem car_yy : carB "yy" = true := by decide +kernel
theorem car_A : carB "A" = false := by decide +kernel
theorem men_bad {xs : List Str} {Es : List PyData} (few : xs.length ≤ 100) (few2 : Es.length ≤ 200) (hR : RpA Es 4 5000) : ∀ d ∈ menA Es xs.length ++ menB Es ++ menC, logD xs d = false ∧ SzA d ∧ Rp d 5 10000 :=
  fa_app (fa_app
    (fa_cons ⟨rfl, sz_flat rfl rfl, .dec (by decide +kernel)⟩ (fa_cons ⟨rfl, sz_tupL (by omega), hR.tuple.mono (by decide) (by decide)⟩ (fa_cons ⟨bad_outs, sz_lst (by rw [List.length_replicate]; omega), (RpA.rep (d := outD) (dep := 1) (w := 10) (.dec (by decide +kernel)) _).list.mono (by decide) (by omega)⟩ (fa_cons ⟨logW_pre (fun us m => bad_twice car_yy us m) _ _ _, sz_lst (by rw [List.length_append]; exact le_add few2 (by decide)), rpL hR (.dec (by decide +kernel))⟩ (fa_cons ⟨logW_odd (by decide +kernel) (by decide +kernel), sz_lst (by decide), .dec (by decide +kernel)⟩ fa_nil)))))
    (fa_cons ⟨logW_odd (by decide +kernel) (by decide +kernel), sz_lst (by decide), .dec (by decide +kernel)⟩ (fa_cons ⟨logW_odd (by decide +kernel) (by decide +kernel), sz_lst (by decide), .dec (by decide +kernel)⟩ (fa_cons ⟨logW_pre (fun us m => bad_car car_A us m []) _ _ _, sz_lst (by rw [List.length_append]; exact le_add few2 (by decide)), rpL hR (.dec (by decide +kernel))⟩ (fa_cons ⟨logW_odd (by decide +kernel) (by decide +kernel), sz_lst (by decide), .dec (by decide +kernel)⟩ (fa_cons ⟨logW_odd (by decide +kernel) (by decide +kernel), sz_lst (by decide), .dec (by decide +kernel)⟩
      (fa_cons ⟨rfl, sz_flat rfl rfl, .dec (by decide +kernel)⟩ (fa_cons ⟨logW_odd (by decide +kernel) (by decide +kernel), sz_lst (by decide), .dec (by decide +kernel)⟩ (fa_cons ⟨logW_odd (by decide +kernel) (by decide +kernel), sz_lst (by decide), .dec (by decide +kernel)⟩ (fa_cons ⟨rfl, sz_flat rfl rfl, .dec (by decide +kernel)⟩ fa_nil))))))))))
    (fa_cons ⟨logW_odd (by decide +kernel) (by decide +kernel), sz_lst (by decide), .dec (by decide +kernel)⟩ (fa_cons ⟨logW_odd (by decide +kernel) (by decide +kernel), sz_lst (by decide), .dec (by decide +kernel)⟩ (fa_cons ⟨logW_odd (by decide +kernel) (by decide +kernel), sz_lst (by decide), .dec (by decide +kernel)⟩ (fa_cons ⟨bad_again car_yy _ _, sz_lst (by decide), .dec (by decide +kernel)⟩ (fa_cons ⟨logW_odd (by decide +kernel) (by decide +kernel), sz_lst (by decide), .dec (by decide +kernel)⟩ fa_nil)))))
theorem rp_inn {c : Str} (h : carB c = true) : Rp (innD c) 1 20 := Rp.gd (gd_ev (e := .inn c) fun d z => by cases z; exact h)
theorem men_bad2 {xs : List Str} {x y : Str} (few : xs.length ≤ 100) (hx : x ∈ xs) (hy : y ∈ xs) (hcx : ∀ x ∈ xs, carB x = true) : ∀ d ∈ menD x y xs.length, logD xs d = false ∧ SzA d ∧ Rp d 5 10000 :=
  fa_cons ⟨by show logW xs xs.length [innD x] = false; rw [logW_inn (hcx x hx), if_neg fun z => z hx], sz_lst (of_decide_eq_true (p := 1 ≤ 1000) rfl), (RpA.cons (rp_inn (hcx x hx)) .nil).list.mono (by decide) (by decide)⟩
    (fa_cons ⟨bad_back hy (hcx y hy), sz_lst (by rw [List.length_append, List.length_replicate]; exact le_add few (by exact rfl)), (RpA.app (RpA.rep (d := outD) (dep := 1) (w := 20) (.dec (by decide +kernel)) _) (RpA.cons (rp_inn (hcx y hy)) .nil)).list.mono (by decide) (by omega)⟩ fa_nil)
section
variable {P : Program} {w : World} {K : PySem.W.Frag} {mg : Str → Option Value} {base : Heap} {Ps : List Addr}
def spNoLane (K : PySem.W.Frag) : Sp := fun vs H Q _ => ∃ (s0 t : Addr) (l : List V) (n : Nat) (xs : List Str), vs = [.ref s0, .ref t] ∧ H s0 = some (.lst l) ∧ SrcV n l ∧ n + 10 ≤ 1000000 ∧ SqT K H t (xs.map V.str) ∧ xs.length ≤ 300 ∧ (∀ x ∈ xs, carB x = true) ∧
  ∀ (H' : Hp) (v : V) (d : PyData) (l' : List V), Ch s0 H H' → H' s0 = some (.lst l') → SrcV (n + 1) l' → Dv K (offH H' s0) v d → laneD d = false → SzA d → Rp d 5 10000 → Q v H'
def spNoLog (K : PySem.W.Frag) : Sp := fun vs H Q _ => ∃ (s0 t o : Addr) (l : List V) (n : Nat) (xs : List Str) (as : List Addr) (es : List Ev), vs = [.ref s0, .ref t, .ref o] ∧ H s0 = some (.lst l) ∧ SrcV n l ∧ n + 10 ≤ 1000000 ∧ SqT K H t (xs.map V.str) ∧ H o = some (.lst (as.map V.ref)) ∧ o ≠ s0 ∧ EvT H as es ∧ xs.length ≤ 100 ∧ es.length ≤ 200 ∧ (∀ x ∈ xs, carB x = true) ∧ (∀ c, Ev.inn c ∈ es → carB c = true) ∧
  ∀ (H' : Hp) (v : V) (d : PyData) (l' : List V), Ch s0 H H' → H' s0 = some (.lst l') → SrcV (n + 1) l' → Dv K (offH H' s0) v d → logD xs d = false → SzA d → Rp d 5 10000 → Q v H'
end
end Ln


set_option Elab.async false
set_option linter.all false
set_option maxRecDepth 100000
set_option maxHeartbeats 2000000
namespace Ln
open PySem PySem.Spec PyProof.Rows L2 GxR
/-! ### the objects of a law that asks for errors -/
theorem laneO_no {d : PyData} (h : laneD d = false) : laneO d = none := by
  cases e : laneO d with
  | none => rfl
  | some xs =>
    have := (laneO_some e).2.2
    rw [h] at this
    cases this
theorem strsD_map (xs : List Str) : strsD (xs.map PyData.str) = some xs := by
  have := strsD_app (ds := []) xs
  rw [List.append_nil] at this
  rw [this]
  show some (xs ++ []) = some xs
  rw [List.append_nil]
theorem laneO_strs {xs : List Str} (h : laneB xs = true) : laneO (.tuple (xs.map PyData.str)) = some xs := by
  show (match strsD (xs.map PyData.str) with | some xs => if laneB xs = true then some xs else none | none => none) = some xs
  rw [strsD_map]
  exact if_pos h
theorem logW_evs : ∀ (es : List Ev) (us : List Str) (n : Nat), logB us n es = true → logW us n (es.map Ev.dat) = true
  | [], _, _, _ => rfl
  | .inn c :: r, us, n, h => by
    have h : (if carB c = true ∧ ¬ c ∈ us then logB (c :: us) (n + 1) r else false) = true := h
    split at h
    · rename_i z
      show logW us n (innD c :: r.map Ev.dat) = true
      rw [logW_inn z.1, if_pos z.2]
      exact logW_evs r _ _ h
    · cases h
  | .out :: r, us, n, h => by
    have h : (if 0 < n then logB us (n - 1) r else false) = true := h
    split at h
    · rename_i z
      show logW us n (outD :: r.map Ev.dat) = true
      rw [logW_out, if_pos z]
      exact logW_evs r _ _ h
    · cases h
theorem logD_evs {xs : List Str} {es : List Ev} (h : logB xs xs.length es = true) : logD xs (.list (es.map Ev.dat)) = true := logW_evs es xs xs.length h
theorem off_kp {Ps : List Addr} {s0 : Addr} {H H1 : Hp} {l : List V} (k : Kp Ps H H1) (hT : Tabs Ps H) (hs : H s0 = some (.lst l)) : Kp Ps (offH H s0) (offH H1 s0) ∧ Tabs Ps (offH H s0) := by
  have n : ∀ p ∈ Ps, p ≠ s0 := fun p hp z => by
    obtain ⟨q, e, _⟩ := hT p hp
    rw [z, hs] at e
    cases e
  refine ⟨⟨fun b o e nb => ?_, fun p hp => ?_⟩, fun p hp => ?_⟩
  · have nb0 : b ≠ s0 := fun z => by
      unfold offH at e
      rw [if_pos z] at e
      cases e
    rw [off_at nb0] at e ⊢
    exact k.at_ b o e nb
  · obtain ⟨q, e, r⟩ := k.tab p hp
    exact ⟨q, by rw [off_at (n p hp)]; exact e, r⟩
  · obtain ⟨q, e, r⟩ := hT p hp
    exact ⟨q, by rw [off_at (n p hp)]; exact e, r⟩
structure StE (K : PySem.W.Frag) (Ps : List Addr) (a s0 : Addr) (ns : List Int) (as : List Addr) (es : List Ev) (n : Nat) (Γ : List (V × PyData)) (T : List (Addr × List Str)) (Θ U : List (Addr × List V)) (H : Hp) : Prop where
  tabs : Tabs Ps H
  scr : SqL K H a (ns.map V.int)
  src : ∃ l, H s0 = some (.lst l) ∧ SrcV n l
  ev : EvT H as es
  a1 : Off K a s0 (ns.map V.int)
  dat : ∀ p ∈ Γ, Dv K (offH H s0) p.1 p.2
  tps : ∀ p ∈ T, TupD H p.1 (p.2.map V.str)
  kpl : ∀ p ∈ Θ, H p.1 = some (.lst p.2) ∧ p.1 ≠ s0
  kpt : ∀ p ∈ U, H p.1 = some (.tup p.2)
section
variable {K : PySem.W.Frag} {Ps : List Addr} {a s0 : Addr} {ns : List Int} {as : List Addr} {es : List Ev} {n m : Nat} {Γ : List (V × PyData)} {T : List (Addr × List Str)} {Θ U : List (Addr × List V)} {H H1 : Hp} {l' : List V}
theorem StE.kp (S : StE K Ps a s0 ns as es n Γ T Θ U H) (k : Kp Ps H H1) : StE K Ps a s0 ns as es n Γ T Θ U H1 := by
  obtain ⟨l, hl, hv⟩ := S.src
  obtain ⟨k2, t2⟩ := off_kp k S.tabs hl
  exact ⟨k.tab, k.seqL S.tabs S.scr, ⟨l, k.lst S.tabs hl, hv⟩, Paired.imp S.ev fun _ _ q => k.tup S.tabs q, S.a1, fun p hp => (S.dat p hp).kp k2 t2, fun p hp => (S.tps p hp).kp k S.tabs, fun p hp => ⟨k.lst S.tabs (S.kpl p hp).1, (S.kpl p hp).2⟩, fun p hp => k.tup S.tabs (S.kpt p hp)⟩
theorem StE.same (S : StE K Ps a s0 ns as es n Γ T Θ U H) (k : L2.Same H H1) : StE K Ps a s0 ns as es n Γ T Θ U H1 := by
  obtain ⟨l, hl, hv⟩ := S.src
  exact ⟨tabs_same S.tabs k, sq_same S.scr k, ⟨l, k _ _ hl, hv⟩, Paired.imp S.ev fun _ _ q => k _ _ q, S.a1, fun p hp => (S.dat p hp).same (off_sm k), fun p hp => (S.tps p hp).same k, fun p hp => ⟨k _ _ (S.kpl p hp).1, (S.kpl p hp).2⟩, fun p hp => k _ _ (S.kpt p hp)⟩
theorem StE.ch (S : StE K Ps a s0 ns as es n Γ T Θ U H) (k : Ch s0 H H1) (h1 : H1 s0 = some (.lst l')) (h2 : SrcV m l') : StE K Ps a s0 ns as es m Γ T Θ U H1 := by
  obtain ⟨l, hl, hv⟩ := S.src
  refine ⟨k.tabs hl S.tabs, ?_, ⟨l', h1, h2⟩, k.evT S.ev hl, S.a1, fun p hp => (S.dat p hp).same (off_ch k), fun p hp => k.tupD (S.tps p hp) hl, fun p hp => ⟨k _ _ (S.kpl p hp).1 (S.kpl p hp).2, (S.kpl p hp).2⟩, fun p hp => k _ _ (S.kpt p hp) fun z => by have e := S.kpt p hp; rw [z, hl] at e; cases e⟩
  rcases S.a1 with n | e
  · exact k.seqL S.scr n
  · exact .inr e
theorem StE.dcons {v : V} {d : PyData} (S : StE K Ps a s0 ns as es n Γ T Θ U H) (h : Dv K (offH H s0) v d) : StE K Ps a s0 ns as es n ((v, d) :: Γ) T Θ U H :=
  ⟨S.tabs, S.scr, S.src, S.ev, S.a1, fa_cons h S.dat, S.tps, S.kpl, S.kpt⟩
theorem StE.tcons {p : Addr} {L : List Str} (S : StE K Ps a s0 ns as es n Γ T Θ U H) (h : TupD H p (L.map V.str)) : StE K Ps a s0 ns as es n Γ ((p, L) :: T) Θ U H :=
  ⟨S.tabs, S.scr, S.src, S.ev, S.a1, S.dat, fa_cons h S.tps, S.kpl, S.kpt⟩
theorem StE.lcons {p : Addr} {xs : List V} (S : StE K Ps a s0 ns as es n Γ T Θ U H) (h : H p = some (.lst xs)) (ne : p ≠ s0) : StE K Ps a s0 ns as es n Γ T ((p, xs) :: Θ) U H :=
  ⟨S.tabs, S.scr, S.src, S.ev, S.a1, S.dat, S.tps, fa_cons ⟨h, ne⟩ S.kpl, S.kpt⟩
theorem StE.ucons {p : Addr} {xs : List V} (S : StE K Ps a s0 ns as es n Γ T Θ U H) (h : H p = some (.tup xs)) : StE K Ps a s0 ns as es n Γ T Θ ((p, xs) :: U) H :=
  ⟨S.tabs, S.scr, S.src, S.ev, S.a1, S.dat, S.tps, S.kpl, fa_cons h S.kpt⟩
theorem StE.mono {Γ' : List (V × PyData)} {T' : List (Addr × List Str)} {Θ' U' : List (Addr × List V)} (S : StE K Ps a s0 ns as es n Γ T Θ U H) (h1 : ∀ p ∈ Γ', p ∈ Γ) (h2 : ∀ p ∈ T', p ∈ T) (h3 : ∀ p ∈ Θ', p ∈ Θ) (h4 : ∀ p ∈ U', p ∈ U) : StE K Ps a s0 ns as es n Γ' T' Θ' U' H :=
  ⟨S.tabs, S.scr, S.src, S.ev, S.a1, fun p hp => S.dat p (h1 p hp), fun p hp => S.tps p (h2 p hp), fun p hp => S.kpl p (h3 p hp), fun p hp => S.kpt p (h4 p hp)⟩
/-- a new list, off the bag -/
theorem StE.nlst {p : Addr} {xs : List V} (S : StE K Ps a s0 ns as es n Γ T Θ U H) (hp : H p = none) : StE K Ps a s0 ns as es n Γ T ((p, xs) :: Θ) U (upd H p (.lst xs)) := by
  obtain ⟨l, hl, _⟩ := S.src
  exact (S.same (sm_new sm_refl hp)).lcons upd_same (ne_of_none hl hp).symm
theorem StE.ntup {p : Addr} {xs : List V} (S : StE K Ps a s0 ns as es n Γ T Θ U H) (hp : H p = none) : StE K Ps a s0 ns as es n Γ T Θ ((p, xs) :: U) (upd H p (.tup xs)) := (S.same (sm_new sm_refl hp)).ucons upd_same
theorem StE.ntpD {p : Addr} {ob : Obj} {L : List Str} {xs : List V} (S : StE K Ps a s0 ns as es n Γ T Θ U H) (e : L.map V.str = xs) (hd : ob.dict = none) (hp : H p = none) : StE K Ps a s0 ns as es n Γ ((p, L) :: T) Θ U (upd H p (.frz ob (.tup xs))) := by
  subst e
  exact (S.same (sm_new sm_refl hp)).tcons (.of hd)
/-- the bag's draw -/
theorem StE.draw {l : List V} (S : StE K Ps a s0 ns as es n Γ T Θ U H) (hv : SrcV m l) : StE K Ps a s0 ns as es m Γ T Θ U (upd H s0 (.lst l)) := S.ch Ch.src upd_same hv
theorem StE.full {v : V} {d : PyData} (S : StE K Ps a s0 ns as es n Γ T Θ U H) (h : (v, d) ∈ Γ) : Dv K H v d := (S.dat _ h).same off_sub
theorem StE.tp {p : Addr} {L : List Str} (S : StE K Ps a s0 ns as es n Γ T Θ U H) (h : (p, L) ∈ T) : TupD H p (L.map V.str) := S.tps _ h
theorem StE.ls {p : Addr} {xs : List V} (S : StE K Ps a s0 ns as es n Γ T Θ U H) (h : (p, xs) ∈ Θ) : H p = some (.lst xs) := (S.kpl _ h).1
theorem StE.us {p : Addr} {xs : List V} (S : StE K Ps a s0 ns as es n Γ T Θ U H) (h : (p, xs) ∈ U) : H p = some (.tup xs) := S.kpt _ h
theorem tup_dv {p : Addr} {L : List Str} (h : TupD H p (L.map V.str)) (hc : ∀ x ∈ L, carB x = true) : Dv K H (.ref p) (.tuple (L.map PyData.str)) := .tup h.sq (dv_strs _ fun x hx => by have := carLen (hc x hx); rw [sizeLine_eq]; omega)
theorem evs_dv {o : Addr} (h : H o = some (.lst (as.map V.ref))) (he : EvT H as es) (hc : ∀ c, Ev.inn c ∈ es → carB c = true) : Dv K H (.ref o) (.list (es.map Ev.dat)) := .lst (SqL.of h) (dv_evs he fun c z => by have := carLen (hc c z); rw [sizeLine_eq]; omega)
end
theorem catDV {K : PySem.W.Frag} {H : Hp} {x y : Addr} {A B : List V} {Q : VK} (hx : TupD H x A) (hy : TupD H y B) (few : A.length + B.length ≤ 900) (h : ∀ H' p, L2.Same H H' → TupD H' p (A ++ B) → Q (.ref p) H') : rCatD K (.ref x) (.ref y) H Q := by
  refine ⟨x, y, A, B, rfl, rfl, hx.sq, hy.sq, by rw [sizeLine_eq]; omega, fun e => ?_, fun _ e => ?_, fun _ _ p ob hd hp => ?_⟩
  · subst e
    exact h H y sm_refl hy
  · subst e
    exact h H x sm_refl (by rw [List.append_nil]; exact hx)
  · exact h _ p (sm_new sm_refl hp) (.of hd)
end Ln


set_option Elab.async false
set_option linter.all false
set_option maxRecDepth 100000
set_option maxHeartbeats 2000000
namespace Ln
open PySem L2
/-! ### invalid lanes, logs and sides -/
theorem strs_map : ∀ xs : List Str, strsD (xs.map PyData.str) = some xs
  | [] => rfl
  | x :: r => by
    show (strsD (r.map PyData.str)).map (x :: ·) = _
    rw [strs_map r]
    rfl
theorem strs_is : ∀ {ds : List PyData} {xs : List Str}, strsD ds = some xs → ds = xs.map PyData.str
  | [], xs, h => by
    cases h
    rfl
  | .str x :: r, xs, h => by
    have h : (strsD r).map (x :: ·) = some xs := h
    cases q : strsD r with
    | none => rw [q] at h; cases h
    | some ys =>
      rw [q] at h
      cases h
      rw [strs_is q]
      rfl
theorem lane_of {ds : List PyData} (h : laneD (.tuple ds) = true) : ∃ xs : List Str, ds = xs.map PyData.str ∧ (∀ x ∈ xs, carB x = true) ∧ xs.Nodup := by
  have h : (match strsD ds with | some xs => laneB xs | none => false) = true := h
  cases q : strsD ds with
  | none => rw [q] at h; cases h
  | some xs =>
    rw [q] at h
    have h : (xs.all carB && decide xs.Nodup) = true := h
    rw [Bool.and_eq_true] at h
    exact ⟨xs, strs_is q, List.all_eq_true.mp h.1, of_decide_eq_true h.2⟩
theorem lane_no {ds : List PyData} (h : ∀ xs : List Str, ds = xs.map PyData.str → (∀ x ∈ xs, carB x = true) → xs.Nodup → False) : laneD (.tuple ds) = false := by
  cases e : laneD (.tuple ds) with
  | false => rfl
  | true =>
    obtain ⟨xs, a, b, c⟩ := lane_of e
    exact (h xs a b c).elim
theorem map_str_inj : ∀ {xs ys : List Str}, xs.map PyData.str = ys.map PyData.str → xs = ys
  | [], [], _ => rfl
  | x :: xs, y :: ys, h => by
    injection h with h1 h2
    injection h1 with h1
    rw [h1, map_str_inj h2]
  | [], _ :: _, h => by cases h
  | _ :: _, [], h => by cases h
/-- a text that is no car stands among them -/
theorem lane_badX {A B : List Str} {z : Str} (h : carB z = false) : laneD (.tuple (A.map PyData.str ++ [.str z] ++ B.map PyData.str)) = false := lane_no fun xs e hc _ => by
  have e2 : A ++ [z] ++ B = xs := map_str_inj (by rw [← e, List.map_append, List.map_append]; rfl)
  have := hc z (e2 ▸ List.mem_append_left _ (List.mem_append_right _ List.mem_cons_self))
  rw [h] at this
  cases this
theorem lane_tup {A : List Str} {d : PyData} (h : ∀ x, d ≠ .str x) : laneD (.tuple (A.map PyData.str ++ [d])) = false := lane_no fun xs e _ _ => by
  have hm : d ∈ xs.map PyData.str := e ▸ List.mem_append_right _ List.mem_cons_self
  obtain ⟨x, _, hx⟩ := List.mem_map.mp hm
  exact h x hx.symm
theorem lane_two {A : List Str} {z : Str} : laneD (.tuple (A.map PyData.str ++ [.str z, .str z])) = false := lane_no fun xs e _ hn => by
  have e2 : A ++ [z, z] = xs := map_str_inj (by rw [← e, List.map_append]; rfl)
  rw [← e2] at hn
  have := (List.nodup_append.mp hn).2.1
  simp at this
theorem lane_again {A : List Str} (h : A ≠ []) : laneD (.tuple (A.map PyData.str ++ (A.map PyData.str).take 1)) = false := lane_no fun xs e _ hn => by
  cases A with
  | nil => exact h rfl
  | cons a r =>
    have e2 : (a :: r) ++ [a] = xs := map_str_inj (by rw [← e, List.map_append]; rfl)
    rw [← e2] at hn
    exact (List.nodup_append.mp hn).2.2 a List.mem_cons_self a List.mem_cons_self rfl
theorem lane_null : laneD (.tuple [.str ""]) = false := by decide +kernel
/-- a car that is there, or has come, comes -/
theorem log_used : ∀ {ds : List PyData} {us : List Str} {n : Nat} {c : Str}, carB c = true → (c ∈ us ∨ innD c ∈ ds) → logW us n (ds ++ [innD c]) = false
  | [], us, n, c, hc, h => by
    show logW us n [innD c] = false
    rw [logW_inn hc, if_neg fun z => z (h.resolve_right fun q => nomatch q)]
  | d :: ds, us, n, c, hc, h => by
    show logW us n (d :: (ds ++ [innD c])) = false
    rw [logW_cons]
    by_cases ha : arrBD d = true
    · rw [if_pos ha]
      obtain ⟨y, rfl, hy⟩ := arr_of ha
      show (if ¬ y ∈ us then logW (y :: us) (n + 1) (ds ++ [innD c]) else false) = false
      split
      · refine log_used hc ?_
        rcases h with h | h
        · exact .inl (List.mem_cons_of_mem _ h)
        · rcases List.mem_cons.mp h with h | h
          · injection h with h
            injection h with _ h
            injection h with h _
            injection h with h
            rw [h]
            exact .inl List.mem_cons_self
          · exact .inr h
      · rfl
    · rw [if_neg ha]
      split
      · split
        · refine log_used hc ?_
          rcases h with h | h
          · exact .inl h
          · rcases List.mem_cons.mp h with h | h
            · rw [← h, arr_inn, hc] at ha
              exact absurd rfl ha
            · exact .inr h
        · rfl
      · rfl
/-- how many cars come -/
def insD : List PyData → Nat
  | [] => 0
  | d :: r => (if arrBD d = true then 1 else 0) + insD r
/-- more go than can be there -/
theorem log_outs : ∀ {ds : List PyData} {us : List Str} {n k : Nat}, n + insD ds < k → logW us n (ds ++ List.replicate k outD) = false
  | [], us, n, k, h => by
    have h : n + 0 < k := h
    show logW us n (List.replicate k outD) = false
    have e : List.replicate k outD = List.replicate (n + 1) outD ++ List.replicate (k - (n + 1)) outD := by rw [List.replicate_append_replicate]; congr 1; omega
    have e2 : List.replicate (n + 1) outD = List.replicate n outD ++ [outD] := List.replicate_succ'
    rw [e, e2, List.append_assoc]
    have q := logW_outs (us := us) (r := [outD] ++ List.replicate (k - (n + 1)) outD) n 0
    rw [Nat.zero_add] at q
    rw [q]
    show logW us 0 (outD :: List.replicate (k - (n + 1)) outD) = false
    rw [logW_out, if_neg (by decide)]
  | d :: ds, us, n, k, h => by
    show logW us n (d :: (ds ++ List.replicate k outD)) = false
    have h : n + ((if arrBD d = true then 1 else 0) + insD ds) < k := h
    rw [logW_cons]
    by_cases ha : arrBD d = true
    · rw [if_pos ha] at h ⊢
      obtain ⟨y, rfl, hy⟩ := arr_of ha
      show (if ¬ y ∈ us then logW (y :: us) (n + 1) (ds ++ List.replicate k outD) else false) = false
      split
      · exact log_outs (by omega)
      · rfl
    · rw [if_neg ha] at h ⊢
      split
      · split
        · exact log_outs (by omega)
        · rfl
      · rfl
theorem insD_evs : ∀ es : List Ev, insD (es.map Ev.dat) ≤ (arrs es).length
  | [] => Nat.le_refl _
  | .inn c :: r => by
    have := insD_evs r
    show (if arrBD (innD c) = true then 1 else 0) + insD (r.map Ev.dat) ≤ (c :: arrs r).length
    rw [List.length_cons]
    split <;> omega
  | .out :: r => by
    have := insD_evs r
    show (if arrBD outD = true then 1 else 0) + insD (r.map Ev.dat) ≤ (arrs r).length
    rw [arr_out, if_neg Bool.false_ne_true]
    omega
/-- the odd events -/
def menE : List PyData := [.none, .tuple [.str "out", .int 0], .tuple [.str "in", .str "A"], .tuple [.str "in"], .list [.str "out"], .tuple [.str "off"], .str "out", .tuple [.str "in", .none]]
theorem menE_bad {d : PyData} (h : d ∈ menE) : arrBD d = false ∧ depBD d = false ∧ Bd d 1 20 2 := by
  have k : (menE.all fun d => !arrBD d && !depBD d && bdB d 1 20 2) = true := by decide +kernel
  have := List.all_eq_true.mp k d h
  simp only [Bool.and_eq_true, Bool.not_eq_true'] at this
  exact ⟨this.1.1, this.1.2, .dec this.2⟩
theorem log_oddAt {us : List Str} {n : Nat} {A B : List PyData} {d : PyData} (h : d ∈ menE) : logW us n (A ++ [d] ++ B) = false := by
  rw [List.append_assoc]
  exact logW_pre (fun us m => logW_odd (menE_bad h).1 (menE_bad h).2.1) A us n
/-- the odd sides -/
def menS : List PyData := [.none, .str "l", .str "", .str "LR", .int 0, .bool true, .list [.str "L"], .str "left"]
theorem menS_bad {d : PyData} (h : d ∈ menS) : sideD d = false ∧ Bd d 1 20 2 := by
  have k : (menS.all fun d => !sideD d && bdB d 1 20 2) = true := by decide +kernel
  have := List.all_eq_true.mp k d h
  simp only [Bool.and_eq_true, Bool.not_eq_true'] at this
  exact ⟨this.1, .dec this.2⟩
theorem sides_len {n : Nat} {ds : List PyData} (h : ds.length ≠ n) : sidesD n (.list ds) = false := by
  show (decide (ds.length = n) && ds.all sideD) = false
  rw [decide_eq_false h]
  rfl
theorem sides_in {n : Nat} {ds : List PyData} {d : PyData} (h : d ∈ ds) (hd : sideD d = false) : sidesD n (.list ds) = false := by
  show (decide (ds.length = n) && ds.all sideD) = false
  cases e : ds.all sideD with
  | false => rw [Bool.and_false]
  | true =>
    have := List.all_eq_true.mp e d h
    rw [hd] at this
    cases this
end Ln


set_option Elab.async false
set_option linter.all false
set_option maxRecDepth 100000
set_option maxHeartbeats 2000000
namespace Ln
open PySem PySem.Spec PyProof.Rows L2
/-! ### an exception that is kept behind its suite -/
/-- a caught exception of the class cls -/
def ExH (cls : Value) (d : Option Addr) (a : Addr) : HO := .ext fun h => ∃ (oe : Obj) (vs : Array Value), h.get? a = some oe ∧ Zc cls d oe ∧ oe.data = .fields vs
theorem exH_ok {P : Program} {w : World} {H : Hp} {h : Heap} {a : Addr} {cls : Value} {d : Option Addr} {oe : Obj} {vs : Array Value} (e : h.get? a = some oe) (z : Zc cls d oe) (f : oe.data = .fields vs) : ObjOk P w H h a (ExH cls d a) :=
  ⟨⟨oe, vs, e, z, f⟩, ⟨oe, e⟩, fun _ _ ⟨o, v, q, r⟩ k => ⟨o, v, k o q, r⟩⟩
section
variable {X : Cx} {pins : List (Addr × Obj)} {σ : L2.St} {H : Hp} {s : Shared}
/-- an object that stands, and was not there at the entry, is tracked from now on -/
theorem Inv.track {a : Addr} {oe : Obj} {vs : Array Value} {cls : Value} {d : Option Addr} (I : Inv X pins σ H s) (ha : s.heap.get? a = some oe) (hz : Zc cls d oe) (hd : oe.data = .fields vs) (na : H a = none) (n0 : X.s_0.heap.get? a = none) (nL : a ≠ X.env.locals) (nP : ∀ p ∈ X.pn ++ pins, p.1 ≠ a) :
    Inv X pins σ (upd H a (ExH cls d a)) s := by
  have nc : ∀ x c, X.env.cells.lookup x = some c → c ≠ a := fun x c e z => by
    obtain ⟨v, o, ho, hv⟩ := I.cell x c e
    rw [z, ha] at ho
    cases ho
    rw [hd] at hv
    cases hv
  have hb : ∀ b o, H b = some o → upd H a (ExH cls d a) b = some o := fun b o e => by
    rw [upd_ne fun z => by rw [z, na] at e; cases e]
    exact e
  refine ⟨I.ok, I.os, I.bare, ⟨I.base.keep, I.base.slot, fun b o e n q => ?_, I.base.there, fun b xs e => hb _ _ (I.base.tups b xs e), fun b o u e => hb _ _ (I.base.frzs b o u e), fun b ps e => ?_⟩, I.loc, I.cell, ?_, fun x c e => ?_, fun p hp => ?_, I.hok.laidN (fun _ _ q => q) na (exH_ok ha hz hd), I.len⟩
  · rw [upd_ne fun z => by rw [z, n0] at e; cases e]
    exact I.base.free b o e n q
  · obtain ⟨m, z⟩ := I.base.tbls b ps e
    exact ⟨m, hb _ _ z⟩
  · rw [upd_ne (Ne.symm nL)]
    exact I.free
  · rw [upd_ne (nc x c e)]
    exact I.freeC x c e
  · obtain ⟨e, n, ne, nf, q⟩ := I.pin p hp
    exact ⟨e, by rw [upd_ne (nP p hp)]; exact n, ne, nf, q⟩
end
/-- what the clause wishes: behind the suite the exception is tracked -/
def wAsK (K : PySem.W.Frag) (c : Value) (i : Nat) (ts : Addr → Value → Option Addr → TS) (Wout : WX) (D : Ends) : WX := fun cls d σ H =>
  ∃ b, PySem.W.exmOne K cls c = some b ∧ (b = true → ∀ a, H a = none → ts a cls d { nx := fun σ' H' => H' a = none → D.nx (σ'.set i none) (upd H' a (ExH cls d a)), rt := D.rt, bk := fun σ' H' => D.bk (σ'.set i none) H', ct := fun σ' H' => D.ct (σ'.set i none) H' } (σ.set i (some (.ref a))) H) ∧
    (b = false → Wout cls d σ H)
section
variable {X : Cx} {x n : Str} {c : Value} {i : Nat} {body suite : List Stmt} {b₀ : Stmt} {np pos pos' : Pos} {tb : WX → TS} {ts : Addr → Value → Option Addr → TS} {Wout : WX}
theorem ps_try_asK (hs : X.stack = X.env :: X.outer) (hf : X.env.frame = some X.env.locals) (hN : X.N.Nodup) (hi : X.N[i]? = some n) (hln : X.env.kindOf n = some .local) (hex : X.ex = []) (hc : Names X x c) (tk : Takes X Wout)
    (hb : ∀ (W : WX) (pn : List (Addr × Obj)) (xe : Value → Shared → Prop), Takes (X.tr pn xe) W → PassesOwn (model X.prog X.w) X.A X.env xe → PSs (X.tr pn xe) body (tb W))
    (hsu : ∀ (a : Addr) (oe : Obj) (cls : Value) (d : Option Addr) (pn : List (Addr × Obj)), Zc cls d oe → (∃ vs, oe.data = .fields vs) → PSs (X.suite a ((a, oe) :: pn)) (b₀ :: suite) (ts a cls d)) :
    PS X (.Try body [.ExceptHandler (some (.Name x np)) (some n) (b₀ :: suite) pos'] [] [] pos) (fun D σ H => tb (wAsK X.K c i ts Wout D) D σ H) := by
  constructor
  intro pins s σ H D I h
  have ok := I.ok
  have hfr : X.A.frames = some (X.env :: X.outer) := by rw [ok.frames, hs]
  refine wpAny_Try_except (wpAny_mono ((hb (wAsK X.K c i ts Wout D) (X.pn ++ pins) (fun e s₁ => wpAny (model X.prog X.w) X.A (noteFrame e X.env) (fun _ s₂ => wpAny (model X.prog X.w) X.A (setFlight e none) (fun _ s₃ =>
    wpAny (model X.prog X.w) X.A (handleBy e X.env [.ExceptHandler (some (.Name x np)) (some n) (b₀ :: suite) pos']) (SP X pins D) X.xe s₃) X.xe s₂) X.xe s₁) (fun u s' xx => ?_) PassesOwn.looking).run [] s σ H D (I.toTry _) h) (fun f s1 hsp => ?_) fun e s1 he => he)
  · obtain ⟨a, B, sI, pins', σ', H', cls, d, rfl, J', nb, up, sky, na, os, ag, b, hb1, hyes, hno⟩ := xx
    have J : Inv X pins σ' H' sI := J'.ofTry ok
    have sky2 : Sky B (X.env :: X.outer) a (Zc cls d) X.env.locals s'.heap := hs ▸ sky
    show wpAny (model X.prog X.w) X.A (noteFrame (.ref a) X.env) _ _ _
    refine Sky.land Zc.steady hfr hf sky2 fun h3 fl3 up3 => ?_
    have J3 : Inv X pins σ' H' { s' with heap := h3 } := J.landed nb fl3.1 (up.trans up3) os ag
    have ndB : B.get? a = none := fl3.2.1
    obtain ⟨oe3, vs3, he3, hz3, hd3⟩ := fl3.there
    have nfr : a ∉ frs (X.env :: X.outer) := fun hm => by
      obtain ⟨_, o2, e2, hnf⟩ := fl3.2.2.1.mem hm
      rw [he3] at e2
      cases e2
      exact hnf _ hd3
    have frc : ∀ q, q ∈ frs (X.env :: X.outer) ↔ q = X.env.locals ∨ q ∈ X.fs := fun q => by
      show q ∈ List.filterMap (·.frame) (X.env :: X.outer) ↔ _
      rw [List.filterMap_cons, hf]
      exact List.mem_cons
    have nL : a ≠ X.env.locals := fun z => nfr ((frc a).mpr (.inl z))
    have nF : a ∉ X.fs := fun z => nfr ((frc a).mpr (.inr z))
    have n0 : X.s_0.heap.get? a = none := by
      cases q : X.s_0.heap.get? a with
      | none => rfl
      | some o =>
        obtain ⟨o2, e2⟩ := J.base.there a o q (by rw [hex]; exact fun z => nomatch z)
        have := nb a o2 e2 (hs ▸ nfr)
        rw [ndB] at this
        cases this
    have nP : ∀ p ∈ X.pn ++ pins, p.1 ≠ a := fun p hp z => by
      obtain ⟨e, _, nl, nf, _⟩ := J.pin p hp
      have := nb p.1 p.2 e (fun q => by
        rw [hs] at q
        rcases (frc _).mp q with q | q
        · exact nl q
        · exact nf q)
      rw [z, ndB] at this
      cases this
    have S3 := J3.suite he3 hd3 na nL nF
    refine wpAny_handleBy_cons (codeAny_handlers_test ?_) (by intro q; cases q)
    have LM := PySem.W.exm_one (M := model X.prog X.w) (J3.kIn) (show PySem.W.Looks (model X.prog X.w) h3 (typeOf (.ref a)) cls from fun A Q E s k q => wpAny_typeOf_ref (k _ _ he3) (by rw [hz3.1]; exact q)) hb1
    have test : ∀ {Q : Value → Shared → Prop} {E : Value → Shared → Prop}, Q c { s' with heap := h3 } → wpAny (model X.prog X.w) (X.A.mark (some (.ref a))) (eval (.Name x np) X.env) Q E { s' with heap := h3 } := fun {Q E} q => by
      obtain ⟨hg, hdbg, hm | ⟨hm, hv, hnn⟩⟩ := hc
      · exact ld_glob (X := X.suite a ((a, oe3) :: (X.pn ++ pins))) S3 hg hm q hdbg
      · exact ld_blt (X := X.suite a ((a, oe3) :: (X.pn ++ pins))) S3 hg hm hv q hnn hdbg
    refine test (LM.here ?_)
    cases b with
    | true =>
      refine codeAny_handlers_suite_as (HandSPX.lands_againZ fl3 fun h4 fl4 up4 => ?_)
      have J4 : Inv X pins σ' H' { s' with heap := h4 } := J.landed nb fl4.1 ((up.trans up3).trans up4) os ag
      obtain ⟨oe4, vs4, he4, hz4, hd4⟩ := fl4.there
      have S4 := J4.suite he4 hd4 na nL nF
      refine store_ok (X := X.suite a ((a, oe4) :: (X.pn ++ pins))) (v := .ref a) S4 hN hi (.inl hln) rfl (fun s5 S5 => ?_) (.inr hln)
      refine wpAny_mono ((hsu a oe4 cls d (X.pn ++ pins) hz4 ⟨_, hd4⟩).run [] s5 _ H' _ S5 (hyes rfl a na)) (fun f s6 hsp => ?_) (fun _ _ z => False.elim z)
      have gone : ∀ {σ6 : L2.St} {H6 : Hp} {Q : Shared → Prop}, Inv (X.suite a ((a, oe4) :: (X.pn ++ pins))) [] σ6 H6 s6 → (∀ s7, Inv X pins (σ6.set i none) H6 s7 → Q s7) →
          wpAny (model X.prog X.w) X.A (do bindName X.env n .none; unbindBehindTheSuite X.env n pos') (fun _ s7 => Q s7) X.xe s6 := fun {σ6 H6 Q} S6 hq => gone_ok (S6.unsuite ok) hN hi hln hq
      cases f with
      | next =>
        obtain ⟨σ6, H6, S6, q6⟩ := hsp
        obtain ⟨e6, n6, _⟩ := S6.pin (a, oe4) (List.mem_append_left _ List.mem_cons_self)
        have T6 : Inv X pins σ6 (upd H6 a (ExH cls d a)) s6 := Inv.track (S6.unsuite ok) e6 hz4 hd4 n6 n0 nL nP
        exact gone_ok T6 hN hi hln fun s7 J7 => ⟨_, _, J7, q6 n6⟩
      | brk =>
        obtain ⟨σ6, H6, S6, q6⟩ := hsp
        exact gone S6 fun s7 J7 => ⟨_, _, J7, q6⟩
      | cont =>
        obtain ⟨σ6, H6, S6, q6⟩ := hsp
        exact gone S6 fun s7 J7 => ⟨_, _, J7, q6⟩
      | ret u =>
        obtain ⟨v6, σ6, H6, S6, r6, q6⟩ := hsp
        exact gone S6 fun s7 J7 => ⟨_, _, _, J7, r6, q6⟩
    | false =>
      show wpAny _ X.A (handleBy (.ref a) X.env []) _ _ _
      refine wpAny_handleBy_nil ?_
      obtain ⟨k1, k2, k3, oe, vs, T, oT, ts', he, hz, hd, h1, hr⟩ := id fl3
      unfold PySem.passOn
      refine wpAny_bind (wpAny_field he hd h1 ?_)
      rw [if_neg (show ¬ ((Value.ref T == Value.none) = true) from by simp)]
      have fin : wpAny (model X.prog X.w) X.A (setFlight (.ref a) X.env.frame) (fun _ s4 => wpAny (model X.prog X.w) X.A (throw (.ref a) : Sem Flow) (SP X pins D) X.xe s4) X.xe { s' with heap := h3 } := by
        rw [hf]
        refine HandSPX.setFlight_upZ fl3 fun h4 hh4 up4 => wpAny_throw (tk _ _ ⟨a, B, sI, pins, σ', H', cls, d, rfl, J, nb, (up.trans up3).trans up4, .inr (.inr (by rw [hs]; exact hh4)), na, os, ag, hno rfl⟩)
      first
        | exact wpAny_bind (wpAny_pure (wpAny_bind fin))
        | exact wpAny_bind fin
  · cases f with
    | next =>
      obtain ⟨σ2, H2, J2, q⟩ := hsp
      exact wpAny_execs_nil ⟨σ2, H2, J2.ofTry ok, q⟩
    | brk =>
      obtain ⟨σ2, H2, J2, q⟩ := hsp
      exact ⟨σ2, H2, J2.ofTry ok, q⟩
    | cont =>
      obtain ⟨σ2, H2, J2, q⟩ := hsp
      exact ⟨σ2, H2, J2.ofTry ok, q⟩
    | ret u =>
      obtain ⟨v, σ2, H2, J2, r, q⟩ := hsp
      exact ⟨v, σ2, H2, J2.ofTry ok, r, q⟩
end
/-! ### isinstance of a tracked exception -/
/-- isinstance(e, c) -/
def rIsX (K : PySem.W.Frag) : List V → Hp → VK → Prop := fun xs H Q => ∃ (a D : Addr) (c : V) (cv : Value) (b : Bool), xs = [.ref a, c] ∧ ExcC K D ∧ H a = some (ExH (.ref D) none a) ∧ ClsV c cv ∧ PySem.W.kitOne K (.ref D) cv = some b ∧ Q (.bl b) H
/-- isinstance(e, (c1, c2, ..)) -/
def rIsXT (K : PySem.W.Frag) : List V → Hp → VK → Prop := fun xs H Q => ∃ (a D tp : Addr) (cs : List V) (us : List Value) (b : Bool), xs = [.ref a, .ref tp] ∧ ExcC K D ∧ H a = some (ExH (.ref D) none a) ∧ H tp = some (.tup cs) ∧ Paired ClsV cs us ∧ PySem.W.kitAny K (.ref D) us = some b ∧ Q (.bl b) H
section
variable {X : Cx}
theorem exH_inst {P : Program} {w : World} {H : Hp} {h : Heap} {a D : Addr} (x : HOk P w H h) (e : H a = some (ExH (.ref D) none a)) : ∃ oe, PySem.W.InstAt h a oe D none := by
  obtain ⟨⟨⟨oc, od, oda, osl⟩, vs, hg, ⟨h1, h2⟩, hv⟩, _, _⟩ := x a _ e
  dsimp only at h1 h2 hv
  subst h1 h2 hv
  exact ⟨_, hg, rfl, rfl, trivial⟩
theorem call_isX : CallR X (.builtin "isinstance") (rIsX X.K) := by
  intro pins s σ H xs us Q I r h
  obtain ⟨a, D, c, cv, b, rfl, C, ha, hc, e, q⟩ := h
  obtain ⟨u1, u2, rfl, r1, r2⟩ := vals2 r
  cases (show u1 = Value.ref a from r1)
  have e2 := hc.eq r2
  subst e2
  obtain ⟨oe, J⟩ := exH_inst I.hok ha
  exact PySem.W.kia_one (PySem.W.handS_kitx_exc C.hg C.hk C.hs C.hd C.ha C.hn C.ht C.hm) I.kIn J e (fun z => nomatch z) fun tk => ⟨.bl b, H, I.tok tk, rfl, q⟩
theorem call_isXT : CallR X (.builtin "isinstance") (rIsXT X.K) := by
  intro pins s σ H xs us Q I r h
  obtain ⟨a, D, tp, cs, ws, b, rfl, C, ha, hT, k, e, q⟩ := h
  obtain ⟨u1, u2, rfl, r1, r2⟩ := vals2 r
  cases (show u1 = Value.ref a from r1)
  cases (show u2 = Value.ref tp from r2)
  obtain ⟨oe, J⟩ := exH_inst I.hok ha
  obtain ⟨_, its, rv, o, h1, h2, n, h3⟩ := (show ObjOk X.prog X.w H s.heap tp (.tup cs) from I.hok tp _ hT)
  have e3 := ClsV.all k rv
  subst e3
  obtain ⟨oc, od, dt, sl⟩ := o
  simp only at h2 h3
  subst h2 h3
  exact PySem.W.kia_tup (PySem.W.handS_kitx_exc C.hg C.hk C.hs C.hd C.ha C.hn C.ht C.hm) I.kIn J h1 e (fun z => nomatch z) fun tk => ⟨.bl b, H, I.tok tk, rfl, q⟩
end
end Ln


set_option Elab.async false
set_option linter.all false
set_option maxRecDepth 100000
set_option maxHeartbeats 2000000
namespace Ln
open PySem PySem.Spec PyProof.Rows L2
/-! ### the error classes, by one look at the written part -/
def ErrNames : List Str := ["InvalidLane", "InvalidLog", "InvalidCar", "InvalidCars", "InvalidSides", "InvalidPattern", "InvalidSightings", "InvalidIndex", "InvalidText", "UnknownCar", "UsedCar", "EmptyLane", "NotPossible", "NothingToUndo", "TooLarge"]
def clsAt (K : PySem.W.Frag) (x : Str) : Option Addr := match PySem.W.nsIn K mainGlobals x with
  | some (some (.ref C)) => some C
  | _ => none
def erRow (K : PySem.W.Frag) (CB : Addr) (x : Str) (D : Addr) : Bool :=
  PySem.W.excIn K D [.type "ValueError", .type "Exception", .type "BaseException", .type "object"] "ValueError.__new__" && PySem.W.keepIn K (.ref D) && (PySem.W.subIn K (.ref D) (.type "BaseException") == some true) && (PySem.W.typeIn K (.ref D) == some (.type "type"))
  && (PySem.W.findIn K (.ref D) "__getattribute__" == some (some (.builtin "BaseException.__getattribute__"))) && (PySem.W.findIn K (.ref D) "__getattr__" == some none) && PySem.W.hasDictIn K D && (PySem.W.findIn K (.ref D) "__class__" == some (some (.builtin "object.__class__")))
  && (PySem.W.specialIn K (.builtin "object.__class__") "__get__" == some (some (.builtin "getset_descriptor.__get__"))) && (PySem.W.takesIn K (.builtin "object.__class__") == some true) && (PySem.W.mroIn K D (.type "object") == some true)
  && (PySem.W.kitOne K (.ref D) (.type "ValueError") == some true) && (PySem.W.exmOne K (.ref D) (.ref CB) == some true)
  && ErrNames.all fun y => match clsAt K y with
    | some C => PySem.W.kitOne K (.ref D) (.ref C) == some (x == y)
    | none => false
def erOk (K : PySem.W.Frag) (R : List Str) : Bool := match clsAt K "LaneError" with
  | none => false
  | some CB => PySem.W.keepIn K (.ref CB) && R.all fun x => match clsAt K x with
    | some D => erRow K CB x D
    | none => false
/-- what is known of the class D, named x -/
structure Er (K : PySem.W.Frag) (mg : Str → Option Value) (CB : Addr) (x : Str) (D : Addr) : Prop where
  xc : Xc K mg x D
  ec : ExcC K D
  ve : PySem.W.kitOne K (.ref D) (.type "ValueError") = some true
  ex : PySem.W.exmOne K (.ref D) (.ref CB) = some true
  kit : ∀ y ∈ ErrNames, ∀ C, mg y = some (.ref C) → PySem.W.kitOne K (.ref D) (.ref C) = some (x == y)
structure Ers (K : PySem.W.Frag) (mg : Str → Option Value) (R : List Str) (CB : Addr) : Prop where
  g : mg "LaneError" = some (.ref CB)
  k : PySem.W.keepIn K (.ref CB) = true
  all : ∀ x ∈ R, ∃ D, Er K mg CB x D
theorem cls_ns {K : PySem.W.Frag} {x : Str} {C : Addr} (h : clsAt K x = some C) : PySem.W.nsIn K mainGlobals x = some (some (.ref C)) := by
  unfold clsAt at h
  split at h
  · rename_i D e
    cases h
    exact e
  · cases h
theorem ers_of {K : PySem.W.Frag} {mg : Str → Option Value} {h : Heap} {R : List Str} (X : K.In h) (G : h.Ns mainGlobals mg) (e : erOk K R = true) : ∃ CB, Ers K mg R CB := by
  unfold erOk at e
  split at e
  · cases e
  · rename_i CB hCB
    rw [Bool.and_eq_true] at e
    obtain ⟨e1, e2⟩ := e
    refine ⟨CB, PySem.W.mg_of X G (cls_ns hCB), e1, fun x hx => ?_⟩
    have e3 := List.all_eq_true.mp e2 x hx
    split at e3
    · rename_i D hD
      unfold erRow at e3
      simp only [Bool.and_eq_true] at e3
      obtain ⟨⟨⟨⟨⟨⟨⟨⟨⟨⟨⟨⟨⟨a1, a2⟩, a3⟩, a4⟩, a5⟩, a6⟩, a7⟩, a8⟩, a9⟩, a10⟩, a11⟩, a12⟩, a13⟩, a14⟩ := e3
      refine ⟨D, ⟨PySem.W.mg_of X G (cls_ns hD), a1, a2, beq_iff_eq.mp a3, beq_iff_eq.mp a4⟩, ⟨beq_iff_eq.mp a5, beq_iff_eq.mp a6, beq_iff_eq.mp a3, a7, beq_iff_eq.mp a8, beq_iff_eq.mp a9, beq_iff_eq.mp a10, beq_iff_eq.mp a11⟩, beq_iff_eq.mp a12, beq_iff_eq.mp a13, fun y hy C hC => ?_⟩
      have e4 := List.all_eq_true.mp a14 y hy
      split at e4
      · rename_i C2 hC2
        have e5 := (PySem.W.mg_of X G (cls_ns hC2)).symm.trans hC
        cases e5
        exact beq_iff_eq.mp e4
      · cases e4
    · cases e3
/-- the error's names are there -/
theorem ers_names {K : PySem.W.Frag} {mg : Str → Option Value} {h : Heap} {R : List Str} {x : Str} (X : K.In h) (G : h.Ns mainGlobals mg) (hx : x ∈ R) (e : erOk K R = true) : ∀ y ∈ ErrNames, ∃ C, mg y = some (.ref C) := fun y hy => by
  unfold erOk at e
  split at e
  · cases e
  · rw [Bool.and_eq_true] at e
    have e3 := List.all_eq_true.mp e.2 x hx
    split at e3
    · unfold erRow at e3
      rw [Bool.and_eq_true] at e3
      have e4 := List.all_eq_true.mp e3.2 y hy
      split at e4
      · rename_i C2 hC2
        exact ⟨C2, PySem.W.mg_of X G (cls_ns hC2)⟩
      · cases e4
    · cases e3
end Ln


set_option Elab.async false
set_option linter.all false
set_option maxRecDepth 100000
set_option maxHeartbeats 8000000
namespace Ln
open PySem PySem.Spec PyProof.Rows L2 GxR
theorem scKind3 : FnScope ["e", "some", "name", "so"] ["e"] (defScope sKind) := ⟨rfl, rfl, rfl, by decide +kernel, rfl, by decide +kernel, by decide +kernel⟩
/-- which of the names is x -/
def kindW3 (x : Str) : List (Str × Bool) := [("InvalidLane", x == "InvalidLane"), ("InvalidLog", x == "InvalidLog"), ("InvalidCar", x == "InvalidCar"), ("InvalidCars", x == "InvalidCars"), ("InvalidSides", x == "InvalidSides"), ("InvalidText", x == "InvalidText"), ("InvalidPattern", x == "InvalidPattern"), ("InvalidIndex", x == "InvalidIndex"), ("InvalidSightings", x == "InvalidSightings"), ("UsedCar", x == "UsedCar"), ("UnknownCar", x == "UnknownCar"), ("EmptyLane", x == "EmptyLane"), ("NotPossible", x == "NotPossible"), ("TooLarge", x == "TooLarge"), ("NothingToUndo", x == "NothingToUndo"), ("other", !true)]
def kindN3 : List Str := ["InvalidLane", "InvalidLog", "InvalidCar", "InvalidCars", "InvalidSides", "InvalidText", "InvalidPattern", "InvalidIndex", "InvalidSightings", "UsedCar", "UnknownCar", "EmptyLane", "NotPossible", "TooLarge", "NothingToUndo"]
theorem kind3_one {x : Str} (h : x ∈ kindN3) : ((kindW3 x).filter (·.2)).map (fun p => V.str p.1) = [x].map V.str := by
  have k : kindN3.all (fun x => decide (((kindW3 x).filter (·.2)).map (·.1) = [x])) = true := by decide +kernel
  have := of_decide_eq_true (List.all_eq_true.mp k x h)
  rw [show (fun p : Str × Bool => V.str p.1) = V.str ∘ (·.1) from rfl, ← List.map_map, this]
theorem kind3_join {x : Str} (h : x ∈ kindN3) : Txt.join " " [x] = x := by
  have k : kindN3.all (fun x => decide (Txt.join " " [x] = x)) = true := by decide +kernel
  exact of_decide_eq_true (List.all_eq_true.mp k x h)
theorem kind3_size {x : Str} (h : x ∈ kindN3) : (([x] : List Str).map (·.length)).sum + ([x] : List Str).length * (" " : Str).length ≤ 16777216 := by
  have k : kindN3.all (fun x => decide ((([x] : List Str).map (·.length)).sum + ([x] : List Str).length * (" " : Str).length ≤ 16777216)) = true := by decide +kernel
  exact of_decide_eq_true (List.all_eq_true.mp k x h)
def PrsT (H : Hp) (ts : List Addr) (ps : List (Str × Bool)) : Prop := Paired (fun t p => H t = some (.tup [.str p.1, .bl p.2])) ts ps
theorem prsT_same {H H' : Hp} {ts : List Addr} {ps : List (Str × Bool)} (h : PrsT H ts ps) (k : L2.Same H H') : PrsT H' ts ps := Paired.imp h fun _ _ q => k _ _ q
theorem pr3 {H : Hp} {t1 t2 m : Addr} {p1 p2 : Str × Bool} (n1 : H t1 = none) (n2 : (upd H t1 (.tup [.str p1.1, .bl p1.2])) t2 = none) (n3 : (upd (upd H t1 (.tup [.str p1.1, .bl p1.2])) t2 (.tup [.str p2.1, .bl p2.2])) m = none) :
    L2.Same H (upd (upd (upd H t1 (.tup [.str p1.1, .bl p1.2])) t2 (.tup [.str p2.1, .bl p2.2])) m (.lst [.ref t1, .ref t2])) := sm_trans (sm_new sm_refl n1) (sm_trans (sm_new sm_refl n2) (sm_new sm_refl n3))
theorem pr1 {H : Hp} {t1 t2 m : Addr} {p1 p2 : Str × Bool} (n1 : H t1 = none) (n2 : (upd H t1 (.tup [.str p1.1, .bl p1.2])) t2 = none) (n3 : (upd (upd H t1 (.tup [.str p1.1, .bl p1.2])) t2 (.tup [.str p2.1, .bl p2.2])) m = none) :
    L2.Same H (upd (upd (upd H t1 (.tup [.str p1.1, .bl p1.2])) t2 (.tup [.str p2.1, .bl p2.2])) m (.lst [.ref t1, .ref t2])) ∧ (upd (upd (upd H t1 (.tup [.str p1.1, .bl p1.2])) t2 (.tup [.str p2.1, .bl p2.2])) m (.lst [.ref t1, .ref t2])) m = some (.lst ([t1, t2].map V.ref)) ∧
      PrsT (upd (upd (upd H t1 (.tup [.str p1.1, .bl p1.2])) t2 (.tup [.str p2.1, .bl p2.2])) m (.lst [.ref t1, .ref t2])) [t1, t2] [p1, p2] :=
  ⟨pr3 n1 n2 n3, upd_same, .cons ((sm_trans (sm_new (o := .tup [.str p2.1, .bl p2.2]) sm_refl n2) (sm_new sm_refl n3)) _ _ upd_same) (.cons ((sm_new sm_refl n3) _ _ upd_same) .nil)⟩
theorem paired_app3 {α β : Type} {R : α → β → Prop} : ∀ {as as2 : List α} {bs bs2 : List β}, Paired R as bs → Paired R as2 bs2 → Paired R (as ++ as2) (bs ++ bs2)
  | _, _, _, _, .nil, k => k
  | _, _, _, _, .cons h t, k => .cons h (paired_app3 t k)
theorem pr2 {H : Hp} {t1 t2 m : Addr} {p1 p2 : Str × Bool} {ts : List Addr} {ps : List (Str × Bool)} (hp : PrsT H ts ps) (n1 : H t1 = none) (n2 : (upd H t1 (.tup [.str p1.1, .bl p1.2])) t2 = none) (n3 : (upd (upd H t1 (.tup [.str p1.1, .bl p1.2])) t2 (.tup [.str p2.1, .bl p2.2])) m = none) :
    L2.Same H (upd (upd (upd H t1 (.tup [.str p1.1, .bl p1.2])) t2 (.tup [.str p2.1, .bl p2.2])) m (.lst [.ref t1, .ref t2])) ∧ True ∧
      PrsT (upd (upd (upd H t1 (.tup [.str p1.1, .bl p1.2])) t2 (.tup [.str p2.1, .bl p2.2])) m (.lst [.ref t1, .ref t2])) (ts ++ [t1, t2]) (ps ++ [p1, p2]) :=
  ⟨pr3 n1 n2 n3, trivial, paired_app3 (prsT_same hp (pr3 n1 n2 n3)) (pr1 n1 n2 n3).2.2⟩
section
variable {P : Program} {w : World} {K : PySem.W.Frag} {mg : Str → Option Value} {base : Heap} {Ps : List Addr}
def spKindE (K : PySem.W.Frag) (mg : Str → Option Value) (CB : Addr) : LHot.SpE := fun a D H Q => ∃ x : Str, x ∈ kindN3 ∧ Er K mg CB x D ∧ ∀ H', L2.Same H H' → Q (.str x) H'
theorem ok_kindE {f CB : Addr} {fd : FuncData} (F : Fun K "_law_kind" "_law_kind" sKind f fd) (B : Bi mg) (nm : ∀ y ∈ ErrNames, ∃ C, mg y = some (.ref C)) (mgV : mg "ValueError" = none) : LHot.FnE P w K mg base 1 f fd "e" (spKindE K mg CB) := by
  refine LHot.okE F scKind3 (fun cdv A outer s H Q p D hot hz hf hr h => ?_)
  obtain ⟨x, hx, er, q⟩ := h
  obtain ⟨a, ea⟩ : ∃ a, a = p.1 := ⟨_, rfl⟩
  have nn : ∀ y, ErrNames.contains y = true → ∃ C, mg y = some (.ref C) := fun y h => nm y (List.contains_iff_mem.mp h)
  obtain ⟨C0, g0⟩ := nn "InvalidLane" (by decide +kernel)
  obtain ⟨C1, g1⟩ := nn "InvalidLog" (by decide +kernel)
  obtain ⟨C2, g2⟩ := nn "InvalidCar" (by decide +kernel)
  obtain ⟨C3, g3⟩ := nn "InvalidCars" (by decide +kernel)
  obtain ⟨C4, g4⟩ := nn "InvalidSides" (by decide +kernel)
  obtain ⟨C5, g5⟩ := nn "InvalidText" (by decide +kernel)
  obtain ⟨C6, g6⟩ := nn "InvalidPattern" (by decide +kernel)
  obtain ⟨C7, g7⟩ := nn "InvalidIndex" (by decide +kernel)
  obtain ⟨C8, g8⟩ := nn "InvalidSightings" (by decide +kernel)
  obtain ⟨C9, g9⟩ := nn "UsedCar" (by decide +kernel)
  obtain ⟨C10, g10⟩ := nn "UnknownCar" (by decide +kernel)
  obtain ⟨C11, g11⟩ := nn "EmptyLane" (by decide +kernel)
  obtain ⟨C12, g12⟩ := nn "NotPossible" (by decide +kernel)
  obtain ⟨C13, g13⟩ := nn "TooLarge" (by decide +kernel)
  obtain ⟨C14, g14⟩ := nn "NothingToUndo" (by decide +kernel)
  have hc : L2H.HotC (L2H.cxH CX0 P w K mg base ["e", "some", "name", "so"] "_law_kind" (defScope sKind) f cdv A outer s H E0 p) := ⟨p, hot, List.mem_singleton.mpr rfl⟩
  have RR : CallR (L2H.cxH CX0 P w K mg base ["e", "some", "name", "so"] "_law_kind" (defScope sKind) f cdv A outer s H E0 p) (.builtin "isinstance") (rIsE K D p.1) := LHot.call_isP (oe := p.2) (List.mem_singleton.mpr rfl) er.ec hz hf
  refine ⟨_, (pss_cons (ps_set (i := 1) scKind3.nd rfl (.inl rfl) (pe_lst (pa_cons (pe_tup (pa_cons pe_str (pa_cons (pe_callB RR (by rfl) B.isi (by decide +kernel) (pa_cons (pv 0) (pa_cons (pe_glob (v := .ref C0) rfl g0 rfl) pa_nil))) pa_nil))) (pa_cons (pe_tup (pa_cons pe_str (pa_cons (pe_callB RR (by rfl) B.isi (by decide +kernel) (pa_cons (pv 0) (pa_cons (pe_glob (v := .ref C1) rfl g1 rfl) pa_nil))) pa_nil))) pa_nil))))
      (pss_cons (ps_set (i := 1) scKind3.nd rfl (.inl rfl) (pe_op op_cat (pv 1) (pe_lst (pa_cons (pe_tup (pa_cons pe_str (pa_cons (pe_callB RR (by rfl) B.isi (by decide +kernel) (pa_cons (pv 0) (pa_cons (pe_glob (v := .ref C2) rfl g2 rfl) pa_nil))) pa_nil))) (pa_cons (pe_tup (pa_cons pe_str (pa_cons (pe_callB RR (by rfl) B.isi (by decide +kernel) (pa_cons (pv 0) (pa_cons (pe_glob (v := .ref C3) rfl g3 rfl) pa_nil))) pa_nil))) pa_nil)))))
      (pss_cons (ps_set (i := 1) scKind3.nd rfl (.inl rfl) (pe_op op_cat (pv 1) (pe_lst (pa_cons (pe_tup (pa_cons pe_str (pa_cons (pe_callB RR (by rfl) B.isi (by decide +kernel) (pa_cons (pv 0) (pa_cons (pe_glob (v := .ref C4) rfl g4 rfl) pa_nil))) pa_nil))) (pa_cons (pe_tup (pa_cons pe_str (pa_cons (pe_callB RR (by rfl) B.isi (by decide +kernel) (pa_cons (pv 0) (pa_cons (pe_glob (v := .ref C5) rfl g5 rfl) pa_nil))) pa_nil))) pa_nil)))))
      (pss_cons (ps_set (i := 1) scKind3.nd rfl (.inl rfl) (pe_op op_cat (pv 1) (pe_lst (pa_cons (pe_tup (pa_cons pe_str (pa_cons (pe_callB RR (by rfl) B.isi (by decide +kernel) (pa_cons (pv 0) (pa_cons (pe_glob (v := .ref C6) rfl g6 rfl) pa_nil))) pa_nil))) (pa_cons (pe_tup (pa_cons pe_str (pa_cons (pe_callB RR (by rfl) B.isi (by decide +kernel) (pa_cons (pv 0) (pa_cons (pe_glob (v := .ref C7) rfl g7 rfl) pa_nil))) pa_nil))) pa_nil)))))
      (pss_cons (ps_set (i := 1) scKind3.nd rfl (.inl rfl) (pe_op op_cat (pv 1) (pe_lst (pa_cons (pe_tup (pa_cons pe_str (pa_cons (pe_callB RR (by rfl) B.isi (by decide +kernel) (pa_cons (pv 0) (pa_cons (pe_glob (v := .ref C8) rfl g8 rfl) pa_nil))) pa_nil))) (pa_cons (pe_tup (pa_cons pe_str (pa_cons (pe_callB RR (by rfl) B.isi (by decide +kernel) (pa_cons (pv 0) (pa_cons (pe_glob (v := .ref C9) rfl g9 rfl) pa_nil))) pa_nil))) pa_nil)))))
      (pss_cons (ps_set (i := 1) scKind3.nd rfl (.inl rfl) (pe_op op_cat (pv 1) (pe_lst (pa_cons (pe_tup (pa_cons pe_str (pa_cons (pe_callB RR (by rfl) B.isi (by decide +kernel) (pa_cons (pv 0) (pa_cons (pe_glob (v := .ref C10) rfl g10 rfl) pa_nil))) pa_nil))) (pa_cons (pe_tup (pa_cons pe_str (pa_cons (pe_callB RR (by rfl) B.isi (by decide +kernel) (pa_cons (pv 0) (pa_cons (pe_glob (v := .ref C11) rfl g11 rfl) pa_nil))) pa_nil))) pa_nil)))))
      (pss_cons (ps_set (i := 1) scKind3.nd rfl (.inl rfl) (pe_op op_cat (pv 1) (pe_lst (pa_cons (pe_tup (pa_cons pe_str (pa_cons (pe_callB RR (by rfl) B.isi (by decide +kernel) (pa_cons (pv 0) (pa_cons (pe_glob (v := .ref C12) rfl g12 rfl) pa_nil))) pa_nil))) (pa_cons (pe_tup (pa_cons pe_str (pa_cons (pe_callB RR (by rfl) B.isi (by decide +kernel) (pa_cons (pv 0) (pa_cons (pe_glob (v := .ref C13) rfl g13 rfl) pa_nil))) pa_nil))) pa_nil)))))
      (pss_cons (ps_set (i := 1) scKind3.nd rfl (.inl rfl) (pe_op op_cat (pv 1) (pe_lst (pa_cons (pe_tup (pa_cons pe_str (pa_cons (pe_callB RR (by rfl) B.isi (by decide +kernel) (pa_cons (pv 0) (pa_cons (pe_glob (v := .ref C14) rfl g14 rfl) pa_nil))) pa_nil))) (pa_cons (pe_tup (pa_cons pe_str (pa_cons (pe_not (pe_callB RR (by rfl) B.isi (by decide +kernel) (pa_cons (pv 0) (pa_cons (pe_bltn (by rfl) mgV (by decide +kernel) (v := .ty "ValueError") rfl) pa_nil)))) pa_nil))) pa_nil)))))
      (pss_one (ps_ret (pe_join pe_str (LHot.pe_lcL (own := [("name", 2), ("so", 3)]) (g := gTup K 2 (gCons (gName 2) (gCons (gName 3) gNil))) (tt := tB (tVar 3)) (te := tVar 2) hc scKind3.nd (LHot.pi_listL (pv 1)) (blkOk_by (own := [("name", 2), ("so", 3)]) (N := ["e", "some", "name", "so"]) (sc := defScope sKind) (by decide +kernel)) (fun _ _ _ _ _ => LHot.pg_tupL hc (pgs_cons (pg_name (i := 2) scKind3.nd rfl (Or.inl rfl)) (pgs_cons (pg_name (i := 3) scKind3.nd rfl (Or.inl rfl)) pgs_nil))) (fun _ _ _ _ _ => pts_one (pt_val (pv 3))) (fun _ _ _ _ _ => pv 2))))))))))))), ?_⟩
  rw [← ea]
  refine ⟨.ref a, rfl, .ref C0, _, _, rfl, (fun u r => r), (er.kit "InvalidLane" (by decide +kernel) C0 g0), by show 2 ≤ sizeLine; decide, fun t0 n0 => ?_⟩
  refine ⟨.ref a, rfl, .ref C1, _, _, rfl, (fun u r => r), (er.kit "InvalidLog" (by decide +kernel) C1 g1), by show 2 ≤ sizeLine; decide, fun t1 n1 => ?_⟩
  refine ⟨by show 2 ≤ sizeLine; decide, fun q0 nq0 => ?_⟩
  obtain ⟨k0, e0, p0⟩ := pr1 (p1 := ("InvalidLane", x == "InvalidLane")) (p2 := ("InvalidLog", x == "InvalidLog")) n0 n1 nq0
  obtain ⟨J0, eJ0⟩ : ∃ J, J = (upd (upd (upd H t0 (.tup [.str "InvalidLane", .bl (x == "InvalidLane")])) t1 (.tup [.str "InvalidLog", .bl (x == "InvalidLog")])) q0 (.lst [.ref t0, .ref t1])) := ⟨_, rfl⟩
  have k0 : L2.Same H J0 := by rw [eJ0]; exact k0
  have e0 : J0 q0 = some (.lst ([t0, t1].map V.ref)) := by rw [eJ0]; exact e0
  have p0 : PrsT J0 [t0, t1] [("InvalidLane", x == "InvalidLane"), ("InvalidLog", x == "InvalidLog")] := by rw [eJ0]; exact p0
  obtain ⟨m0, em0⟩ : ∃ m, m = q0 := ⟨_, rfl⟩
  rw [← eJ0, ← em0]
  rw [← em0] at e0
  clear eJ0 em0 n0 n1 nq0
  refine ⟨.ref m0, rfl, .ref a, rfl, .ref C2, _, _, rfl, (fun u r => r), (er.kit "InvalidCar" (by decide +kernel) C2 g2), by show 2 ≤ sizeLine; decide, fun t2 n2 => ?_⟩
  refine ⟨.ref a, rfl, .ref C3, _, _, rfl, (fun u r => r), (er.kit "InvalidCars" (by decide +kernel) C3 g3), by show 2 ≤ sizeLine; decide, fun t3 n3 => ?_⟩
  refine ⟨by show 2 ≤ sizeLine; decide, fun q1 nq1 => ?_⟩
  obtain ⟨k1', e1', p1'⟩ := pr2 (p1 := ("InvalidCar", x == "InvalidCar")) (p2 := ("InvalidCars", x == "InvalidCars")) p0 n2 n3 nq1
  have em' := (pr3 (p1 := ("InvalidCar", x == "InvalidCar")) (p2 := ("InvalidCars", x == "InvalidCars")) n2 n3 nq1) _ _ e0
  refine ⟨m0, q1, _, _, rfl, rfl, em', upd_same, by show 4 ≤ sizeLine; decide, fun m1 nm1 => ?_⟩
  have kk := sm_trans k1' (sm_new (o := .lst ([t0, t1].map V.ref ++ [.ref t2, .ref t3])) sm_refl nm1)
  have pp := prsT_same p1' (sm_new (o := .lst ([t0, t1].map V.ref ++ [.ref t2, .ref t3])) sm_refl nm1)
  have ee : (upd (upd (upd (upd J0 t2 (.tup [.str "InvalidCar", .bl (x == "InvalidCar")])) t3 (.tup [.str "InvalidCars", .bl (x == "InvalidCars")])) q1 (.lst [.ref t2, .ref t3])) m1 (.lst ([t0, t1].map V.ref ++ [.ref t2, .ref t3]))) m1 = some (.lst ([t0, t1].map V.ref ++ [.ref t2, .ref t3])) := upd_same
  obtain ⟨J1, eJ1⟩ : ∃ J, J = (upd (upd (upd (upd J0 t2 (.tup [.str "InvalidCar", .bl (x == "InvalidCar")])) t3 (.tup [.str "InvalidCars", .bl (x == "InvalidCars")])) q1 (.lst [.ref t2, .ref t3])) m1 (.lst ([t0, t1].map V.ref ++ [.ref t2, .ref t3]))) := ⟨_, rfl⟩
  have k1 : L2.Same H J1 := by rw [eJ1]; exact sm_trans k0 kk
  have e1 : J1 m1 = some (.lst ([t0, t1, t2, t3].map V.ref)) := by rw [eJ1]; exact ee
  have p1 : PrsT J1 [t0, t1, t2, t3] [("InvalidLane", x == "InvalidLane"), ("InvalidLog", x == "InvalidLog"), ("InvalidCar", x == "InvalidCar"), ("InvalidCars", x == "InvalidCars")] := by rw [eJ1]; exact pp
  rw [← eJ1]
  clear eJ1 kk pp ee em' k1' e1' p1' n2 n3 nq1 nm1 k0 e0 p0
  refine ⟨.ref m1, rfl, .ref a, rfl, .ref C4, _, _, rfl, (fun u r => r), (er.kit "InvalidSides" (by decide +kernel) C4 g4), by show 2 ≤ sizeLine; decide, fun t4 n4 => ?_⟩
  refine ⟨.ref a, rfl, .ref C5, _, _, rfl, (fun u r => r), (er.kit "InvalidText" (by decide +kernel) C5 g5), by show 2 ≤ sizeLine; decide, fun t5 n5 => ?_⟩
  refine ⟨by show 2 ≤ sizeLine; decide, fun q2 nq2 => ?_⟩
  obtain ⟨k2', e2', p2'⟩ := pr2 (p1 := ("InvalidSides", x == "InvalidSides")) (p2 := ("InvalidText", x == "InvalidText")) p1 n4 n5 nq2
  have em' := (pr3 (p1 := ("InvalidSides", x == "InvalidSides")) (p2 := ("InvalidText", x == "InvalidText")) n4 n5 nq2) _ _ e1
  refine ⟨m1, q2, _, _, rfl, rfl, em', upd_same, by show 6 ≤ sizeLine; decide, fun m2 nm2 => ?_⟩
  have kk := sm_trans k2' (sm_new (o := .lst ([t0, t1, t2, t3].map V.ref ++ [.ref t4, .ref t5])) sm_refl nm2)
  have pp := prsT_same p2' (sm_new (o := .lst ([t0, t1, t2, t3].map V.ref ++ [.ref t4, .ref t5])) sm_refl nm2)
  have ee : (upd (upd (upd (upd J1 t4 (.tup [.str "InvalidSides", .bl (x == "InvalidSides")])) t5 (.tup [.str "InvalidText", .bl (x == "InvalidText")])) q2 (.lst [.ref t4, .ref t5])) m2 (.lst ([t0, t1, t2, t3].map V.ref ++ [.ref t4, .ref t5]))) m2 = some (.lst ([t0, t1, t2, t3].map V.ref ++ [.ref t4, .ref t5])) := upd_same
  obtain ⟨J2, eJ2⟩ : ∃ J, J = (upd (upd (upd (upd J1 t4 (.tup [.str "InvalidSides", .bl (x == "InvalidSides")])) t5 (.tup [.str "InvalidText", .bl (x == "InvalidText")])) q2 (.lst [.ref t4, .ref t5])) m2 (.lst ([t0, t1, t2, t3].map V.ref ++ [.ref t4, .ref t5]))) := ⟨_, rfl⟩
  have k2 : L2.Same H J2 := by rw [eJ2]; exact sm_trans k1 kk
  have e2 : J2 m2 = some (.lst ([t0, t1, t2, t3, t4, t5].map V.ref)) := by rw [eJ2]; exact ee
  have p2 : PrsT J2 [t0, t1, t2, t3, t4, t5] [("InvalidLane", x == "InvalidLane"), ("InvalidLog", x == "InvalidLog"), ("InvalidCar", x == "InvalidCar"), ("InvalidCars", x == "InvalidCars"), ("InvalidSides", x == "InvalidSides"), ("InvalidText", x == "InvalidText")] := by rw [eJ2]; exact pp
  rw [← eJ2]
  clear eJ2 kk pp ee em' k2' e2' p2' n4 n5 nq2 nm2 k1 e1 p1
  refine ⟨.ref m2, rfl, .ref a, rfl, .ref C6, _, _, rfl, (fun u r => r), (er.kit "InvalidPattern" (by decide +kernel) C6 g6), by show 2 ≤ sizeLine; decide, fun t6 n6 => ?_⟩
  refine ⟨.ref a, rfl, .ref C7, _, _, rfl, (fun u r => r), (er.kit "InvalidIndex" (by decide +kernel) C7 g7), by show 2 ≤ sizeLine; decide, fun t7 n7 => ?_⟩
  refine ⟨by show 2 ≤ sizeLine; decide, fun q3 nq3 => ?_⟩
  obtain ⟨k3', e3', p3'⟩ := pr2 (p1 := ("InvalidPattern", x == "InvalidPattern")) (p2 := ("InvalidIndex", x == "InvalidIndex")) p2 n6 n7 nq3
  have em' := (pr3 (p1 := ("InvalidPattern", x == "InvalidPattern")) (p2 := ("InvalidIndex", x == "InvalidIndex")) n6 n7 nq3) _ _ e2
  refine ⟨m2, q3, _, _, rfl, rfl, em', upd_same, by show 8 ≤ sizeLine; decide, fun m3 nm3 => ?_⟩
  have kk := sm_trans k3' (sm_new (o := .lst ([t0, t1, t2, t3, t4, t5].map V.ref ++ [.ref t6, .ref t7])) sm_refl nm3)
  have pp := prsT_same p3' (sm_new (o := .lst ([t0, t1, t2, t3, t4, t5].map V.ref ++ [.ref t6, .ref t7])) sm_refl nm3)
  have ee : (upd (upd (upd (upd J2 t6 (.tup [.str "InvalidPattern", .bl (x == "InvalidPattern")])) t7 (.tup [.str "InvalidIndex", .bl (x == "InvalidIndex")])) q3 (.lst [.ref t6, .ref t7])) m3 (.lst ([t0, t1, t2, t3, t4, t5].map V.ref ++ [.ref t6, .ref t7]))) m3 = some (.lst ([t0, t1, t2, t3, t4, t5].map V.ref ++ [.ref t6, .ref t7])) := upd_same
  obtain ⟨J3, eJ3⟩ : ∃ J, J = (upd (upd (upd (upd J2 t6 (.tup [.str "InvalidPattern", .bl (x == "InvalidPattern")])) t7 (.tup [.str "InvalidIndex", .bl (x == "InvalidIndex")])) q3 (.lst [.ref t6, .ref t7])) m3 (.lst ([t0, t1, t2, t3, t4, t5].map V.ref ++ [.ref t6, .ref t7]))) := ⟨_, rfl⟩
  have k3 : L2.Same H J3 := by rw [eJ3]; exact sm_trans k2 kk
  have e3 : J3 m3 = some (.lst ([t0, t1, t2, t3, t4, t5, t6, t7].map V.ref)) := by rw [eJ3]; exact ee
  have p3 : PrsT J3 [t0, t1, t2, t3, t4, t5, t6, t7] [("InvalidLane", x == "InvalidLane"), ("InvalidLog", x == "InvalidLog"), ("InvalidCar", x == "InvalidCar"), ("InvalidCars", x == "InvalidCars"), ("InvalidSides", x == "InvalidSides"), ("InvalidText", x == "InvalidText"), ("InvalidPattern", x == "InvalidPattern"), ("InvalidIndex", x == "InvalidIndex")] := by rw [eJ3]; exact pp
  rw [← eJ3]
  clear eJ3 kk pp ee em' k3' e3' p3' n6 n7 nq3 nm3 k2 e2 p2
  refine ⟨.ref m3, rfl, .ref a, rfl, .ref C8, _, _, rfl, (fun u r => r), (er.kit "InvalidSightings" (by decide +kernel) C8 g8), by show 2 ≤ sizeLine; decide, fun t8 n8 => ?_⟩
  refine ⟨.ref a, rfl, .ref C9, _, _, rfl, (fun u r => r), (er.kit "UsedCar" (by decide +kernel) C9 g9), by show 2 ≤ sizeLine; decide, fun t9 n9 => ?_⟩
  refine ⟨by show 2 ≤ sizeLine; decide, fun q4 nq4 => ?_⟩
  obtain ⟨k4', e4', p4'⟩ := pr2 (p1 := ("InvalidSightings", x == "InvalidSightings")) (p2 := ("UsedCar", x == "UsedCar")) p3 n8 n9 nq4
  have em' := (pr3 (p1 := ("InvalidSightings", x == "InvalidSightings")) (p2 := ("UsedCar", x == "UsedCar")) n8 n9 nq4) _ _ e3
  refine ⟨m3, q4, _, _, rfl, rfl, em', upd_same, by show 10 ≤ sizeLine; decide, fun m4 nm4 => ?_⟩
  have kk := sm_trans k4' (sm_new (o := .lst ([t0, t1, t2, t3, t4, t5, t6, t7].map V.ref ++ [.ref t8, .ref t9])) sm_refl nm4)
  have pp := prsT_same p4' (sm_new (o := .lst ([t0, t1, t2, t3, t4, t5, t6, t7].map V.ref ++ [.ref t8, .ref t9])) sm_refl nm4)
  have ee : (upd (upd (upd (upd J3 t8 (.tup [.str "InvalidSightings", .bl (x == "InvalidSightings")])) t9 (.tup [.str "UsedCar", .bl (x == "UsedCar")])) q4 (.lst [.ref t8, .ref t9])) m4 (.lst ([t0, t1, t2, t3, t4, t5, t6, t7].map V.ref ++ [.ref t8, .ref t9]))) m4 = some (.lst ([t0, t1, t2, t3, t4, t5, t6, t7].map V.ref ++ [.ref t8, .ref t9])) := upd_same
  obtain ⟨J4, eJ4⟩ : ∃ J, J = (upd (upd (upd (upd J3 t8 (.tup [.str "InvalidSightings", .bl (x == "InvalidSightings")])) t9 (.tup [.str "UsedCar", .bl (x == "UsedCar")])) q4 (.lst [.ref t8, .ref t9])) m4 (.lst ([t0, t1, t2, t3, t4, t5, t6, t7].map V.ref ++ [.ref t8, .ref t9]))) := ⟨_, rfl⟩
  have k4 : L2.Same H J4 := by rw [eJ4]; exact sm_trans k3 kk
  have e4 : J4 m4 = some (.lst ([t0, t1, t2, t3, t4, t5, t6, t7, t8, t9].map V.ref)) := by rw [eJ4]; exact ee
  have p4 : PrsT J4 [t0, t1, t2, t3, t4, t5, t6, t7, t8, t9] [("InvalidLane", x == "InvalidLane"), ("InvalidLog", x == "InvalidLog"), ("InvalidCar", x == "InvalidCar"), ("InvalidCars", x == "InvalidCars"), ("InvalidSides", x == "InvalidSides"), ("InvalidText", x == "InvalidText"), ("InvalidPattern", x == "InvalidPattern"), ("InvalidIndex", x == "InvalidIndex"), ("InvalidSightings", x == "InvalidSightings"), ("UsedCar", x == "UsedCar")] := by rw [eJ4]; exact pp
  rw [← eJ4]
  clear eJ4 kk pp ee em' k4' e4' p4' n8 n9 nq4 nm4 k3 e3 p3
  refine ⟨.ref m4, rfl, .ref a, rfl, .ref C10, _, _, rfl, (fun u r => r), (er.kit "UnknownCar" (by decide +kernel) C10 g10), by show 2 ≤ sizeLine; decide, fun t10 n10 => ?_⟩
  refine ⟨.ref a, rfl, .ref C11, _, _, rfl, (fun u r => r), (er.kit "EmptyLane" (by decide +kernel) C11 g11), by show 2 ≤ sizeLine; decide, fun t11 n11 => ?_⟩
  refine ⟨by show 2 ≤ sizeLine; decide, fun q5 nq5 => ?_⟩
  obtain ⟨k5', e5', p5'⟩ := pr2 (p1 := ("UnknownCar", x == "UnknownCar")) (p2 := ("EmptyLane", x == "EmptyLane")) p4 n10 n11 nq5
  have em' := (pr3 (p1 := ("UnknownCar", x == "UnknownCar")) (p2 := ("EmptyLane", x == "EmptyLane")) n10 n11 nq5) _ _ e4
  refine ⟨m4, q5, _, _, rfl, rfl, em', upd_same, by show 12 ≤ sizeLine; decide, fun m5 nm5 => ?_⟩
  have kk := sm_trans k5' (sm_new (o := .lst ([t0, t1, t2, t3, t4, t5, t6, t7, t8, t9].map V.ref ++ [.ref t10, .ref t11])) sm_refl nm5)
  have pp := prsT_same p5' (sm_new (o := .lst ([t0, t1, t2, t3, t4, t5, t6, t7, t8, t9].map V.ref ++ [.ref t10, .ref t11])) sm_refl nm5)
  have ee : (upd (upd (upd (upd J4 t10 (.tup [.str "UnknownCar", .bl (x == "UnknownCar")])) t11 (.tup [.str "EmptyLane", .bl (x == "EmptyLane")])) q5 (.lst [.ref t10, .ref t11])) m5 (.lst ([t0, t1, t2, t3, t4, t5, t6, t7, t8, t9].map V.ref ++ [.ref t10, .ref t11]))) m5 = some (.lst ([t0, t1, t2, t3, t4, t5, t6, t7, t8, t9].map V.ref ++ [.ref t10, .ref t11])) := upd_same
  obtain ⟨J5, eJ5⟩ : ∃ J, J = (upd (upd (upd (upd J4 t10 (.tup [.str "UnknownCar", .bl (x == "UnknownCar")])) t11 (.tup [.str "EmptyLane", .bl (x == "EmptyLane")])) q5 (.lst [.ref t10, .ref t11])) m5 (.lst ([t0, t1, t2, t3, t4, t5, t6, t7, t8, t9].map V.ref ++ [.ref t10, .ref t11]))) := ⟨_, rfl⟩
  have k5 : L2.Same H J5 := by rw [eJ5]; exact sm_trans k4 kk
  have e5 : J5 m5 = some (.lst ([t0, t1, t2, t3, t4, t5, t6, t7, t8, t9, t10, t11].map V.ref)) := by rw [eJ5]; exact ee
  have p5 : PrsT J5 [t0, t1, t2, t3, t4, t5, t6, t7, t8, t9, t10, t11] [("InvalidLane", x == "InvalidLane"), ("InvalidLog", x == "InvalidLog"), ("InvalidCar", x == "InvalidCar"), ("InvalidCars", x == "InvalidCars"), ("InvalidSides", x == "InvalidSides"), ("InvalidText", x == "InvalidText"), ("InvalidPattern", x == "InvalidPattern"), ("InvalidIndex", x == "InvalidIndex"), ("InvalidSightings", x == "InvalidSightings"), ("UsedCar", x == "UsedCar"), ("UnknownCar", x == "UnknownCar"), ("EmptyLane", x == "EmptyLane")] := by rw [eJ5]; exact pp
  rw [← eJ5]
  clear eJ5 kk pp ee em' k5' e5' p5' n10 n11 nq5 nm5 k4 e4 p4
  refine ⟨.ref m5, rfl, .ref a, rfl, .ref C12, _, _, rfl, (fun u r => r), (er.kit "NotPossible" (by decide +kernel) C12 g12), by show 2 ≤ sizeLine; decide, fun t12 n12 => ?_⟩
  refine ⟨.ref a, rfl, .ref C13, _, _, rfl, (fun u r => r), (er.kit "TooLarge" (by decide +kernel) C13 g13), by show 2 ≤ sizeLine; decide, fun t13 n13 => ?_⟩
  refine ⟨by show 2 ≤ sizeLine; decide, fun q6 nq6 => ?_⟩
  obtain ⟨k6', e6', p6'⟩ := pr2 (p1 := ("NotPossible", x == "NotPossible")) (p2 := ("TooLarge", x == "TooLarge")) p5 n12 n13 nq6
  have em' := (pr3 (p1 := ("NotPossible", x == "NotPossible")) (p2 := ("TooLarge", x == "TooLarge")) n12 n13 nq6) _ _ e5
  refine ⟨m5, q6, _, _, rfl, rfl, em', upd_same, by show 14 ≤ sizeLine; decide, fun m6 nm6 => ?_⟩
  have kk := sm_trans k6' (sm_new (o := .lst ([t0, t1, t2, t3, t4, t5, t6, t7, t8, t9, t10, t11].map V.ref ++ [.ref t12, .ref t13])) sm_refl nm6)
  have pp := prsT_same p6' (sm_new (o := .lst ([t0, t1, t2, t3, t4, t5, t6, t7, t8, t9, t10, t11].map V.ref ++ [.ref t12, .ref t13])) sm_refl nm6)
  have ee : (upd (upd (upd (upd J5 t12 (.tup [.str "NotPossible", .bl (x == "NotPossible")])) t13 (.tup [.str "TooLarge", .bl (x == "TooLarge")])) q6 (.lst [.ref t12, .ref t13])) m6 (.lst ([t0, t1, t2, t3, t4, t5, t6, t7, t8, t9, t10, t11].map V.ref ++ [.ref t12, .ref t13]))) m6 = some (.lst ([t0, t1, t2, t3, t4, t5, t6, t7, t8, t9, t10, t11].map V.ref ++ [.ref t12, .ref t13])) := upd_same
  obtain ⟨J6, eJ6⟩ : ∃ J, J = (upd (upd (upd (upd J5 t12 (.tup [.str "NotPossible", .bl (x == "NotPossible")])) t13 (.tup [.str "TooLarge", .bl (x == "TooLarge")])) q6 (.lst [.ref t12, .ref t13])) m6 (.lst ([t0, t1, t2, t3, t4, t5, t6, t7, t8, t9, t10, t11].map V.ref ++ [.ref t12, .ref t13]))) := ⟨_, rfl⟩
  have k6 : L2.Same H J6 := by rw [eJ6]; exact sm_trans k5 kk
  have e6 : J6 m6 = some (.lst ([t0, t1, t2, t3, t4, t5, t6, t7, t8, t9, t10, t11, t12, t13].map V.ref)) := by rw [eJ6]; exact ee
  have p6 : PrsT J6 [t0, t1, t2, t3, t4, t5, t6, t7, t8, t9, t10, t11, t12, t13] [("InvalidLane", x == "InvalidLane"), ("InvalidLog", x == "InvalidLog"), ("InvalidCar", x == "InvalidCar"), ("InvalidCars", x == "InvalidCars"), ("InvalidSides", x == "InvalidSides"), ("InvalidText", x == "InvalidText"), ("InvalidPattern", x == "InvalidPattern"), ("InvalidIndex", x == "InvalidIndex"), ("InvalidSightings", x == "InvalidSightings"), ("UsedCar", x == "UsedCar"), ("UnknownCar", x == "UnknownCar"), ("EmptyLane", x == "EmptyLane"), ("NotPossible", x == "NotPossible"), ("TooLarge", x == "TooLarge")] := by rw [eJ6]; exact pp
  rw [← eJ6]
  clear eJ6 kk pp ee em' k6' e6' p6' n12 n13 nq6 nm6 k5 e5 p5
  refine ⟨.ref m6, rfl, .ref a, rfl, .ref C14, _, _, rfl, (fun u r => r), (er.kit "NothingToUndo" (by decide +kernel) C14 g14), by show 2 ≤ sizeLine; decide, fun t14 n14 => ?_⟩
  refine ⟨.ref a, rfl, .ty "ValueError", _, _, rfl, (fun u r => r), er.ve, true, rfl, by show 2 ≤ sizeLine; decide, fun t15 n15 => ?_⟩
  refine ⟨by show 2 ≤ sizeLine; decide, fun q7 nq7 => ?_⟩
  obtain ⟨k7', e7', p7'⟩ := pr2 (p1 := ("NothingToUndo", x == "NothingToUndo")) (p2 := ("other", !true)) p6 n14 n15 nq7
  have em' := (pr3 (p1 := ("NothingToUndo", x == "NothingToUndo")) (p2 := ("other", !true)) n14 n15 nq7) _ _ e6
  refine ⟨m6, q7, _, _, rfl, rfl, em', upd_same, by show 16 ≤ sizeLine; decide, fun m7 nm7 => ?_⟩
  have kk := sm_trans k7' (sm_new (o := .lst ([t0, t1, t2, t3, t4, t5, t6, t7, t8, t9, t10, t11, t12, t13].map V.ref ++ [.ref t14, .ref t15])) sm_refl nm7)
  have pp := prsT_same p7' (sm_new (o := .lst ([t0, t1, t2, t3, t4, t5, t6, t7, t8, t9, t10, t11, t12, t13].map V.ref ++ [.ref t14, .ref t15])) sm_refl nm7)
  have ee : (upd (upd (upd (upd J6 t14 (.tup [.str "NothingToUndo", .bl (x == "NothingToUndo")])) t15 (.tup [.str "other", .bl (!true)])) q7 (.lst [.ref t14, .ref t15])) m7 (.lst ([t0, t1, t2, t3, t4, t5, t6, t7, t8, t9, t10, t11, t12, t13].map V.ref ++ [.ref t14, .ref t15]))) m7 = some (.lst ([t0, t1, t2, t3, t4, t5, t6, t7, t8, t9, t10, t11, t12, t13].map V.ref ++ [.ref t14, .ref t15])) := upd_same
  obtain ⟨J7, eJ7⟩ : ∃ J, J = (upd (upd (upd (upd J6 t14 (.tup [.str "NothingToUndo", .bl (x == "NothingToUndo")])) t15 (.tup [.str "other", .bl (!true)])) q7 (.lst [.ref t14, .ref t15])) m7 (.lst ([t0, t1, t2, t3, t4, t5, t6, t7, t8, t9, t10, t11, t12, t13].map V.ref ++ [.ref t14, .ref t15]))) := ⟨_, rfl⟩
  have k7 : L2.Same H J7 := by rw [eJ7]; exact sm_trans k6 kk
  have e7 : J7 m7 = some (.lst ([t0, t1, t2, t3, t4, t5, t6, t7, t8, t9, t10, t11, t12, t13, t14, t15].map V.ref)) := by rw [eJ7]; exact ee
  have p7 : PrsT J7 [t0, t1, t2, t3, t4, t5, t6, t7, t8, t9, t10, t11, t12, t13, t14, t15] [("InvalidLane", x == "InvalidLane"), ("InvalidLog", x == "InvalidLog"), ("InvalidCar", x == "InvalidCar"), ("InvalidCars", x == "InvalidCars"), ("InvalidSides", x == "InvalidSides"), ("InvalidText", x == "InvalidText"), ("InvalidPattern", x == "InvalidPattern"), ("InvalidIndex", x == "InvalidIndex"), ("InvalidSightings", x == "InvalidSightings"), ("UsedCar", x == "UsedCar"), ("UnknownCar", x == "UnknownCar"), ("EmptyLane", x == "EmptyLane"), ("NotPossible", x == "NotPossible"), ("TooLarge", x == "TooLarge"), ("NothingToUndo", x == "NothingToUndo"), ("other", !true)] := by rw [eJ7]; exact pp
  rw [← eJ7]
  clear eJ7 kk pp ee em' k7' e7' p7' n14 n15 nq7 nm7 k6 e6 p6
  refine ⟨⟨_, rfl⟩, .ref m7, rfl, m7, rfl, ⟨_, SqL.of e7⟩, fun d nd => ?_⟩
  refine lc_list (K := K) (a := m7) (xs := [t0, t1, t2, t3, t4, t5, t6, t7, t8, t9, t10, t11, t12, t13, t14, t15].map V.ref) (fun i H' => L2.Same J7 H' ∧ H' d = some (.lst ((((kindW3 x).take i).filter (·.2)).map fun p => V.str p.1))) ⟨sm_new sm_refl nd, upd_same⟩ (fun i H' _ q => SqL.of (q.1 _ _ e7)) ?_ ?_
  · rintro i y H' hy ⟨k, hd⟩
    have hi : i < 16 := (List.getElem?_eq_some_iff.mp hy).1
    obtain ⟨t, ht, hty⟩ := pair_at p7 i ((kindW3 x)[i]'hi) (List.getElem?_eq_getElem (l := kindW3 x) hi)
    have hz : y = .ref t := by
      rw [List.getElem?_map, ht] at hy
      exact (Option.some.inj hy).symm
    subst hz
    have hp : (kindW3 x)[i]? = some ((kindW3 x)[i]'hi) := List.getElem?_eq_getElem (l := kindW3 x) hi
    have ht2 : (kindW3 x).take (i + 1) = (kindW3 x).take i ++ [(kindW3 x)[i]'hi] := by rw [List.take_add_one, hp]; rfl
    generalize (kindW3 x)[i]'hi = p at hty ht2
    refine ⟨t, _, rfl, SqT.of (k _ _ hty), rfl, .str p.1, _, rfl, .bl p.2, _, rfl, rfl, rfl, .bl p.2, rfl, p.2, rfl, ?_⟩
    cases hb : p.2 with
    | true =>
      refine iteT ⟨.str p.1, rfl, _, hd, ?_, sm_upd k nd, ?_⟩
      · refine small1000 ?_
        rw [List.length_map]
        have h1 := List.length_filter_le (fun p : Str × Bool => p.2) ((kindW3 x).take i)
        have h2 : ((kindW3 x).take i).length ≤ 16 := by rw [List.length_take]; exact Nat.min_le_right _ _
        omega
      · rw [upd_same, ht2, List.filter_append, List.map_append]
        simp [hb]
    | false =>
      refine iteF ⟨k, ?_⟩
      rw [hd, ht2, List.filter_append, List.map_append]
      simp [hb]
  · rintro H8 ⟨k8, hd⟩
    rw [show (kindW3 x).take ([t0, t1, t2, t3, t4, t5, t6, t7, t8, t9, t10, t11, t12, t13, t14, t15].map V.ref : List V).length = kindW3 x from rfl, kind3_one hx] at hd
    refine ⟨_, _, [x], rfl, rfl, .inl (SqL.of hd), kind3_size hx, ?_⟩
    rw [show Txt.join " " [x] = x from kind3_join hx]
    exact q H8 (sm_trans k7 k8)

end
end Ln


set_option Elab.async false
set_option linter.all false
set_option maxRecDepth 100000
set_option maxHeartbeats 2000000
namespace Ln
open PySem PySem.Spec PyProof.Rows L2
/-! ### calls of a local name that holds a def; ways joined by or -/
theorem pe_alt {X : Cx} {e : Expr} {t1 t2 : TE} (h1 : PE X e t1) (h2 : PE X e t2) : PE X e fun σ H Q => t1 σ H Q ∨ t2 σ H Q :=
  ⟨fun pins s σ H Q I h => h.elim (h1.run pins s σ H Q I) (h2.run pins s σ H Q I)⟩
theorem ps_alt {X : Cx} {e : Stmt} {t1 t2 : TS} (h1 : PS X e t1) (h2 : PS X e t2) : PS X e fun D σ H => t1 D σ H ∨ t2 D σ H :=
  ⟨fun pins s σ H D I h => h.elim (h1.run pins s σ H D I) (h2.run pins s σ H D I)⟩
section
variable {X : Cx} {CX : CXT} {k i : Nat} {f : Addr} {fd : FuncData} {ps ks : List Str} {sp : Sp} {g : List Value → List Value → List Value} {gV : List V → List V → List V} {E : XK} {x : Str} {p pos : Pos} {kws : List Keyword} {tk : TA}
/-- f(k = v), f a local name -/
theorem pe_callLK0 (F : FnOk X.prog X.w X.K X.mg X.base CX k f fd ps sp) (hr : Room k X.A) (hN : X.N[i]? = some x) (hv : Vis X.env.scope x) (hk : PySem.W.keepIn X.K (.ref f) = true) (hb : KBinds X.K fd ps ks g gV) (hx : Passes CX X E) (hkw : PK X kws tk)
    (hall : (backToKw pos (keywordEach kws X.env)).all (·.1.isSome) = true := by rfl) (hks : (backToKw pos (keywordEach kws X.env)).filterMap (·.1) = ks := by rfl) (hdb : (x == ("__debug__" : Str)) = false := by decide) (hcd : (x == ("__classdict__" : Str)) = false := by decide)
    (hpl : ((backTo pos (starEach [] X.env)).any (·.1) || (backToKw pos (keywordEach kws X.env)).any (·.1.isNone)) = false := by rfl) :
    PE X (.Call (.Name x p) [] kws pos) (fun σ H Q => σ[i]? = some (some (.ref f)) ∧ tCallK sp gV E tNil tk σ H Q) := by
  refine ⟨fun pins s σ H Q I h => ?_⟩
  obtain ⟨hs, ht⟩ := h
  refine wpAny_Call_Name_kw (thn ((pe_var (pos := p) hN hv hdb hcd).run pins s σ H (fun v H1 => v = .ref f ∧ H1 = H) I ⟨.ref f, hs, rfl, rfl⟩) fun u s1 ⟨v, H1, I1, r1, q1⟩ => ?_)
  obtain ⟨rfl, rfl⟩ := q1
  cases r1
  refine PySem.W.callWith_KW0 (h₀ := X.base) I.ok.mod.kin hk hall (thn (hkw.run pos pins s1 σ _ _ I1 ht) fun ws s2 ⟨zs, H2, I2, rz, q2⟩ => ⟨I2.kIn, ?_⟩) hpl
  rw [hks]
  exact run_fnk (us := []) F hr hb hx I2 .nil rz q2
end
end Ln


set_option Elab.async false
set_option linter.all false
set_option maxRecDepth 100000
set_option maxHeartbeats 2000000
namespace Ln
open PySem PySem.Spec PyProof.Rows L2
/-! ### calls that may raise, in a try's body -/
section
variable {X : Cx} {CX : CXT} {k i : Nat} {f : Addr} {fd : FuncData} {ps ks : List Str} {sp : Sp} {g : List Value → List Value → List Value} {gV : List V → List V → List V} {E : L2.St → XK} {x : Str} {p pos : Pos} {e : Expr} {es : List Expr} {kws : List Keyword} {t tk : TA}
theorem run_fnkS {pins : List (Addr × Obj)} {σ : L2.St} {H : Hp} {s : Shared} {Q : VK} {ws : List Value} {zs : List V} (F : FnOk X.prog X.w X.K X.mg X.base CX k f fd ps sp) (hr : Room k X.A) (hb : KBinds X.K fd ps ks g gV) (hx : PassesAt CX X σ (E σ))
    (I : Inv X pins σ H s) (rz : Vals zs ws) (h : sp (gV [] zs) H Q (E σ)) : wpAny (model X.prog X.w) X.A (call (.ref f) [] (ks.zip ws)) (EP X pins σ Q) X.xe s := by
  have r2 := hb.rel (vs := []) (us := []) .nil rz
  have hl : (g [] ws).length = ps.length := by rw [← r2.length]; exact F.len _ _ _ _ h
  refine wpAny_call (codeAny_mono (F.run X.A X.stack s H ⟨[], ks.zip ws⟩ (g [] ws) (gV [] zs) Q (E σ) hr I.env0 (hb.to s [] ws I.kIn hl) r2 h) fun r s' hq => ?_)
  cases r with
  | error e => exact hx pins H s e s' I hq
  | ok fl =>
    cases fl with
    | ret u => exact I.after hq
    | next => exact hq.elim
    | brk => exact hq.elim
    | cont => exact hq.elim
def tKwS (sp : Sp) (gV : List V → List V → List V) (E : L2.St → XK) (tk : TA) : TE := fun σ H Q => tk σ H fun zs H2 => sp (gV [] zs) H2 Q (E σ)
/-- f(k = v), f a name of the module -/
theorem pe_callKS0 (F : FnOk X.prog X.w X.K X.mg X.base CX k f fd ps sp) (hr : Room k X.A) (hg : Gl X x) (hm : X.mg x = some (.ref f)) (hk : PySem.W.keepIn X.K (.ref f) = true) (hb : KBinds X.K fd ps ks g gV) (hx : ∀ σ, PassesAt CX X σ (E σ)) (hkw : PK X kws tk)
    (hall : (backToKw pos (keywordEach kws X.env)).all (·.1.isSome) = true := by rfl) (hks : (backToKw pos (keywordEach kws X.env)).filterMap (·.1) = ks := by rfl) (hdb : (x == ("__debug__" : Str)) = false := by decide)
    (hpl : ((backTo pos (starEach [] X.env)).any (·.1) || (backToKw pos (keywordEach kws X.env)).any (·.1.isNone)) = false := by rfl) :
    PE X (.Call (.Name x p) [] kws pos) (tKwS sp gV E tk) := by
  refine ⟨fun pins s σ H Q I h => wpAny_Call_Name_kw (ld_glob I hg hm ?_ hdb)⟩
  refine PySem.W.callWith_KW0 (h₀ := X.base) I.ok.mod.kin hk hall (thn (hkw.run pos pins s σ H _ I h) fun ws s2 ⟨zs, H2, I2, rz, q2⟩ => ⟨I2.kIn, ?_⟩) hpl
  rw [hks]
  exact run_fnkS F hr hb (hx σ) I2 rz q2
/-- the slot holds the def -/
def tLoc (i : Nat) (f : Addr) (t : TE) : TE := fun σ H Q => σ[i]? = some (some (.ref f)) ∧ t σ H Q
theorem pe_callLKS0 (F : FnOk X.prog X.w X.K X.mg X.base CX k f fd ps sp) (hr : Room k X.A) (hN : X.N[i]? = some x) (hv : Vis X.env.scope x) (hk : PySem.W.keepIn X.K (.ref f) = true) (hb : KBinds X.K fd ps ks g gV) (hx : ∀ σ, PassesAt CX X σ (E σ)) (hkw : PK X kws tk)
    (hall : (backToKw pos (keywordEach kws X.env)).all (·.1.isSome) = true := by rfl) (hks : (backToKw pos (keywordEach kws X.env)).filterMap (·.1) = ks := by rfl) (hdb : (x == ("__debug__" : Str)) = false := by decide) (hcd : (x == ("__classdict__" : Str)) = false := by decide)
    (hpl : ((backTo pos (starEach [] X.env)).any (·.1) || (backToKw pos (keywordEach kws X.env)).any (·.1.isNone)) = false := by rfl) :
    PE X (.Call (.Name x p) [] kws pos) (tLoc i f (tKwS sp gV E tk)) := by
  refine ⟨fun pins s σ H Q I ⟨hs, ht⟩ => ?_⟩
  refine wpAny_Call_Name_kw (thn ((pe_var (pos := p) hN hv hdb hcd).run pins s σ H (fun v H1 => v = .ref f ∧ H1 = H) I ⟨.ref f, hs, rfl, rfl⟩) fun u s1 ⟨v, H1, I1, r1, q1⟩ => ?_)
  obtain ⟨rfl, rfl⟩ := q1
  cases r1
  refine PySem.W.callWith_KW0 (h₀ := X.base) I.ok.mod.kin hk hall (thn (hkw.run pos pins s1 σ _ _ I1 ht) fun ws s2 ⟨zs, H2, I2, rz, q2⟩ => ⟨I2.kIn, ?_⟩) hpl
  rw [hks]
  exact run_fnkS F hr hb (hx σ) I2 rz q2
theorem pe_callLS (F : FnOk X.prog X.w X.K X.mg X.base CX k f fd ps sp) (hr : Room k X.A) (hN : X.N[i]? = some x) (hv : Vis X.env.scope x) (hk : PySem.W.keepIn X.K (.ref f) = true) (hb : Binds X.K fd ps []) (hx : ∀ σ, PassesAt CX X σ (E σ)) (ha : PA X (e :: es) t)
    (hdb : (x == ("__debug__" : Str)) = false := by decide) (hcd : (x == ("__classdict__" : Str)) = false := by decide)
    (he : starEach (e :: es) X.env = (false, eval e X.env) :: starEach es X.env := by rfl) (hpl : (backTo pos (starEach es X.env)).any (·.1) = false := by rfl) : PE X (.Call (.Name x p) (e :: es) [] pos) (tLoc i f (tCallS sp E t)) := by
  refine ⟨fun pins s σ H Q I ⟨hs, ht⟩ => ?_⟩
  refine wpAny_Call_Name_kw (thn ((pe_var (pos := p) hN hv hdb hcd).run pins s σ H (fun v H1 => v = .ref f ∧ H1 = H) I ⟨.ref f, hs, rfl, rfl⟩) fun u s1 ⟨v, H1, I1, r1, q1⟩ => ?_)
  obtain ⟨rfl, rfl⟩ := q1
  cases r1
  refine PySem.W.callWith_K (h₀ := X.base) I.ok.mod.kin hk (thn (ha.run pos pins s1 σ _ _ I1 ht) fun us s2 ⟨vs, H2, I2, r, q⟩ => ⟨I2.kIn, ?_⟩) he hpl
  exact run_fnS F hr hb (hx σ) I2 r q
end
end Ln


set_option Elab.async false
set_option linter.all false
set_option maxRecDepth 100000
set_option maxHeartbeats 8000000
namespace Ln
open PySem PySem.Spec PyProof.Rows L2 GxR
theorem scRaised : FnScope ["door", "initial", "happened", "moves", "found", "e"] ["door", "initial", "happened", "moves"] (defScope sRaised) := ⟨rfl, rfl, rfl, by decide +kernel, rfl, by decide +kernel, by decide +kernel⟩
/-- what the calls raise, by the data -/
def laneE (CL : Addr) (d : PyData) : Option Addr := match laneO d with
  | none => some CL
  | some _ => none
def lenD3 : PyData → Nat
  | .list ds => ds.length
  | _ => 0
def repO (CL CG CS : Addr) (d e g : PyData) : Option Addr := match reqLogO CL CG d e with
  | some C => some C
  | none => if sidesD (lenD3 e) g = true then none else some CS
def wordO (CL CG CS : Addr) : Option Addr → Str
  | none => ""
  | some C => if C = CL then "InvalidLane" else if C = CG then "InvalidLog" else "InvalidSides"
theorem laneE_in {CL CG CS C : Addr} {d : PyData} (h : laneE CL d = some C) : C = CL ∨ C = CG ∨ C = CS := by
  unfold laneE at h
  split at h
  · exact .inl (Option.some.inj h).symm
  · cases h
theorem reqLog_in {CL CG CS C : Addr} {d e : PyData} (h : reqLogO CL CG d e = some C) : C = CL ∨ C = CG ∨ C = CS := by
  unfold reqLogO at h
  split at h
  · exact .inl (Option.some.inj h).symm
  · split at h
    · cases h
    · exact .inr (.inl (Option.some.inj h).symm)
theorem rep_in {CL CG CS C : Addr} {d e g : PyData} (h : repO CL CG CS d e g = some C) : C = CL ∨ C = CG ∨ C = CS := by
  unfold repO at h
  split at h
  · rename_i C2 h2
    cases h
    exact reqLog_in h2
  · split at h
    · cases h
    · exact .inr (.inr (Option.some.inj h).symm)
/-- data as lanes, logs, sides -/
theorem dv_lane3 {K : PySem.W.Frag} {H : Hp} {v : V} {d : PyData} {xs : List Str} (h : Dv K H v d) (hl : laneO d = some xs) (hz : SzA d) : ∃ a : Addr, v = .ref a ∧ LaneAt K H a xs ∧ laneB xs = true := by
  obtain ⟨⟨ds, rfl, hs⟩, hB, _⟩ := laneO_some hl
  cases h with
  | @tup a vs _ hS hA =>
    obtain ⟨e1, e2, e3⟩ := hA.strs hs
    subst e1
    have hlen := hz.1 ds rfl
    rw [e2, List.length_map] at hlen
    exact ⟨a, rfl, ⟨hS, hlen, e3⟩, hB⟩
theorem evs_sz {K : PySem.W.Frag} {H : Hp} : ∀ {es : List Ev} {vs : List V}, DvAll K H vs (es.map Ev.dat) → ∀ c, Ev.inn c ∈ es → c.length ≤ sizeLine
  | [], _, _, c, hc => by cases hc
  | e :: r, _, h, c, hc => by
    cases h with
    | cons a b =>
      rcases List.mem_cons.mp hc with rfl | hc
      · cases a with
        | tup s al =>
          cases al with
          | cons a1 t1 =>
            cases t1 with
            | cons a2 t2 =>
              cases a2
              assumption
      · exact evs_sz b c hc
theorem dv_log3 {K : PySem.W.Frag} {H : Hp} {u : V} {e : PyData} {xs : List Str} (h : Dv K H u e) (hl : logD xs e = true) (few : lenD3 e ≤ 400) : ∃ (l : Addr) (as : List Addr) (es : List Ev), u = .ref l ∧ LogAt K H l as es ∧ logB xs xs.length es = true ∧ lenD3 e = as.length := by
  match e, hl, h with
  | .list ds, hl, h =>
    obtain ⟨es, rfl, hB⟩ := evs_of (show logW xs xs.length ds = true from hl)
    cases h with
    | @lst l vs _ hS hA =>
      obtain ⟨as, rfl, hE⟩ := dv_evsAt hA
      have few : (es.map Ev.dat).length ≤ 400 := few
      rw [List.length_map] at few
      have hl := hA.len
      rw [List.length_map] at hl
      exact ⟨l, as, es, rfl, ⟨hS, hE, few, evs_sz hA⟩, hB, hl.symm⟩
theorem strs_sides : ∀ {ds : List PyData}, ds.all sideD = true → ∃ sd : List Str, ds = sd.map PyData.str ∧ sd.all sideB = true
  | [], _ => ⟨[], rfl, rfl⟩
  | d :: r, h => by
    rw [List.all_cons, Bool.and_eq_true] at h
    obtain ⟨sd, rfl, hs⟩ := strs_sides h.2
    match d, h.1 with
    | .str y, h1 => exact ⟨y :: sd, rfl, by rw [List.all_cons, hs, show sideB y = true from h1]; rfl⟩
theorem strsD_mapR : ∀ sd : List Str, strsD (sd.map PyData.str) = some sd
  | [] => rfl
  | x :: r => by
    show (strsD (r.map PyData.str)).map (x :: ·) = some (x :: r)
    rw [strsD_mapR r]
    rfl
theorem dv_sides3 {K : PySem.W.Frag} {H : Hp} {y : V} {g : PyData} {n : Nat} (h : Dv K H y g) (hg : sidesD n g = true) : ∃ (m : Addr) (sd : List Str), y = .ref m ∧ SqL K H m (sd.map V.str) ∧ sd.length = n ∧ sd.all sideB = true := by
  match g, hg, h with
  | .list ds, hg, h =>
    have hg : (decide (ds.length = n) && ds.all sideD) = true := hg
    rw [Bool.and_eq_true] at hg
    obtain ⟨sd, rfl, hs⟩ := strs_sides hg.2
    have hn := of_decide_eq_true hg.1
    rw [List.length_map] at hn
    cases h with
    | @lst m vs _ hS hA =>
      have := strsD_mapR sd
      obtain ⟨e1, _, _⟩ := hA.strs this
      subst e1
      exact ⟨m, sd, rfl, hS, hn, hs⟩
theorem takes0N {X : Cx} : L2N.Takes X (fun _ _ _ _ => False) := fun _ _ x => by
  obtain ⟨_, _, _, _, _, _, _, _, _, _, _, _, _, _, _, _, z⟩ := x
  exact z.elim
theorem pss_cls {X : Cx} {ss : List Stmt} {cls : Value} {d : Option Addr} {t : Addr → TS} (h : ∀ D, cls = .ref D → d = none → PSs X ss (t D)) : PSs X ss (fun Dn σ H => ∃ D, cls = .ref D ∧ d = none ∧ t D Dn σ H) :=
  ⟨fun pins s σ H D I ⟨C, e1, e2, h'⟩ => (h C e1 e2).run pins s σ H D I h'⟩
theorem hot_of {X : Cx} {a : Addr} {oe : Obj} {cls : Value} {d : Option Addr} {pn : List (Addr × Obj)} (hz : L2N.Zn cls d oe) (hf : ∃ vs, oe.data = .fields vs) : L2H.Hot1 (X.suite a pn).A (a, oe) := by
  obtain ⟨vs, hv⟩ := hf
  exact ⟨rfl, vs, hv, hz.2.2 vs hv⟩
theorem roomH_mark {k : Nat} {A : Around} {h : Option Value} (r : Room k A) : L2H.RoomH k (A.mark h) := ⟨r.dp, r.un⟩
theorem kp_sm3 {Ps : List Addr} {H H' : Hp} (hT : Tabs Ps H) (k : L2.Same H H') : Kp Ps H H' := ⟨fun b o e _ => k b o e, tabs_same hT k⟩
section
variable {P : Program} {w : World} {K : PySem.W.Frag} {mg : Str → Option Value} {base : Heap} {Ps : List Addr}
def OutX (Ps : List Addr) (o : Option Addr) (H : Hp) (Q : VK) (E : XK) : Prop := match o with
  | none => ∀ H' x, Kp Ps H H' → Q x H'
  | some C => ∀ H', Kp Ps H H' → E (.ref C) none H'
theorem outX_none {o : Option Addr} {H : Hp} {Q : VK} {E : XK} (ho : o = none) (h : ∀ H' x, Kp Ps H H' → Q x H') : OutX Ps o H Q E := by
  rw [ho]
  exact h
theorem outX_some {o : Option Addr} {C : Addr} {H : Hp} {Q : VK} {E : XK} (ho : o = some C) (h : ∀ H', Kp Ps H H' → E (.ref C) none H') : OutX Ps o H Q E := by
  rw [ho]
  exact h
def spD2 (K : PySem.W.Frag) (Ps : List Addr) (o : PyData → PyData → Option Addr) : Sp := fun vs H Q E => ∃ (v u : V) (d e : PyData), vs = [v, u] ∧ Dv K H v d ∧ Dv K H u e ∧ SzA d ∧ (SzA e ∧ lenD3 e ≤ 400) ∧ Tabs Ps H ∧ OutX Ps (o d e) H Q E
def spD3 (K : PySem.W.Frag) (Ps : List Addr) (o : PyData → PyData → PyData → Option Addr) : Sp := fun vs H Q E => ∃ (v u y : V) (d e g : PyData), vs = [v, u, y] ∧ Dv K H v d ∧ Dv K H u e ∧ Dv K H y g ∧ SzA d ∧ (SzA e ∧ lenD3 e ≤ 400) ∧ SzA g ∧ Tabs Ps H ∧ OutX Ps (o d e g) H Q E
theorem d_log {f CL : Addr} {fd : FuncData} (h : FnOk P w K mg base (L2N.CX P w) 6 f fd ["start", "value"] (spLogX K Ps CL)) : FnOk P w K mg base (L2N.CX P w) 6 f fd ["start", "value"] (spD2 K Ps fun d _ => laneE CL d) :=
  h.imp fun vs H Q E ⟨v, u, d, e, ev, hd, he, hz, hz2, hT, q⟩ => by
    have q : OutX Ps (laneE CL d) H Q E := q
    refine ⟨v, u, d, e, ev, hd, he, hz, hz2.1, hT, fun hl => ?_, fun xs hl H' kp => ?_⟩
    · unfold laneE at q
      rw [hl] at q
      exact q
    · unfold laneE at q
      rw [hl] at q
      exact q H' _ kp
theorem reqLogO_none {CL CG : Addr} {d e : PyData} (h : reqLogO CL CG d e = none) : ∃ xs, laneO d = some xs ∧ logD xs e = true := by
  unfold reqLogO at h
  cases hl : laneO d with
  | none => rw [hl] at h; cases h
  | some xs =>
    rw [hl] at h
    refine ⟨xs, rfl, ?_⟩
    cases hg : logD xs e with
    | true => rfl
    | false =>
      have h : (if logD xs e = true then none else some CG) = none := h
      rw [hg] at h
      cases h
theorem d_sizes {f CL CG : Addr} {fd : FuncData} (h1 : FnOk P w K mg base CX0 8 f fd ["start", "log"] (spSizes K Ps)) (h2 : FnOk P w K mg base (L2N.CX P w) 8 f fd ["start", "log"] (spBad2 K Ps CL CG)) : FnOk P w K mg base (L2N.CX P w) 8 f fd ["start", "log"] (spD2 K Ps fun d e => reqLogO CL CG d e) :=
  (fn_or (liftN h1) h2).imp fun vs H Q E ⟨v, u, d, e, ev, hd, he, hz, hz2, hT, q⟩ => by
    have q : OutX Ps (reqLogO CL CG d e) H Q E := q
    cases ho : reqLogO CL CG d e with
    | none =>
      rw [ho] at q
      obtain ⟨xs, hl, hg⟩ := reqLogO_none ho
      obtain ⟨a, rfl, hL, hB⟩ := dv_lane3 hd hl hz
      obtain ⟨l, as, es, rfl, hE, hB2, _⟩ := dv_log3 he hg hz2.2
      exact .inl ⟨a, l, xs, as, es, ev, hL, hB, hE, hB2, hT, fun H' p kp _ _ => q H' _ kp⟩
    | some C =>
      rw [ho] at q
      exact .inr ⟨v, u, d, e, C, ev, hd, he, hz, hz2.1, hT, ho, q⟩
theorem d_numbers {f CL CG : Addr} {fd : FuncData} (h1 : FnOk P w K mg base CX0 8 f fd ["start", "log"] (spNumbers K Ps)) (h2 : FnOk P w K mg base (L2N.CX P w) 8 f fd ["start", "log"] (spBad2 K Ps CL CG)) : FnOk P w K mg base (L2N.CX P w) 8 f fd ["start", "log"] (spD2 K Ps fun d e => reqLogO CL CG d e) :=
  (fn_or (liftN h1) h2).imp fun vs H Q E ⟨v, u, d, e, ev, hd, he, hz, hz2, hT, q⟩ => by
    have q : OutX Ps (reqLogO CL CG d e) H Q E := q
    cases ho : reqLogO CL CG d e with
    | none =>
      rw [ho] at q
      obtain ⟨xs, hl, hg⟩ := reqLogO_none ho
      obtain ⟨a, rfl, hL, hB⟩ := dv_lane3 hd hl hz
      obtain ⟨l, as, es, rfl, hE, hB2, _⟩ := dv_log3 he hg hz2.2
      exact .inl ⟨a, l, xs, as, es, ev, hL, hB, hE, hB2, hT, fun H' p kp _ _ => q H' _ kp⟩
    | some C =>
      rw [ho] at q
      exact .inr ⟨v, u, d, e, C, ev, hd, he, hz, hz2.1, hT, ho, q⟩
theorem d_replay {f CL CG CS : Addr} {fd : FuncData} {k : Nat} (hk : 8 ≤ k) (h1 : FnOk P w K mg base CX0 k f fd ["start", "log", "sides"] (spReplay K Ps)) (h2 : FnOk P w K mg base (L2N.CX P w) k f fd ["start", "log", "sides"] (spBad3 K Ps CL CG)) (h3 : FnOk P w K mg base (L2N.CX P w) k f fd ["start", "log", "sides"] (spBadS K Ps CS)) : FnOk P w K mg base (L2N.CX P w) k f fd ["start", "log", "sides"] (spD3 K Ps fun d e g => repO CL CG CS d e g) :=
  (fn_or (liftN h1) (fn_or h2 h3)).imp fun vs H Q E ⟨v, u, y, d, e, g, ev, hd, he, hg3, hz, hz2, hz3, hT, q⟩ => by
    have q : OutX Ps (repO CL CG CS d e g) H Q E := q
    cases ho : reqLogO CL CG d e with
    | some C =>
      unfold repO at q
      rw [ho] at q
      exact .inr (.inl ⟨v, u, y, d, e, C, ev, hd, he, hz, hz2.1, hT, ho, q⟩)
    | none =>
      obtain ⟨xs, hl, hg⟩ := reqLogO_none ho
      obtain ⟨a, rfl, hL, hB⟩ := dv_lane3 hd hl hz
      obtain ⟨l, as, es, rfl, hE, hB2, hn⟩ := dv_log3 he hg hz2.2
      unfold repO at q
      rw [ho] at q
      have q : OutX Ps (if sidesD (lenD3 e) g = true then none else some CS) H Q E := q
      cases hs : sidesD (lenD3 e) g with
      | true =>
        rw [if_pos hs] at q
        obtain ⟨m, sd, rfl, hS, hsn, hsa⟩ := dv_sides3 hg3 hs
        exact .inl ⟨a, l, m, xs, as, es, sd, ev, hL, hB, hE, hB2, hS, by rw [hsn, hn]; exact Paired.length hE.evs, hsa, hT, fun H' p t d' kp _ _ _ _ _ _ => q H' _ kp⟩
      | false =>
        rw [if_neg (by rw [hs]; decide)] at q
        exact .inr (.inr ⟨a, l, y, xs, as, es, g, ev, hL, hB, hE, hB2, hg3, by rw [← hn]; exact hs, hT, q⟩)
/-- what is due at a door -/
def doorO (CL CG CS : Addr) (d e g : PyData) : Nat → Option Addr
  | 0 => laneE CL d
  | 3 => repO CL CG CS d e g
  | 6 => repO CL CG CS d e g
  | _ => reqLogO CL CG d e
def spRaised (K : PySem.W.Frag) (Ps : List Addr) (CL CG CS : Addr) : Sp := fun vs H Q _ => ∃ (door : Nat) (v u y : V) (d e g : PyData), vs = [.int (door : Nat), v, u, y] ∧ door < 7 ∧ Dv K H v d ∧ Dv K H u e ∧ Dv K H y g ∧ SzA d ∧ (SzA e ∧ lenD3 e ≤ 400) ∧ SzA g ∧ Tabs Ps H ∧ ∀ H', Kp Ps H H' → Q (.str (wordO CL CG CS (doorO CL CG CS d e g door))) H'
def rev2 {α : Type} : List α → List α → List α
  | [], [x, y] => [y, x]
  | _, _ => []
def rev3k {α : Type} : List α → List α → List α
  | [], [x, y, z] => [z, y, x]
  | _, _ => []
theorem ok_raised {f fL fZ fN fR fK CL CG CS CB : Addr} {fd fdL fdZ fdN fdR fdK : FuncData} (F : Fun K "_law_raised" "_law_raised" sRaised f fd) (gB : mg "LaneError" = some (.ref CB))
    (e1 : Er K mg CB "InvalidLane" CL) (e2 : Er K mg CB "InvalidLog" CG) (e3 : Er K mg CB "InvalidSides" CS) (n12 : CL ≠ CG) (n13 : CL ≠ CS) (n23 : CG ≠ CS)
    (GL : FnOk P w K mg base (L2N.CX P w) 6 fL fdL ["start", "value"] (spD2 K Ps fun d _ => laneE CL d)) (mgL : mg "is_log" = some (.ref fL)) (kL : PySem.W.keepIn K (.ref fL) = true) (bL : Binds K fdL ["start", "value"] [])
    (GZ : FnOk P w K mg base (L2N.CX P w) 8 fZ fdZ ["start", "log"] (spD2 K Ps fun d e => reqLogO CL CG d e)) (mgZ : mg "sizes" = some (.ref fZ)) (kZ : PySem.W.keepIn K (.ref fZ) = true) (bZ : Binds K fdZ ["start", "log"] []) (kbZ : KBinds K fdZ ["start", "log"] ["log", "start"] rev2 rev2)
    (GN : FnOk P w K mg base (L2N.CX P w) 8 fN fdN ["start", "log"] (spD2 K Ps fun d e => reqLogO CL CG d e)) (mgN : mg "numbers" = some (.ref fN)) (kN : PySem.W.keepIn K (.ref fN) = true) (bN : Binds K fdN ["start", "log"] []) (kbN : KBinds K fdN ["start", "log"] ["log", "start"] rev2 rev2)
    (GR : FnOk P w K mg base (L2N.CX P w) 8 fR fdR ["start", "log", "sides"] (spD3 K Ps fun d e g => repO CL CG CS d e g)) (mgR : mg "replay" = some (.ref fR)) (kR : PySem.W.keepIn K (.ref fR) = true) (bR : Binds K fdR ["start", "log", "sides"] []) (kbR : KBinds K fdR ["start", "log", "sides"] ["sides", "log", "start"] rev3k rev3k)
    (GK : LHot.FnE P w K mg base 1 fK fdK "e" (spKindE K mg CB)) (mgK : mg "_law_kind" = some (.ref fK)) (kK : PySem.W.keepIn K (.ref fK) = true) (bK : Binds K fdK ["e"] []) :
    FnOk P w K mg base CX0 9 f fd ["door", "initial", "happened", "moves"] (spRaised K Ps CL CG CS) := by
  refine F.ok scRaised (fun vs H Q E h => ?_) (fun cdv A outer s H vs Q E hr h => ?_)
  · obtain ⟨door, v, u, y, d, e, g, rfl, _⟩ := h
    rfl
  · obtain ⟨door, v, u, y, d, e, g, rfl, hdoor, hd, he, hg, hz, hz2, hz3, hT, q⟩ := h
    have hr6 := hr.mono (show 6 ≤ 8 by decide)
    have words : ∀ C, C = CL ∨ C = CG ∨ C = CS → ∃ x, x ∈ kindN3 ∧ Er K mg CB x C ∧ wordO CL CG CS (some C) = x := fun C h => by
      rcases h with rfl | rfl | rfl
      · exact ⟨"InvalidLane", by decide +kernel, e1, if_pos rfl⟩
      · exact ⟨"InvalidLog", by decide +kernel, e2, by show (if C = CL then _ else if C = C then _ else _) = _; rw [if_neg n12.symm, if_pos rfl]⟩
      · exact ⟨"InvalidSides", by decide +kernel, e3, by show (if C = CL then _ else if C = CG then _ else _) = _; rw [if_neg n13.symm, if_neg n23.symm]⟩
    refine ⟨_, pss_cons (ps_set (i := 4) scRaised.nd rfl (.inl rfl) pe_str)
      (pss_cons (L2N.ps_try_as (i := 5) (c := .ref CB) rfl rfl scRaised.nd rfl rfl ⟨rfl, by decide, .inl gB⟩ takes0N
        (fun W pn xe tk _ => (pss_one (ps_if (pt_cmpR op_eq (pv 0) pe_int (nomark _)) (pss_one (ps_expr (pe_callS GL hr6 (by rfl) mgL kL bL (fun σ => L2N.passAt tk σ) (pa_cons (pv 1) (pa_cons (pv 2) pa_nil)))))
          (pss_one (ps_if (pt_cmpR op_eq (pv 0) pe_int (nomark _)) (pss_one (ps_expr (pe_callS GZ hr (by rfl) mgZ kZ bZ (fun σ => L2N.passAt tk σ) (pa_cons (pv 1) (pa_cons (pv 2) pa_nil)))))
          (pss_one (ps_if (pt_cmpR op_eq (pv 0) pe_int (nomark _)) (pss_one (ps_expr (pe_callS GN hr (by rfl) mgN kN bN (fun σ => L2N.passAt tk σ) (pa_cons (pv 1) (pa_cons (pv 2) pa_nil)))))
          (pss_one (ps_if (pt_cmpR op_eq (pv 0) pe_int (nomark _)) (pss_one (ps_expr (pe_callS GR hr (by rfl) mgR kR bR (fun σ => L2N.passAt tk σ) (pa_cons (pv 1) (pa_cons (pv 2) (pa_cons (pv 3) pa_nil))))))
          (pss_one (ps_if (pt_cmpR op_eq (pv 0) pe_int (nomark _)) (pss_one (ps_expr (pe_callKS0 GZ hr (by rfl) mgZ kZ kbZ (fun σ => L2N.passAt tk σ) (pk_cons (pv 2) (pk_cons (pv 1) pk_nil)))))
          (pss_one (ps_if (pt_cmpR op_eq (pv 0) pe_int (nomark _)) (pss_one (ps_expr (pe_callKS0 GN hr (by rfl) mgN kN kbN (fun σ => L2N.passAt tk σ) (pk_cons (pv 2) (pk_cons (pv 1) pk_nil)))))
          (pss_one (ps_expr (pe_callKS0 GR hr (by rfl) mgR kR kbR (fun σ => L2N.passAt tk σ) (pk_cons (pv 3) (pk_cons (pv 2) (pk_cons (pv 1) pk_nil)))))))))))))))))))
        (fun a oe cls d pn hz hf => pss_cls (cls := cls) (d := d) (t := fun D => tAsg (LHot.tCallE a D (spKindE K mg CB) (tCons (tVar 5) tNil)) (gName 4)) (fun D e1 e2 => by
          subst e1
          subst e2
          exact pss_one (ps_set (i := 4) scRaised.nd rfl (.inl rfl) (LHot.pe_callE (a := a) (oe := oe) GK (roomH_mark (hr.mono (by decide))) List.mem_cons_self (hot_of hz hf) hz.zc hf (by rfl) mgK kK bK (pa_cons (pv 5) pa_nil))))))
      (pss_one (ps_ret (pv 4)))), ?_⟩
    have hcases : door = 0 ∨ door = 1 ∨ door = 2 ∨ door = 3 ∨ door = 4 ∨ door = 5 ∨ door = 6 := by omega
    rcases hcases with rfl | rfl | rfl | rfl | rfl | rfl | rfl
    · -- door 0
      refine ⟨_, rfl, rfl, _, rfl, ?_⟩
      rw [decide_eq_true (congrArg V.int (show ((0 : Nat) : Int) = 0 from rfl))]
      refine iteT ?_
      have q : ∀ o, laneE CL d = o → ∀ H', Kp Ps H H' → Q (.str (wordO CL CG CS o)) H' := fun o eo => by rw [← eo]; exact q
      refine ⟨v, rfl, u, rfl, v, u, d, e, rfl, hd, he, hz, hz2, hT, ?_⟩
      cases ho : laneE CL d with
      | none => exact outX_none ho fun H' x kp => ⟨_, rfl, q _ ho H' kp⟩
      | some C =>
        obtain ⟨x, hx, er, hw⟩ := words C (laneE_in ho)
        refine outX_some ho fun H' kp => ⟨true, er.ex, fun _ a ha => ⟨C, rfl, rfl, _, rfl, rfl, x, hx, er, fun H3 k3 => ⟨_, rfl, ?_⟩⟩, fun z => nomatch z⟩
        have := q _ ho H3 (kp.trans (kp_sm3 kp.tab k3))
        rw [hw] at this
        exact this
    · -- door 1
      refine ⟨_, rfl, rfl, _, rfl, ?_⟩
      rw [decide_eq_false (fun z => by have := V.int.inj z; omega)]
      refine iteF ?_
      refine ⟨_, rfl, rfl, _, rfl, ?_⟩
      rw [decide_eq_true (congrArg V.int (show ((1 : Nat) : Int) = 1 from rfl))]
      refine iteT ?_
      have q : ∀ o, reqLogO CL CG d e = o → ∀ H', Kp Ps H H' → Q (.str (wordO CL CG CS o)) H' := fun o eo => by rw [← eo]; exact q
      refine ⟨v, rfl, u, rfl, v, u, d, e, rfl, hd, he, hz, hz2, hT, ?_⟩
      cases ho : reqLogO CL CG d e with
      | none => exact outX_none ho fun H' x kp => ⟨_, rfl, q _ ho H' kp⟩
      | some C =>
        obtain ⟨x, hx, er, hw⟩ := words C (reqLog_in ho)
        refine outX_some ho fun H' kp => ⟨true, er.ex, fun _ a ha => ⟨C, rfl, rfl, _, rfl, rfl, x, hx, er, fun H3 k3 => ⟨_, rfl, ?_⟩⟩, fun z => nomatch z⟩
        have := q _ ho H3 (kp.trans (kp_sm3 kp.tab k3))
        rw [hw] at this
        exact this
    · -- door 2
      refine ⟨_, rfl, rfl, _, rfl, ?_⟩
      rw [decide_eq_false (fun z => by have := V.int.inj z; omega)]
      refine iteF ?_
      refine ⟨_, rfl, rfl, _, rfl, ?_⟩
      rw [decide_eq_false (fun z => by have := V.int.inj z; omega)]
      refine iteF ?_
      refine ⟨_, rfl, rfl, _, rfl, ?_⟩
      rw [decide_eq_true (congrArg V.int (show ((2 : Nat) : Int) = 2 from rfl))]
      refine iteT ?_
      have q : ∀ o, reqLogO CL CG d e = o → ∀ H', Kp Ps H H' → Q (.str (wordO CL CG CS o)) H' := fun o eo => by rw [← eo]; exact q
      refine ⟨v, rfl, u, rfl, v, u, d, e, rfl, hd, he, hz, hz2, hT, ?_⟩
      cases ho : reqLogO CL CG d e with
      | none => exact outX_none ho fun H' x kp => ⟨_, rfl, q _ ho H' kp⟩
      | some C =>
        obtain ⟨x, hx, er, hw⟩ := words C (reqLog_in ho)
        refine outX_some ho fun H' kp => ⟨true, er.ex, fun _ a ha => ⟨C, rfl, rfl, _, rfl, rfl, x, hx, er, fun H3 k3 => ⟨_, rfl, ?_⟩⟩, fun z => nomatch z⟩
        have := q _ ho H3 (kp.trans (kp_sm3 kp.tab k3))
        rw [hw] at this
        exact this
    · -- door 3
      refine ⟨_, rfl, rfl, _, rfl, ?_⟩
      rw [decide_eq_false (fun z => by have := V.int.inj z; omega)]
      refine iteF ?_
      refine ⟨_, rfl, rfl, _, rfl, ?_⟩
      rw [decide_eq_false (fun z => by have := V.int.inj z; omega)]
      refine iteF ?_
      refine ⟨_, rfl, rfl, _, rfl, ?_⟩
      rw [decide_eq_false (fun z => by have := V.int.inj z; omega)]
      refine iteF ?_
      refine ⟨_, rfl, rfl, _, rfl, ?_⟩
      rw [decide_eq_true (congrArg V.int (show ((3 : Nat) : Int) = 3 from rfl))]
      refine iteT ?_
      have q : ∀ o, repO CL CG CS d e g = o → ∀ H', Kp Ps H H' → Q (.str (wordO CL CG CS o)) H' := fun o eo => by rw [← eo]; exact q
      refine ⟨v, rfl, u, rfl, y, rfl, v, u, y, d, e, g, rfl, hd, he, hg, hz, hz2, hz3, hT, ?_⟩
      cases ho : repO CL CG CS d e g with
      | none => exact outX_none ho fun H' x kp => ⟨_, rfl, q _ ho H' kp⟩
      | some C =>
        obtain ⟨x, hx, er, hw⟩ := words C (rep_in ho)
        refine outX_some ho fun H' kp => ⟨true, er.ex, fun _ a ha => ⟨C, rfl, rfl, _, rfl, rfl, x, hx, er, fun H3 k3 => ⟨_, rfl, ?_⟩⟩, fun z => nomatch z⟩
        have := q _ ho H3 (kp.trans (kp_sm3 kp.tab k3))
        rw [hw] at this
        exact this
    · -- door 4
      refine ⟨_, rfl, rfl, _, rfl, ?_⟩
      rw [decide_eq_false (fun z => by have := V.int.inj z; omega)]
      refine iteF ?_
      refine ⟨_, rfl, rfl, _, rfl, ?_⟩
      rw [decide_eq_false (fun z => by have := V.int.inj z; omega)]
      refine iteF ?_
      refine ⟨_, rfl, rfl, _, rfl, ?_⟩
      rw [decide_eq_false (fun z => by have := V.int.inj z; omega)]
      refine iteF ?_
      refine ⟨_, rfl, rfl, _, rfl, ?_⟩
      rw [decide_eq_false (fun z => by have := V.int.inj z; omega)]
      refine iteF ?_
      refine ⟨_, rfl, rfl, _, rfl, ?_⟩
      rw [decide_eq_true (congrArg V.int (show ((4 : Nat) : Int) = 4 from rfl))]
      refine iteT ?_
      have q : ∀ o, reqLogO CL CG d e = o → ∀ H', Kp Ps H H' → Q (.str (wordO CL CG CS o)) H' := fun o eo => by rw [← eo]; exact q
      refine ⟨u, rfl, v, rfl, v, u, d, e, rfl, hd, he, hz, hz2, hT, ?_⟩
      cases ho : reqLogO CL CG d e with
      | none => exact outX_none ho fun H' x kp => ⟨_, rfl, q _ ho H' kp⟩
      | some C =>
        obtain ⟨x, hx, er, hw⟩ := words C (reqLog_in ho)
        refine outX_some ho fun H' kp => ⟨true, er.ex, fun _ a ha => ⟨C, rfl, rfl, _, rfl, rfl, x, hx, er, fun H3 k3 => ⟨_, rfl, ?_⟩⟩, fun z => nomatch z⟩
        have := q _ ho H3 (kp.trans (kp_sm3 kp.tab k3))
        rw [hw] at this
        exact this
    · -- door 5
      refine ⟨_, rfl, rfl, _, rfl, ?_⟩
      rw [decide_eq_false (fun z => by have := V.int.inj z; omega)]
      refine iteF ?_
      refine ⟨_, rfl, rfl, _, rfl, ?_⟩
      rw [decide_eq_false (fun z => by have := V.int.inj z; omega)]
      refine iteF ?_
      refine ⟨_, rfl, rfl, _, rfl, ?_⟩
      rw [decide_eq_false (fun z => by have := V.int.inj z; omega)]
      refine iteF ?_
      refine ⟨_, rfl, rfl, _, rfl, ?_⟩
      rw [decide_eq_false (fun z => by have := V.int.inj z; omega)]
      refine iteF ?_
      refine ⟨_, rfl, rfl, _, rfl, ?_⟩
      rw [decide_eq_false (fun z => by have := V.int.inj z; omega)]
      refine iteF ?_
      refine ⟨_, rfl, rfl, _, rfl, ?_⟩
      rw [decide_eq_true (congrArg V.int (show ((5 : Nat) : Int) = 5 from rfl))]
      refine iteT ?_
      have q : ∀ o, reqLogO CL CG d e = o → ∀ H', Kp Ps H H' → Q (.str (wordO CL CG CS o)) H' := fun o eo => by rw [← eo]; exact q
      refine ⟨u, rfl, v, rfl, v, u, d, e, rfl, hd, he, hz, hz2, hT, ?_⟩
      cases ho : reqLogO CL CG d e with
      | none => exact outX_none ho fun H' x kp => ⟨_, rfl, q _ ho H' kp⟩
      | some C =>
        obtain ⟨x, hx, er, hw⟩ := words C (reqLog_in ho)
        refine outX_some ho fun H' kp => ⟨true, er.ex, fun _ a ha => ⟨C, rfl, rfl, _, rfl, rfl, x, hx, er, fun H3 k3 => ⟨_, rfl, ?_⟩⟩, fun z => nomatch z⟩
        have := q _ ho H3 (kp.trans (kp_sm3 kp.tab k3))
        rw [hw] at this
        exact this
    · -- door 6
      refine ⟨_, rfl, rfl, _, rfl, ?_⟩
      rw [decide_eq_false (fun z => by have := V.int.inj z; omega)]
      refine iteF ?_
      refine ⟨_, rfl, rfl, _, rfl, ?_⟩
      rw [decide_eq_false (fun z => by have := V.int.inj z; omega)]
      refine iteF ?_
      refine ⟨_, rfl, rfl, _, rfl, ?_⟩
      rw [decide_eq_false (fun z => by have := V.int.inj z; omega)]
      refine iteF ?_
      refine ⟨_, rfl, rfl, _, rfl, ?_⟩
      rw [decide_eq_false (fun z => by have := V.int.inj z; omega)]
      refine iteF ?_
      refine ⟨_, rfl, rfl, _, rfl, ?_⟩
      rw [decide_eq_false (fun z => by have := V.int.inj z; omega)]
      refine iteF ?_
      refine ⟨_, rfl, rfl, _, rfl, ?_⟩
      rw [decide_eq_false (fun z => by have := V.int.inj z; omega)]
      refine iteF ?_
      have q : ∀ o, repO CL CG CS d e g = o → ∀ H', Kp Ps H H' → Q (.str (wordO CL CG CS o)) H' := fun o eo => by rw [← eo]; exact q
      refine ⟨y, rfl, u, rfl, v, rfl, v, u, y, d, e, g, rfl, hd, he, hg, hz, hz2, hz3, hT, ?_⟩
      cases ho : repO CL CG CS d e g with
      | none => exact outX_none ho fun H' x kp => ⟨_, rfl, q _ ho H' kp⟩
      | some C =>
        obtain ⟨x, hx, er, hw⟩ := words C (rep_in ho)
        refine outX_some ho fun H' kp => ⟨true, er.ex, fun _ a ha => ⟨C, rfl, rfl, _, rfl, rfl, x, hx, er, fun H3 k3 => ⟨_, rfl, ?_⟩⟩, fun z => nomatch z⟩
        have := q _ ho H3 (kp.trans (kp_sm3 kp.tab k3))
        rw [hw] at this
        exact this
end
end Ln


set_option Elab.async false
set_option linter.all false
set_option maxRecDepth 100000
set_option maxHeartbeats 4000000
namespace Ln
open PySem L2 TL
/-! ### the invalid values of the law, and what is known of each -/
structure RBad (us : List Str) (n number : Nat) (d : PyData) : Prop where
  l : number = 0 → laneD d = false
  g : number = 1 → logD us d = false ∧ lenD3 d ≤ 400
  m : number = 2 → sidesD n d = false
  sz : SzA d
  rp : Rp d 4 100000
theorem szT {ds : List PyData} (h : ds.length ≤ 400) : SzA (.tuple ds) := ⟨fun es e => by cases e; exact h, fun es e => (nomatch e)⟩
theorem szL {ds : List PyData} (h : ds.length ≤ 400) : SzA (.list ds) := ⟨fun es e => (nomatch e), fun es e => by cases e; omega⟩
theorem szO {d : PyData} (h1 : ∀ ds, d ≠ .tuple ds) (h2 : ∀ ds, d ≠ .list ds) : SzA d := ⟨fun es e => absurd e (h1 es), fun es e => absurd e (h2 es)⟩
theorem rpS {us : List Str} (h : ∀ x ∈ us, carB x = true) (hl : us.length ≤ 40) : RpA (us.map PyData.str) 3 400 := (RpA.map us fun x hx => rp_str (h x hx)).mono (by decide) (by omega)
theorem RBad.zero {us : List Str} {n : Nat} {d : PyData} (h : laneD d = false) (s : SzA d) (r : Rp d 4 100000) : RBad us n 0 d := ⟨fun _ => h, (nomatch ·), (nomatch ·), s, r⟩
theorem RBad.one {us : List Str} {n : Nat} {d : PyData} (h : logD us d = false) (hl : lenD3 d ≤ 400) (s : SzA d) (r : Rp d 4 100000) : RBad us n 1 d := ⟨(nomatch ·), fun _ => ⟨h, hl⟩, (nomatch ·), s, r⟩
theorem RBad.two {us : List Str} {n : Nat} {d : PyData} (h : sidesD n d = false) (s : SzA d) (r : Rp d 4 100000) : RBad us n 2 d := ⟨(nomatch ·), (nomatch ·), fun _ => h, s, r⟩
def m0a (us : List Str) (i : Nat) : List PyData := [.none, .list (strD us), .tuple ((strD us).take i ++ [.str "A"] ++ (strD us).drop i), .str "ab", .int 3, .tuple (strD us ++ [.tuple [.str "a"]]), .dict []]
def m0b (us : List Str) (i : Nat) : List PyData := [.tuple (strD us ++ [.str "zq", .str "zq"]), .tuple ((strD us).take i ++ [.str "b`"] ++ (strD us).drop i)]
def m0x (us : List Str) : PyData := if decide (us ≠ []) = true then .tuple (strD us ++ (strD us).take 1) else .tuple [.str ""]
def m0c (us : List Str) : List PyData := (List.replicate 3 [m0x us]).flatten
theorem rpTk {us : List Str} (h : ∀ x ∈ us, carB x = true) (hl : us.length ≤ 40) (i : Nat) : RpA ((strD us).take i) 3 400 := by
  rw [show (strD us).take i = (us.take i).map PyData.str from (List.map_take ..).symm]
  exact rpS (fun x hx => h x (List.mem_of_mem_take hx)) (by rw [List.length_take]; omega)
theorem rpDr {us : List Str} (h : ∀ x ∈ us, carB x = true) (hl : us.length ≤ 40) (i : Nat) : RpA ((strD us).drop i) 3 400 := by
  rw [show (strD us).drop i = (us.drop i).map PyData.str from (List.map_drop ..).symm]
  exact rpS (fun x hx => h x (List.mem_of_mem_drop hx)) (by rw [List.length_drop]; omega)
theorem lenS (us : List Str) : (strD us).length = us.length := List.length_map ..
theorem lane_mid {us : List Str} {z : Str} (i : Nat) (h : carB z = false) : laneD (.tuple ((strD us).take i ++ [PyData.str z] ++ (strD us).drop i)) = false := by
  rw [show (strD us).take i = (us.take i).map PyData.str from (List.map_take ..).symm, show (strD us).drop i = (us.drop i).map PyData.str from (List.map_drop ..).symm]
  exact lane_badX h
theorem fact0 {us : List Str} {n i : Nat} {d : PyData} (h : ∀ x ∈ us, carB x = true) (hl : us.length ≤ 40) (hd : d ∈ (m0a us i ++ m0b us i) ++ m0c us) : RBad us n 0 d := by
  have hS := rpS h hl
  have hT := rpTk h hl i
  have hD := rpDr h hl i
  have len3 : ∀ z : PyData, ((strD us).take i ++ [z] ++ (strD us).drop i).length ≤ 400 := fun z => by
    rw [List.length_append, List.length_append, List.length_take, List.length_drop, lenS]
    show _ + 1 + _ ≤ 400
    omega
  have rp3 : ∀ z : PyData, RpA [z] 3 100 → Rp (.tuple ((strD us).take i ++ [z] ++ (strD us).drop i)) 4 100000 := fun z r => (RpA.tuple ((hT.app r).app hD)).mono (by decide) (by decide)
  rcases List.mem_append.mp hd with hd | hd
  · rcases List.mem_append.mp hd with hd | hd
    · unfold m0a at hd
      simp only [List.mem_cons, List.not_mem_nil, or_false] at hd
      rcases hd with rfl | rfl | rfl | rfl | rfl | rfl | rfl
      · exact .zero rfl (szO (fun _ z => nomatch z) fun _ z => nomatch z) (.dec (by decide +kernel))
      · exact .zero rfl (szL (by rw [lenS]; omega)) ((RpA.list hS).mono (by decide) (by decide))
      · exact .zero (lane_mid i (by decide +kernel)) (szT (len3 _)) (rp3 _ (.dec (by decide +kernel)))
      · exact .zero rfl (szO (fun _ z => nomatch z) fun _ z => nomatch z) (.dec (by decide +kernel))
      · exact .zero rfl (szO (fun _ z => nomatch z) fun _ z => nomatch z) (.dec (by decide +kernel))
      · exact .zero (lane_tup fun x z => nomatch z) (szT (by rw [List.length_append, lenS]; show _ + 1 ≤ 400; omega)) ((RpA.tuple (hS.app (.dec (dep := 3) (wt := 100) (by decide +kernel)))).mono (by decide) (by decide))
      · exact .zero rfl (szO (fun _ z => nomatch z) fun _ z => nomatch z) (.dec (by decide +kernel))
    · unfold m0b at hd
      simp only [List.mem_cons, List.not_mem_nil, or_false] at hd
      rcases hd with rfl | rfl
      · exact .zero lane_two (szT (by rw [List.length_append, lenS]; show _ + 2 ≤ 400; omega)) ((RpA.tuple (hS.app (.dec (dep := 3) (wt := 100) (by decide +kernel)))).mono (by decide) (by decide))
      · exact .zero (lane_mid i (by decide +kernel)) (szT (len3 _)) (rp3 _ (.dec (by decide +kernel)))
  · have e : d = m0x us := by
      unfold m0c at hd
      simp only [List.mem_flatten, List.mem_replicate] at hd
      obtain ⟨L, ⟨_, rfl⟩, h⟩ := hd
      exact List.mem_singleton.mp h
    rw [e]
    unfold m0x
    by_cases hu : us = []
    · rw [if_neg (by simp [hu])]
      exact .zero lane_null (szT (by decide)) (.dec (by decide +kernel))
    · rw [if_pos (by simp [hu])]
      exact .zero (lane_again hu) (szT (by rw [List.length_append, List.length_take, lenS]; omega)) ((RpA.tuple (hS.app (rpTk h hl 1))).mono (by decide) (by decide))
theorem lenE (es : List Ev) : (es.map Ev.dat).length = es.length := List.length_map ..
theorem rpE {es : List Ev} (h : ∀ c, Ev.inn c ∈ es → carB c = true) (hl : es.length ≤ 60) : RpA (es.map Ev.dat) 3 2000 := (RpA.map es fun e he => Rp.gd (gd_ev fun c z => h c (z ▸ he))).mono (by decide) (by omega)
def m1 (us : List Str) (es : List Ev) (spot : Nat) (od x : PyData) : List PyData :=
  [.list ((es.map Ev.dat).take spot ++ [od] ++ (es.map Ev.dat).drop spot), .list (es.map Ev.dat ++ [x])] ++ [.none, .tuple (es.map Ev.dat), .str "out", .list (es.map Ev.dat ++ (List.replicate 41 [outD]).flatten)]
def knownD (us : List Str) (es : List Ev) (od : PyData) : List PyData := us.map innD ++ (arrs es).map innD ++ [od]
theorem rep_one (n : Nat) (d : PyData) : (List.replicate n [d]).flatten = List.replicate n d := by
  induction n with
  | zero => rfl
  | succ n ih => rw [List.replicate_succ, List.flatten_cons, ih, List.replicate_succ]; rfl
theorem rpRep {d : PyData} {dep w : Nat} (h : Rp d dep w) : ∀ n : Nat, RpA (List.replicate n d) dep (n * (w + 1))
  | 0 => by rw [Nat.zero_mul]; exact .nil
  | n + 1 => by
    rw [List.replicate_succ]
    exact (RpA.cons h (rpRep h n)).mono (Nat.le_refl _) (by rw [Nat.succ_mul]; omega)
theorem innD_dat {c : Str} {es : List Ev} (h : c ∈ arrs es) : innD c ∈ es.map Ev.dat := by
  induction es with
  | nil => cases h
  | cons e r ih =>
    cases e with
    | inn y =>
      rcases List.mem_cons.mp h with h | h
      · rw [h]
        exact List.mem_cons_self
      · exact List.mem_cons_of_mem _ (ih h)
    | out => exact List.mem_cons_of_mem _ (ih h)
theorem fact1 {us : List Str} {es : List Ev} {n spot : Nat} {od x d : PyData} (h : ∀ x ∈ us, carB x = true) (he : ∀ c, Ev.inn c ∈ es → carB c = true) (hA : ∀ c ∈ arrs es, carB c = true) (hl : es.length ≤ 60) (hk : us.length + (arrs es).length ≤ 40) (ho : od ∈ menE) (hx : x ∈ knownD us es od) (hd : d ∈ m1 us es spot od x) : RBad us n 1 d := by
  have hE := rpE he hl
  have hEt : RpA ((es.map Ev.dat).take spot) 3 2000 := by
    rw [← List.map_take]
    exact rpE (fun c hc => he c (List.mem_of_mem_take hc)) (by rw [List.length_take]; omega)
  have hEd : RpA ((es.map Ev.dat).drop spot) 3 2000 := by
    rw [← List.map_drop]
    exact rpE (fun c hc => he c (List.mem_of_mem_drop hc)) (by rw [List.length_drop]; omega)
  have ro : Rp od 3 20 := (menE_bad ho).2.2.rp.mono (by decide) (by decide)
  have rx : Rp x 3 20 ∧ logW us us.length (es.map Ev.dat ++ [x]) = false := by
    unfold knownD at hx
    rcases List.mem_append.mp hx with hx | hx
    · rcases List.mem_append.mp hx with hx | hx
      · obtain ⟨c, hc, rfl⟩ := List.mem_map.mp hx
        exact ⟨(Rp.gd (gd_ev (e := .inn c) fun y z => by cases z; exact h c hc)).mono (by decide) (by decide), log_used (h c hc) (.inl hc)⟩
      · obtain ⟨c, hc, rfl⟩ := List.mem_map.mp hx
        exact ⟨(Rp.gd (gd_ev (e := .inn c) fun y z => by cases z; exact hA c hc)).mono (by decide) (by decide), log_used (hA c hc) (.inr (innD_dat hc))⟩
    · rw [List.mem_singleton.mp hx]
      refine ⟨ro, ?_⟩
      exact logW_pre (fun us m => logW_odd (menE_bad ho).1 (menE_bad ho).2.1) _ us _
  unfold m1 at hd
  simp only [List.mem_cons, List.not_mem_nil, or_false, List.mem_append] at hd
  rcases hd with (rfl | rfl) | rfl | rfl | rfl | rfl
  · have hlen : ((es.map Ev.dat).take spot ++ [od] ++ (es.map Ev.dat).drop spot).length ≤ 400 := by
      rw [List.length_append, List.length_append, List.length_take, List.length_drop, lenE]
      show _ + 1 + _ ≤ 400
      omega
    exact .one (log_oddAt ho) hlen (szL hlen) ((RpA.list ((hEt.app (RpA.cons ro .nil)).app hEd)).mono (by decide) (by decide))
  · have hlen : (es.map Ev.dat ++ [x]).length ≤ 400 := by
      rw [List.length_append, lenE]
      show _ + 1 ≤ 400
      omega
    exact .one rx.2 hlen (szL hlen) ((RpA.list (hE.app (RpA.cons rx.1 .nil))).mono (by decide) (by decide))
  · exact .one rfl (by decide) (szO (fun _ z => nomatch z) fun _ z => nomatch z) (.dec (by decide +kernel))
  · exact .one rfl (by show 0 ≤ 400; decide) (szT (by rw [lenE]; omega)) ((RpA.tuple hE).mono (by decide) (by decide))
  · exact .one rfl (by decide) (szO (fun _ z => nomatch z) fun _ z => nomatch z) (.dec (by decide +kernel))
  · rw [rep_one]
    have hlen : (es.map Ev.dat ++ List.replicate 41 outD).length ≤ 400 := by
      rw [List.length_append, lenE, List.length_replicate]
      omega
    have hi := insD_evs es
    exact .one (log_outs (by omega)) hlen (szL hlen) ((RpA.list (hE.app (rpRep (d := outD) (dep := 3) (w := 20) (.dec (by decide +kernel)) 41))).mono (by decide) (by decide))
/-- what the texts joined are made of -/
theorem tl_flat : ∀ ps : List (List Nat), joinL [] ps = ps.flatten
  | [] => rfl
  | [p] => by rw [List.flatten_cons, List.flatten_nil, List.append_nil]; rfl
  | p :: q :: r => by
    show p ++ ([] ++ joinL [] (q :: r)) = _
    rw [List.nil_append, tl_flat (q :: r)]
    rfl
theorem join_tl (ms : List Str) : (Txt.join "" ms).cps.toList = (ms.map fun m => m.cps.toList).flatten := by
  have h := tl_join "" ms
  rw [← join_eq] at h
  have e : tl "" = [] := by decide +kernel
  rw [e, tl_flat] at h
  exact h
theorem join_len : ∀ {ms : List Str}, (∀ m ∈ ms, m.length ≤ 1) → ((ms.map fun m => m.cps.toList).flatten).length ≤ ms.length
  | [], _ => Nat.le_refl _
  | m :: r, h => by
    have h1 := h m List.mem_cons_self
    have h2 := join_len fun x hx => h x (List.mem_cons_of_mem _ hx)
    have h3 : m.cps.toList.length ≤ 1 := by rw [Array.length_toList]; exact h1
    rw [List.map_cons, List.flatten_cons, List.length_append, List.length_cons]
    omega
theorem side_of {y : Str} (h : sideB y = true) : y = "L" ∨ y = "R" := by
  unfold sideB at h
  rw [Bool.or_eq_true] at h
  exact h.imp of_decide_eq_true of_decide_eq_true
theorem rp_side {y : Str} (h : sideB y = true) : Rp (.str y) 0 1 := by
  rcases side_of h with rfl | rfl
  · exact .dec (by decide +kernel)
  · exact .dec (by decide +kernel)
theorem rp_join {ms : List Str} (h : ∀ m ∈ ms, sideB m = true) : Rp (.str (Txt.join "" ms)) 0 ms.length ∧ (Txt.join "" ms).length ≤ ms.length := by
  have hm : ∀ m ∈ ms, m.length ≤ 1 := fun m hm => by
    rcases side_of (h m hm) with e | e <;> rw [e] <;> decide
  have e := join_tl ms
  have hl : (Txt.join "" ms).length ≤ ms.length := by
    have := join_len hm
    rw [← e, Array.length_toList] at this
    exact this
  refine ⟨⟨rfl, by rw [PyData.depth]; exact Nat.le_refl _, by rw [PyData.weight]; exact hl, ?_⟩, hl⟩
  rw [PyData.leavesShort, e, List.all_eq_true]
  intro c hc
  obtain ⟨L, hL, hc⟩ := List.mem_flatten.mp hc
  obtain ⟨m, hm, rfl⟩ := List.mem_map.mp hL
  refine decide_eq_true ?_
  rcases side_of (h m hm) with e | e
  · rw [e] at hc
    have k : (("L" : Str).cps.toList.all fun c => decide (c < 16 ^ 8)) = true := by decide +kernel
    exact of_decide_eq_true (List.all_eq_true.mp k c hc)
  · rw [e] at hc
    have k : (("R" : Str).cps.toList.all fun c => decide (c < 16 ^ 8)) = true := by decide +kernel
    exact of_decide_eq_true (List.all_eq_true.mp k c hc)
def m2x (ms : List Str) : PyData := if decide (ms ≠ []) = true then .list ((strD ms).take ((strD ms).length - 1)) else .list [.str "R"]
def m2a (ms : List Str) : List PyData := [.none, .tuple (strD ms), .list (strD ms ++ [.str "L"]), .str (Txt.join "" ms), m2x ms]
/-- the bent sides -/
def bentD (ms : List Str) (od : PyData) (i : Nat) : List PyData := (if ms = [] then [od] else strD ms).set i od
theorem rpM {ms : List Str} (h : ∀ m ∈ ms, sideB m = true) (hl : ms.length ≤ 60) : RpA (strD ms) 3 120 := (RpA.map (f := PyData.str) ms fun x hx => rp_side (h x hx)).mono (by decide) (by omega)
theorem RpA.uncons3 {d : PyData} {ds : List PyData} {dep w : Nat} (h : RpA (d :: ds) dep w) : ∃ a b, a + 1 + b ≤ w ∧ Rp d dep a ∧ RpA ds dep b := by
  have s := h.sh
  have l := h.lv
  have dp := h.dep
  have w' := h.wt
  rw [PyData.showableAll, Bool.and_eq_true] at s
  rw [PyData.leavesShortAll, Bool.and_eq_true] at l
  rw [PyData.depthAll] at dp
  rw [PyData.weightAll] at w'
  exact ⟨d.weight, PyData.weightAll ds, by omega, ⟨s.1, by omega, Nat.le_refl _, l.1⟩, ⟨s.2, by omega, Nat.le_refl _, l.2⟩⟩
theorem rpSet {d : PyData} {dep b : Nat} (r : Rp d dep b) : ∀ {ds : List PyData} {a : Nat}, RpA ds dep a → ∀ i : Nat, RpA (ds.set i d) dep (a + b + 1)
  | [], _, h, _ => h.mono (Nat.le_refl _) (by omega)
  | c :: ds, a, h, i => by
    obtain ⟨x, y, e, hc, ht⟩ := h.uncons3
    cases i with
    | zero => exact (RpA.cons r ht).mono (Nat.le_refl _) (by omega)
    | succ i => exact (RpA.cons hc (rpSet r ht i)).mono (Nat.le_refl _) (by omega)
theorem fact2 {us ms : List Str} {od d : PyData} {i : Nat} (h : ∀ m ∈ ms, sideB m = true) (hl : ms.length ≤ 60) (ho : od ∈ menS) (hi : i < (if ms = [] then [od] else strD ms).length) (hd : d ∈ m2a ms ++ (List.replicate 5 [.list (bentD ms od i)]).flatten) : RBad us ms.length 2 d := by
  have hM := rpM h hl
  have ro : Rp od 3 20 := (menS_bad ho).2.rp.mono (by decide) (by decide)
  rcases List.mem_append.mp hd with hd | hd
  · unfold m2a at hd
    simp only [List.mem_cons, List.not_mem_nil, or_false] at hd
    rcases hd with rfl | rfl | rfl | rfl | rfl
    · exact .two rfl (szO (fun _ z => nomatch z) fun _ z => nomatch z) (.dec (by decide +kernel))
    · exact .two rfl (szT (by rw [lenS]; omega)) ((RpA.tuple hM).mono (by decide) (by decide))
    · have hlen : (strD ms ++ [PyData.str "L"]).length = ms.length + 1 := by rw [List.length_append, lenS]; rfl
      exact .two (sides_len (by rw [hlen]; omega)) (szL (by rw [hlen]; omega)) ((RpA.list (hM.app (.dec (dep := 3) (wt := 100) (by decide +kernel)))).mono (by decide) (by decide))
    · exact .two rfl (szO (fun _ z => nomatch z) fun _ z => nomatch z) ((rp_join h).1.mono (by decide) (by omega))
    · unfold m2x
      by_cases hu : ms = []
      · rw [if_neg (by simp [hu]), hu]
        exact .two (sides_len (by decide)) (szL (by decide)) (.dec (by decide +kernel))
      · rw [if_pos (by simp [hu])]
        have hpos : 0 < ms.length := List.length_pos_iff.mpr hu
        have hlen : ((strD ms).take ((strD ms).length - 1)).length = ms.length - 1 := by rw [List.length_take, lenS]; omega
        have hT : RpA ((strD ms).take ((strD ms).length - 1)) 3 120 := by
          rw [show (strD ms).take ((strD ms).length - 1) = strD (ms.take ((strD ms).length - 1)) from (List.map_take ..).symm]
          exact rpM (fun m hm => h m (List.mem_of_mem_take hm)) (by rw [List.length_take]; omega)
        exact .two (sides_len (by rw [hlen]; omega)) (szL (by rw [hlen]; omega)) ((RpA.list hT).mono (by decide) (by decide))
  · have e : d = .list (bentD ms od i) := by
      simp only [List.mem_flatten, List.mem_replicate] at hd
      obtain ⟨L, ⟨_, rfl⟩, h⟩ := hd
      exact List.mem_singleton.mp h
    rw [e]
    have hlen : (bentD ms od i).length ≤ 400 := by
      unfold bentD
      rw [List.length_set]
      split
      · show 1 ≤ 400
        decide
      · rw [lenS]; omega
    refine .two (sides_in (d := od) ?_ (menS_bad ho).1) (szL hlen) ?_
    · unfold bentD
      exact List.mem_set hi _
    · unfold bentD
      refine (RpA.list (rpSet (a := 120) (b := 20) ro ?_ i)).mono (by decide) (by decide)
      split
      · exact (RpA.cons ro .nil).mono (Nat.le_refl _) (by decide)
      · exact hM
end Ln


set_option Elab.async false
set_option linter.all false
set_option maxRecDepth 100000
set_option maxHeartbeats 8000000
namespace Ln
open PySem PySem.Spec PyProof.Rows L2 GxR
theorem scBad : FnScope ["source", "number", "parts", "initial", "happened", "moves", "spot", "at", "some", "odd", "known", "bent", "name", "event"] ["source", "number", "parts"] (defScope sBad) := ⟨rfl, rfl, rfl, by decide +kernel, rfl, by decide +kernel, by decide +kernel⟩
section
variable {K : PySem.W.Frag} {S : Addr → Bool} {Γ : List (Nat × PyData)}
/-- t != (), t a tuple of texts -/
theorem cond3 (us : List Str) (h : ∀ x ∈ us, carB x = true) {Γ : List (Nat × PyData)} : ∀ (σ : L2.St) (H : Hp) (Q : Bool → Hp → Prop), Full S H → EnvB K S ((3, .tuple (strD us)) :: Γ) σ H → (∀ H', L2.Same H H' → Q (decide (us ≠ [])) H') → tTest (tOp (rNeD K) (tVar 3) (tTup tNil)) σ H Q := by
  intro σ H Q hF en q
  obtain ⟨v, ev, bt⟩ := en _ List.mem_cons_self
  obtain ⟨a, xs, rfl, hT, hA⟩ := dvT bt.dv
  obtain ⟨rfl, _, _⟩ := DvAll.strs hA (strs_map us)
  refine ⟨.ref a, ev, by show 0 ≤ sizeLine; decide, fun p hp => ?_⟩
  have k : L2.Same H (upd H p (.tup [])) := sm_new sm_refl hp
  refine ⟨.tuple (us.map PyData.str), .tuple [], .tup (sqT_sub (sqT_sub hT offB_sub) k) (dp_strs us), .tup (SqT.of upd_same) .nil, shapedT us h, by decide +kernel, _, rfl, ?_⟩
  rw [eqv_nilT, ← decide_not]
  exact q _ k
/-- l != [], l a list of texts -/
theorem cond5 (ms : List Str) (h : ∀ x ∈ ms, PyData.strOk x = true) {Γ : List (Nat × PyData)} : ∀ (σ : L2.St) (H : Hp) (Q : Bool → Hp → Prop), Full S H → EnvB K S ((5, .list (strD ms)) :: Γ) σ H → (∀ H', L2.Same H H' → Q (decide (ms ≠ [])) H') → tTest (tOp (rNeD K) (tVar 5) (tLst tNil)) σ H Q := by
  intro σ H Q hF en q
  obtain ⟨v, ev, bt⟩ := en _ List.mem_cons_self
  obtain ⟨a, xs, rfl, hT, hA⟩ := dvL bt.dv
  obtain ⟨rfl, _, _⟩ := DvAll.strs hA (strs_map ms)
  refine ⟨.ref a, ev, by show 0 ≤ sizeLine; decide, fun p hp => ?_⟩
  have k : L2.Same H (upd H p (.lst [])) := sm_new sm_refl hp
  refine ⟨.list (ms.map PyData.str), .list [], .lst (sqL_sub (sqL_sub hT offB_sub) k) (dp_strs ms), .lst (SqL.of upd_same) .nil, shaped_strs ms h, by decide +kernel, _, rfl, ?_⟩
  rw [eqv_nilS, ← decide_not]
  exact q _ k
theorem arrs_mem : ∀ {es : List Ev} {c : Str}, c ∈ arrs es → Ev.inn c ∈ es
  | .inn y :: r, c, h => by
    rcases List.mem_cons.mp h with h | h
    · rw [h]
      exact List.mem_cons_self
    · exact List.mem_cons_of_mem _ (arrs_mem h)
  | .out :: r, c, h => List.mem_cons_of_mem _ (arrs_mem (es := r) h)
theorem sum_one : ∀ {ms : List Str}, (∀ m ∈ ms, m.length ≤ 1) → (ms.map (·.length)).sum ≤ ms.length
  | [], _ => Nat.le_refl _
  | m :: r, h => by
    have h1 := h m List.mem_cons_self
    have h2 := sum_one fun x hx => h x (List.mem_cons_of_mem _ hx)
    rw [List.map_cons, List.sum_cons, List.length_cons]
    omega
theorem join5 (ms : List Str) (h : (∀ m ∈ ms, sideB m = true) ∧ ms.length ≤ 60) : ∀ (σ : L2.St) (H : Hp) (Q : VK), tB2 K S [(5, .list (strD ms))] (.str (Txt.join "" ms)) σ H Q →
    tM1 (fun x xs H Q => ∃ a p, ∃ ys : List Str, x = .str a ∧ xs = [.ref p] ∧ (SqL K H p (ys.map V.str) ∨ SqT K H p (ys.map V.str)) ∧ (ys.map (·.length)).sum + ys.length * a.length ≤ 16777216 ∧ Q (.str (Txt.join a ys)) H) (tC (.str "")) (tVar 5) σ H Q := by
  intro σ H Q ⟨hF, en, q⟩
  obtain ⟨v, ev, bt⟩ := en _ List.mem_cons_self
  obtain ⟨a, xs, rfl, hT, hA⟩ := dvL bt.dv
  obtain ⟨rfl, _, _⟩ := DvAll.strs hA (strs_map ms)
  have hm : ∀ m ∈ ms, m.length ≤ 1 := fun m hm => by
    rcases side_of (h.1 m hm) with e | e <;> rw [e] <;> decide
  have hs := sum_one hm
  have hz : ("" : Str).length = 0 := by decide +kernel
  have h60 := h.2
  refine ⟨⟨_, rfl⟩, .ref a, ev, "", a, ms, rfl, rfl, .inl (sqL_sub hT offB_sub), by rw [hz, Nat.mul_zero]; omega, ?_⟩
  exact q H _ sm_refl (.of (.str _ (by have := (rp_join h.1).2; rw [sizeLine_eq]; omega)) fun _ z => nomatch z)
end
section
variable {P : Program} {w : World} {K : PySem.W.Frag} {mg : Str → Option Value} {base : Heap} {Ps : List Addr}
def tBent (K : PySem.W.Frag) (S : Addr → Bool) (ms : List Str) (od : PyData) : TE := fun σ H Q => Full S H ∧ EnvB K S [(5, .list (strD ms)), (9, od)] σ H ∧ ∀ H3 p ys, L2.Same H H3 → H3 p = none → DvAll K (offB H3 S) ys (if ms = [] then [od] else strD ms) → Q (.ref p) (upd H3 p (.lst ys))
theorem btN {K : PySem.W.Frag} {S : Addr → Bool} {H : Hp} {p : Addr} {xs : List V} {ds : List PyData} (hs : Full S H) (hp : H p = none) (dv : DvAll K (offB H S) xs ds) : L2.Same H (upd H p (.lst xs)) ∧ Bt2 K S (upd H p (.lst xs)) (.ref p) (.list ds) := by
  have k : L2.Same H (upd H p (.lst xs)) := sm_new sm_refl hp
  have n : S p = false := hs.out hp
  have d2 := dv.same (offB_sm (S := S) k)
  exact ⟨k, .lst (SqL.of (by rw [offB_at n]; exact upd_same)) d2, fun es e => by cases e; exact ⟨p, xs, rfl, upd_same, n, d2⟩⟩
theorem full_ch {S : Addr → Bool} {s0 : Addr} {H H' : Hp} {l : List V} (h : Full S H) (k : Ch s0 H H') (e : H' s0 = some (.lst l)) : Full S H' := fun b hb z => by
  by_cases q : b = s0
  · rw [q, e] at z
    cases z
  · cases y : H b with
    | none => exact h b hb y
    | some o =>
      rw [k b o y q] at z
      cases z
def addS (S : Addr → Bool) (p : Addr) : Addr → Bool := fun b => S b || decide (b = p)
theorem addS_no {S : Addr → Bool} {p b : Addr} : addS S p b = false ↔ S b = false ∧ b ≠ p := by
  unfold addS
  rw [Bool.or_eq_false_iff]
  exact ⟨fun h => ⟨h.1, of_decide_eq_false h.2⟩, fun h => ⟨h.1, decide_eq_false h.2⟩⟩
theorem off_grow {S : Addr → Bool} {H H' : Hp} {p s0 : Addr} (hp : H p = none) (hS : S s0 = true) (k : ∀ b o, H b = some o → b ≠ s0 → H' b = some o) : L2.Same (offB H S) (offB H' (addS S p)) := fun b o e => by
  cases z : S b with
  | true =>
    unfold offB at e
    rw [z] at e
    cases e
  | false =>
    rw [offB_at z] at e
    have nb : b ≠ p := fun y => by
      rw [y, hp] at e
      cases e
    rw [offB_at (addS_no.mpr ⟨z, nb⟩)]
    exact k b o e fun y => by
      rw [y, hS] at z
      cases z
theorem Bt2.grow {K : PySem.W.Frag} {S : Addr → Bool} {H H' : Hp} {p s0 : Addr} {v : V} {d : PyData} (h : Bt2 K S H v d) (hp : H p = none) (hS : S s0 = true) (k : ∀ b o, H b = some o → b ≠ s0 → H' b = some o) : Bt2 K (addS S p) H' v d := ⟨h.dv.same (off_grow hp hS k), fun ds e => by
  obtain ⟨a, xs, e1, e2, n, dv⟩ := h.ls ds e
  have na : a ≠ s0 := fun z => by
    rw [z, hS] at n
    cases n
  have np : a ≠ p := fun z => by
    rw [z, hp] at e2
    cases e2
  exact ⟨a, xs, e1, k _ _ e2 na, addS_no.mpr ⟨n, np⟩, dv.same (off_grow hp hS k)⟩⟩
theorem Bt2.less {K : PySem.W.Frag} {S : Addr → Bool} {H : Hp} {p : Addr} {v : V} {d : PyData} (h : Bt2 K (addS S p) H v d) : Bt2 K S H v d := by
  have k : L2.Same (offB H (addS S p)) (offB H S) := off_mv (fun b o e _ => e) fun b e => by unfold addS; rw [e]; rfl
  exact ⟨h.dv.same k, fun ds e => by
    obtain ⟨a, xs, e1, e2, n, dv⟩ := h.ls ds e
    exact ⟨a, xs, e1, e2, (addS_no.mp n).1, dv.same k⟩⟩
theorem off_keep {S : Addr → Bool} {H H' : Hp} {p : Addr} (k : L2.Same H H') (hp : H p = none) : L2.Same (offB H S) (offB H' (addS S p)) := fun b o e => by
  cases z : S b with
  | true =>
    unfold offB at e
    rw [z] at e
    cases e
  | false =>
    rw [offB_at z] at e
    have nb : b ≠ p := fun y => by
      rw [y, hp] at e
      cases e
    rw [offB_at (addS_no.mpr ⟨z, nb⟩)]
    exact k _ _ e
theorem dv_inn {K : PySem.W.Frag} {H : Hp} {t : Addr} {c : Str} (e : H t = some (.tup [.str "in", .str c])) (h : c.length ≤ 4) : Dv K H (.ref t) (innD c) :=
  .tup (SqT.of e) (.cons (.str _ (by rw [sizeLine_eq]; decide)) (.cons (.str _ (by rw [sizeLine_eq]; omega)) .nil))
def spBad (K : PySem.W.Frag) : Sp := fun vs H Q _ => ∃ (s0 pp : Addr) (l : List V) (n number : Nat) (S : Addr → Bool) (v0 v1 v2 : V) (us ms : List Str) (es : List Ev), vs = [.ref s0, .int (number : Nat), .ref pp] ∧ H s0 = some (.lst l) ∧ SrcV n l ∧ n + 10 ≤ 1000000 ∧ number < 3 ∧ S s0 = true ∧ Full S H ∧
  H pp = some (.lst [v0, v1, v2]) ∧ Bt2 K S H v0 (.tuple (strD us)) ∧ Bt2 K S H v1 (.list (es.map Ev.dat)) ∧ Bt2 K S H v2 (.list (strD ms)) ∧ (∀ x ∈ us, carB x = true) ∧ (∀ c, Ev.inn c ∈ es → carB c = true) ∧ (∀ m ∈ ms, sideB m = true) ∧ us.length + (arrs es).length ≤ 40 ∧ es.length ≤ 60 ∧ ms.length = es.length ∧
  ∀ (H' : Hp) (v : V) (d : PyData) (l' : List V) (n' : Nat), Ch s0 H H' → H' s0 = some (.lst l') → SrcV n' l' → n' ≤ n + 4 → Dv K (offB H' S) v d → RBad us es.length number d → Q v H'
theorem ok_bad {f fD : Addr} {fd fdD : FuncData} (F : Fun K "_law_bad" "_law_bad" sBad f fd) (B : Bi mg)
    (GD : FnOk P w K mg base CX0 1 fD fdD ["source", "limit"] spDraw) (mgD : mg "_law_draw" = some (.ref fD)) (kD : PySem.W.keepIn K (.ref fD) = true) (bD : Binds K fdD ["source", "limit"] []) : FnOk P w K mg base CX0 2 f fd ["source", "number", "parts"] (spBad K) := by
  refine F.ok scBad (fun vs H Q E h => ?_) (fun cdv A outer s H vs Q E hr h => ?_)
  · obtain ⟨s0, pp, l, n, number, S, v0, v1, v2, us, ms, es, rfl, _⟩ := h
    rfl
  · obtain ⟨s0, pp, l, n, number, S, v0, v1, v2, us, ms, es, rfl, hs, hl, hn, hnum, hS, hF, hp, b0, b1, b2, cu, ce, cm, hk, h60, hme, q⟩ := h
    have hu : A.units + 3 + 64 < cLine := hr.units
    have hr1 := hr
    have h40 : us.length ≤ 40 := by omega
    have hu3 := cu
    have hm3 : ∀ x ∈ ms, PyData.strOk x = true := fun x hx => by
      rcases side_of (cm x hx) with e | e <;> rw [e] <;> decide +kernel
    have hms : (∀ m ∈ ms, sideB m = true) ∧ ms.length ≤ 60 := ⟨cm, by omega⟩
    have hlu := lenS us
    have hlm := lenS ms
    have hle := lenE es
    have hA1 : ∀ i : Nat, ((strD us).take i).length + 1 ≤ 10000 := fun i => by rw [List.length_take]; omega
    have hA2 : ∀ (i : Nat) (z : PyData), ((strD us).take i ++ [z]).length + ((strD us).drop i).length ≤ 10000 := fun i z => by
      rw [List.length_append, List.length_take, List.length_drop]
      show _ + 1 + _ ≤ 10000
      omega
    have hA3 : ∀ _ : Unit, (strD us).length + 1 ≤ 10000 := fun _ => by omega
    have hA4 : ∀ _ : Unit, (strD us).length + 2 ≤ 10000 := fun _ => by omega
    have hA5 : ∀ _ : Unit, (strD us).length + ((strD us).take 1).length ≤ 10000 := fun _ => by rw [List.length_take]; omega
    have hB1 : ∀ (i : Nat) (_ : Unit), ((es.map Ev.dat).take i).length + 1 ≤ 10000 := fun i _ => by rw [List.length_take]; omega
    have hB2 : ∀ (i : Nat) (z : PyData) (_ : Unit), ((es.map Ev.dat).take i ++ [z]).length + ((es.map Ev.dat).drop i).length ≤ 10000 := fun i z _ => by
      rw [List.length_append, List.length_take, List.length_drop]
      show _ + 1 + _ ≤ 10000
      omega
    have hB3 : ∀ _ : Unit, (es.map Ev.dat).length + 41 ≤ 10000 := fun _ => by omega
    have hC1 : ∀ _ : Unit, (strD ms).length + 1 ≤ 10000 := fun _ => by omega
    refine ⟨_, (pss_cons (ps_asg (pv 2) (pg_lst (by rfl) (pgs_cons (pg_name (i := 3) scBad.nd rfl (.inl rfl)) (pgs_cons (pg_name (i := 4) scBad.nd rfl (.inl rfl)) (pgs_cons (pg_name (i := 5) scBad.nd rfl (.inl rfl)) pgs_nil)))))
      (pss_cons (ps_set (i := 6) scBad.nd rfl (.inl rfl) (pe_call GD hr1 (by rfl) mgD kD bD .nil pass0 (pa_cons (pv 0) (pa_cons (pe_op op_add (pe_callB call_len_seq (by rfl) B.len PySem.boot_len (pa_cons (pv 4) pa_nil)) pe_int) pa_nil))))
      (pss_cons (ps_if (pt_cmpR op_eq (pv 1) pe_int (nomark _))
      (pss_cons (ps_set (i := 7) scBad.nd rfl (.inl rfl) (pe_call GD hr1 (by rfl) mgD kD bD .nil pass0 (pa_cons (pv 0) (pa_cons (pe_op op_add (pe_callB call_len_seq (by rfl) B.len PySem.boot_len (pa_cons (pv 3) pa_nil)) pe_int) pa_nil))))
      (pss_any fun i : Nat => (pss_cons (ps_set (i := 8) scBad.nd rfl (.inl rfl) (b_lst (S := S) (Γ := [(3, .tuple (strD us)), (7, .int (i : Nat))]) (ds := m0a us i) (ba_cons b_non (ba_cons (b_listT (by rfl) B.lst (by decide +kernel) (b_var (pv 3) List.mem_cons_self)) (ba_cons (b_tcat (b_tcat (b_ttake (b_var (pv 3) List.mem_cons_self) (b_var (pv 7) (List.mem_cons_of_mem _ List.mem_cons_self))) (b_tup (ba_cons b_str ba_nil)) (hA1 _)) (b_tdrop (b_var (pv 3) List.mem_cons_self) (b_var (pv 7) (List.mem_cons_of_mem _ List.mem_cons_self))) (hA2 _ _)) (ba_cons b_str (ba_cons b_int (ba_cons (b_tcat (b_var (pv 3) List.mem_cons_self) (b_tup (ba_cons (b_tup (ba_cons b_str ba_nil)) ba_nil)) (hA3 ())) (ba_cons b_dic ba_nil))))))) (by exact rfl)))
      (pss_cons (ps_set (i := 8) scBad.nd rfl (.inl rfl) (b_cat (S := S) (Γ := [(3, .tuple (strD us)), (7, .int (i : Nat)), (8, .list (m0a us i))]) (ds := m0a us i) (es := m0b us i) (b_var (pv 8) (List.mem_cons_of_mem _ (List.mem_cons_of_mem _ List.mem_cons_self))) (b_lst (ds := m0b us i) (ba_cons (b_tcat (b_var (pv 3) List.mem_cons_self) (b_tup (ba_cons b_str (ba_cons b_str ba_nil))) (hA4 ())) (ba_cons (b_tcat (b_tcat (b_ttake (b_var (pv 3) List.mem_cons_self) (b_var (pv 7) (List.mem_cons_of_mem _ List.mem_cons_self))) (b_tup (ba_cons b_str ba_nil)) (hA1 _)) (b_tdrop (b_var (pv 3) List.mem_cons_self) (b_var (pv 7) (List.mem_cons_of_mem _ List.mem_cons_self))) (hA2 _ _)) ba_nil)) (by exact rfl)) (by exact Nat.le_of_ble_eq_true rfl)))
      (pss_one (ps_ret (b_pickE (n := 12) (S := S) (Γ := [(3, .tuple (strD us)), (8, .list (m0a us i ++ m0b us i))]) (ds := (m0a us i ++ m0b us i) ++ m0c us) (b_cat (es := m0c us) (b_var (pv 8) (List.mem_cons_of_mem _ List.mem_cons_self)) (b_rep (n := 3) (ds := [m0x us]) (b_lst (ds := [m0x us]) (ba_cons (b_ifT (decide (us ≠ [])) (pt_cmpR (op_neD hu) (pv 3) (pe_tup pa_nil) (nomark _)) (b_tcat (b_var (pv 3) List.mem_cons_self) (b_ttake (n := 1) (b_var (pv 3) List.mem_cons_self) b_int) (hA5 ())) (b_tup (ba_cons b_str ba_nil)) (cond3 us hu3)) ba_nil)) b_int (by show 1 * 3 ≤ 10000; decide) (by decide)) (by exact Nat.le_of_ble_eq_true rfl)) (pe_call GD hr1 (by rfl) mgD kD bD .nil pass0 (pa_cons (pv 0) (pa_cons pe_int pa_nil))) rfl (by decide) (by decide) (fun hte hti => pe_ix ix_list hte hti (fun _ _ => rfl)))))))))
      pss_nil)
      (pss_cons (ps_if (pt_cmpR op_eq (pv 1) pe_int (nomark _))
      (pss_cons (ps_set (i := 9) scBad.nd rfl (.inl rfl) (b_pickL (n := 8) (S := S) (Γ := []) (ds := menE) (ba2_cons b_non (ba2_cons (b_tup (ba_cons b_str (ba_cons b_int ba_nil))) (ba2_cons (b_tup (ba_cons b_str (ba_cons b_str ba_nil))) (ba2_cons (b_tup (ba_cons b_str ba_nil)) (ba2_cons (b_lst (ba_cons b_str ba_nil)) (ba2_cons (b_tup (ba_cons b_str ba_nil)) (ba2_cons b_str (ba2_cons (b_tup (ba_cons b_str (ba_cons b_non ba_nil))) ba2_nil)))))))) (pe_call GD hr1 (by rfl) mgD kD bD .nil pass0 (pa_cons (pv 0) (pa_cons pe_int pa_nil))) rfl (by decide) (by decide) (fun hte hti => pe_ix ix_list hte hti (fun _ _ => rfl))))
      (pss_cons (ps_set (i := 10) scBad.nd rfl (.inl rfl) (pe_op op_cat (pe_op op_cat (pe_lc (own := [("name", 12)]) (g := gName 12) (tt := tYes) (te := tTup (tCons (tC (.str "in")) (tCons (tVar 12) tNil))) (by rfl) scBad.nd (pi_tup (pv 3)) (blkOk_by (own := [("name", 12)]) (N := ["source", "number", "parts", "initial", "happened", "moves", "spot", "at", "some", "odd", "known", "bent", "name", "event"]) (sc := defScope sBad) (by decide +kernel)) (fun _ _ _ _ _ => pg_name (i := 12) scBad.nd rfl (Or.inl rfl)) (fun _ _ _ _ _ => pts_nil) (fun _ _ _ _ _ => pe_tup (pa_cons pe_str (pa_cons (pv 12) pa_nil)))) (pe_lc (own := [("event", 13)]) (g := gName 13) (tt := tTest (tOp rEq (tOp (rIxT K) (tVar 13) (tC (.int 0))) (tC (.str "in")))) (te := tVar 13) (by rfl) scBad.nd (pi_list (pv 4)) (blkOk_by (own := [("event", 13)]) (N := ["source", "number", "parts", "initial", "happened", "moves", "spot", "at", "some", "odd", "known", "bent", "name", "event"]) (sc := defScope sBad) (by decide +kernel)) (fun _ _ _ _ _ => pg_name (i := 13) scBad.nd rfl (Or.inl rfl)) (fun _ _ _ _ _ => pts_one (pt_cmpR op_eq (pe_ix ix_tup (pv 13) pe_int (fun _ _ => rfl)) pe_str (nomark _))) (fun _ _ _ _ _ => pv 13))) (pe_lst (pa_cons (pv 9) pa_nil))))
      (pss_any fun od : PyData => pss_any fun spot : Nat => (pss_cons (ps_set (i := 8) scBad.nd rfl (.inl rfl) (pe_lst (pa_cons (b_cat (S := S) (Γ := [(4, .list (es.map Ev.dat)), (6, .int (spot : Nat)), (9, od), (10, .list (knownD us es od))]) (b_cat (b_ltake (b_var (pv 4) List.mem_cons_self) (b_var (pv 6) (List.mem_cons_of_mem _ List.mem_cons_self))) (b_lst (ba_cons (b_var (pv 9) (List.mem_cons_of_mem _ (List.mem_cons_of_mem _ List.mem_cons_self))) ba_nil)) (hB1 _ ())) (b_ldrop (b_var (pv 4) List.mem_cons_self) (b_var (pv 6) (List.mem_cons_of_mem _ List.mem_cons_self))) (hB2 _ _ ())) (pa_cons (pe_op op_cat (b_var (S := S) (Γ := [(4, .list (es.map Ev.dat)), (6, .int (spot : Nat)), (9, od), (10, .list (knownD us es od))]) (d := .list (es.map Ev.dat)) (pv 4) List.mem_cons_self) (pe_lst (pa_cons (b_pick (S := S) (s0 := s0) (Γ := [(4, .list (es.map Ev.dat)), (6, .int (spot : Nat)), (9, od), (10, .list (knownD us es od))]) (ib := 0) (im := 10) (ds := knownD us es od) (pe_ix ix_list (pv 10) (pe_call GD hr1 (by rfl) mgD kD bD .nil pass0 (pa_cons (pv 0) (pa_cons (pe_callB call_len_seq (by rfl) B.len PySem.boot_len (pa_cons (pv 10) pa_nil)) pa_nil))) (fun _ _ => rfl)) (List.mem_cons_of_mem _ (List.mem_cons_of_mem _ (List.mem_cons_of_mem _ List.mem_cons_self))) hS) pa_nil))) pa_nil))))
      (pss_any fun x : PyData => (pss_cons (ps_set (i := 8) scBad.nd rfl (.inl rfl) (b_cat (S := S) (Γ := [(4, .list (es.map Ev.dat)), (8, .list [.list ((es.map Ev.dat).take spot ++ [od] ++ (es.map Ev.dat).drop spot), .list (es.map Ev.dat ++ [x])])]) (b_var (pv 8) (List.mem_cons_of_mem _ List.mem_cons_self)) (b_lst (ds := [.none, .tuple (es.map Ev.dat), .str "out", .list (es.map Ev.dat ++ (List.replicate 41 [outD]).flatten)]) (ba_cons b_non (ba_cons (b_tupL (by rfl) B.tup (by decide +kernel) (b_var (pv 4) List.mem_cons_self)) (ba_cons b_str (ba_cons (b_cat (es := (List.replicate 41 [outD]).flatten) (b_var (pv 4) List.mem_cons_self) (b_rep (n := 41) (ds := [outD]) (b_lst (ba_cons (b_tup (ba_cons b_str ba_nil)) ba_nil)) b_int (by decide) (by decide)) (hB3 ())) ba_nil)))) (by exact rfl)) (by exact Nat.le_of_ble_eq_true rfl)))
      (pss_one (ps_ret (pe_ix ix_list (pv 8) (b_pickL (n := 9) (S := S) (Γ := []) (ds := [.int 0, .int 0, .int 1, .int 1, .int 1, .int 2, .int 3, .int 4, .int 5]) (ba2_cons b_int (ba2_cons b_int (ba2_cons b_int (ba2_cons b_int (ba2_cons b_int (ba2_cons b_int (ba2_cons b_int (ba2_cons b_int (ba2_cons b_int ba2_nil))))))))) (pe_call GD hr1 (by rfl) mgD kD bD .nil pass0 (pa_cons (pv 0) (pa_cons pe_int pa_nil))) rfl (by decide) (by decide) (fun hte hti => pe_ix ix_list hte hti (fun _ _ => rfl))) (fun _ _ => rfl))))))))))
      pss_nil)
      (pss_cons (ps_set (i := 9) scBad.nd rfl (.inl rfl) (b_pickL (n := 8) (S := S) (Γ := []) (ds := menS) (ba2_cons b_non (ba2_cons b_str (ba2_cons b_str (ba2_cons b_str (ba2_cons b_int (ba2_cons b_bl (ba2_cons (b_lst (ba_cons b_str ba_nil)) (ba2_cons b_str ba2_nil)))))))) (pe_call GD hr1 (by rfl) mgD kD bD .nil pass0 (pa_cons (pv 0) (pa_cons pe_int pa_nil))) rfl (by decide) (by decide) (fun hte hti => pe_ix ix_list hte hti (fun _ _ => rfl))))
      (pss_cons (ps_set (i := 11) scBad.nd rfl (.inl rfl) (pe_any fun od : PyData => pe_imp (t' := tBent K S ms od) (pe_ifExp (pt_cmpR (op_neD hu) (pv 5) (pe_lst pa_nil) (nomark _)) (pe_callTy call_list_of (by rfl) B.lst (by decide +kernel) (pa_cons (pv 5) pa_nil)) (pe_lst (pa_cons (pv 9) pa_nil))) (fun σ H Q h => by
        obtain ⟨hF, en, q⟩ := h
        obtain ⟨v, ev, bv⟩ := en _ List.mem_cons_self
        obtain ⟨w9, ew, bw⟩ := en _ (List.mem_cons_of_mem _ List.mem_cons_self)
        refine cond5 ms hm3 (Γ := [(9, od)]) σ H _ hF en fun H3 k3 => ?_
        obtain ⟨a, xs, rfl, hL, hA⟩ := dvL (bv.same k3).dv
        by_cases hm : ms = []
        · rw [decide_eq_false (fun z => z hm)]
          refine ⟨w9, ew, by show 1 ≤ sizeLine; decide, fun p hp => q H3 p _ k3 hp ?_⟩
          rw [if_pos hm]
          exact .cons (bw.same k3).dv .nil
        · rw [decide_eq_true hm]
          refine ⟨.ref a, ev, a, xs, rfl, .inl (sqL_sub hL offB_sub), fun p hp => q H3 p _ k3 hp ?_⟩
          rw [if_neg hm]
          exact hA)))
      (pss_cons (ps_asg (pv 9) (pg_sub (pv 11) (pe_call GD hr1 (by rfl) mgD kD bD .nil pass0 (pa_cons (pv 0) (pa_cons (pe_callB call_len_seq (by rfl) B.len PySem.boot_len (pa_cons (pv 11) pa_nil)) pa_nil))) set_list))
      (pss_any fun T : Addr → Bool => (pss_cons (ps_set (i := 8) scBad.nd rfl (.inl rfl) (b_lst (S := T) (Γ := [(5, .list (strD ms))]) (ds := m2a ms) (ba_cons b_non (ba_cons (b_tupL (by rfl) B.tup (by decide +kernel) (b_var (pv 5) List.mem_cons_self)) (ba_cons (b_cat (b_var (pv 5) List.mem_cons_self) (b_lst (ba_cons b_str ba_nil)) (hC1 ())) (ba_cons (pe_imp (pe_join pe_str (pv 5)) (join5 ms hms)) (ba_cons (b_ifT (decide (ms ≠ [])) (pt_cmpR (op_neD hu) (pv 5) (pe_lst pa_nil) (nomark _)) (b_linit (b_var (pv 5) List.mem_cons_self) (b_of (pe_un un_neg pe_int) fun _ _ _ q => ⟨1, rfl, q⟩)) (b_lst (ba_cons b_str ba_nil)) (cond5 ms hm3)) ba_nil))))) (by exact rfl)))
      (pss_any fun bs : List PyData => (pss_one (ps_ret (b_pickE (n := 10) (S := S) (Γ := [(8, .list (m2a ms)), (11, .list bs)]) (ds := m2a ms ++ (List.replicate 5 [.list bs]).flatten) (b_cat (es := (List.replicate 5 [.list bs]).flatten) (b_var (pv 8) List.mem_cons_self) (b_rep (n := 5) (ds := [.list bs]) (b_lst (ba_cons (b_var (pv 11) (List.mem_cons_of_mem _ List.mem_cons_self)) ba_nil)) b_int (by show 1 * 5 ≤ 10000; decide) (by decide)) (by exact Nat.le_of_ble_eq_true rfl)) (pe_call GD hr1 (by rfl) mgD kD bD .nil pass0 (pa_cons (pv 0) (pa_cons pe_int pa_nil))) rfl (by decide) (by decide) (fun hte hti => pe_ix ix_list hte hti (fun _ _ => rfl))))))))))))))), ?_⟩
    obtain ⟨a1, xs1, rfl, h1, n1, c1⟩ := b1.ls _ rfl
    obtain ⟨a2, xs2, rfl, h2, n2, c2⟩ := b2.ls _ rfl
    obtain ⟨a0, xs0, rfl, t0, c0⟩ := dvT b0.dv
    have l1 : xs1.length = es.length := by rw [c1.len, hle]
    have l0 : xs0.length = us.length := by rw [c0.len, hlu]
    refine ⟨.ref pp, rfl, pp, _, rfl, SqL.of hp, rfl, .ref a0, _, rfl, .ref a1, _, rfl, .ref a2, _, rfl, rfl, ?_⟩
    refine ⟨.ref s0, rfl, .ref a1, rfl, a1, xs1, rfl, .inl (SqL.of h1), _, _, rfl, rfl, s0, l, n, _, rfl, hs, hl, by omega, by omega, by omega, fun l2 r hl2 r0 r1 => ?_⟩
    obtain ⟨spot, rfl⟩ : ∃ j : Nat, r = (j : Int) := ⟨r.toNat, by omega⟩
    have ch1 : Ch s0 H (upd H s0 (.lst l2)) := Ch.src
    have hs1 : (upd H s0 (.lst l2)) s0 = some (.lst l2) := upd_same
    generalize upd H s0 (.lst l2) = H1 at ch1 hs1 ⊢
    have hF1 := full_ch hF ch1 hs1
    have b0 := b0.ch ch1 hS
    have b1 := b1.ch ch1 hS
    have b2 := b2.ch ch1 hS
    have T0 := ch1.seqT (sqT_sub t0 offB_sub) hs
    obtain rfl | rfl | rfl : number = 0 ∨ number = 1 ∨ number = 2 := by omega
    · refine ⟨.int 0, rfl, rfl, true, congrArg V.bl (decide_eq_true rfl), ?_⟩
      refine iteT ⟨.ref s0, rfl, .ref a0, rfl, a0, xs0, rfl, .inr T0, _, _, rfl, rfl, s0, l2, n + 1, _, rfl, hs1, hl2, by omega, by omega, by omega, fun l3 r3 hl3 r30 r31 => ?_⟩
      obtain ⟨i, rfl⟩ : ∃ j : Nat, r3 = (j : Int) := ⟨r3.toNat, by omega⟩
      have ch2 : Ch s0 H1 (upd H1 s0 (.lst l3)) := Ch.src
      have hs2 : (upd H1 s0 (.lst l3)) s0 = some (.lst l3) := upd_same
      generalize upd H1 s0 (.lst l3) = H2 at ch2 hs2 ⊢
      have hF2 := full_ch hF1 ch2 hs2
      have b0 := b0.ch ch2 hS
      have bi : ∀ Hx, Bt2 K S Hx (.int (i : Nat)) (.int (i : Nat)) := fun Hx => .of (.int _) fun _ z => nomatch z
      refine ⟨i, hF2, .cons rfl b0 (.cons rfl (bi _) .nil), fun H3 v3 k3 d3 => ⟨hF2.same k3, .cons rfl (b0.same k3) (.cons rfl (bi _) (.cons rfl d3 .nil)), fun H4 v4 k4 d4 => ?_⟩⟩
      refine ⟨s0, l3, n + 2, rfl, k4 _ _ (k3 _ _ hs2), hl3, by omega, hS, (hF2.same k3).same k4, .cons rfl ((b0.same k3).same k4) (.cons rfl d4 .nil), fun H' v d l' ch e' sl hm dv => ?_⟩
      exact q H' v d l' _ ((((ch1.trans ch2).sm k3).sm k4).trans ch) e' sl (by omega) dv (fact0 cu h40 hm)
    · refine ⟨.int 1, rfl, rfl, false, congrArg V.bl (decide_eq_false (fun z => by injection z with z; exact absurd z (by decide))), ?_⟩
      refine iteF ⟨.int 1, rfl, rfl, true, congrArg V.bl (decide_eq_true rfl), ?_⟩
      refine iteT ⟨s0, l2, n + 1, rfl, hs1, hl2, by omega, hS, hF1, .nil, fun H2 vod od l3 ch2 hs2 hl3 hod bod => ?_⟩
      have hF2 := full_ch hF1 ch2 hs2
      have b0 := b0.ch ch2 hS
      have b1 := b1.ch ch2 hS
      have T0 := ch2.seqT T0 hs1
      have hA : ∀ c ∈ arrs es, carB c = true := fun c hc => ce c (arrs_mem hc)
      obtain ⟨rfl, _, _⟩ := DvAll.strs c0 (strs_map us)
      have c1 : DvAll K (offB H1 S) xs1 (es.map Ev.dat) := c1.same (offB_ch ch1 hS)
      have c1 : DvAll K (offB H2 S) xs1 (es.map Ev.dat) := c1.same (offB_ch ch2 hS)
      have na1 : a1 ≠ s0 := fun z => by rw [z, hS] at n1; cases n1
      have h1 := ch2 _ _ (ch1 _ _ h1 na1) na1
      -- ("in", name) for the names
      refine ⟨.ref a0, rfl, a0, rfl, ⟨_, T0⟩, fun D1 nD1 => ?_⟩
      refine lc_tup (K := K) (a := a0) (xs := us.map V.str) (fun i H' => L2.Same H2 H' ∧ ∃ ys, H' D1 = some (.lst ys) ∧ DvAll K (offB H' (addS S D1)) ys ((us.take i).map innD)) ⟨sm_new sm_refl nD1, [], upd_same, .nil⟩ (fun i H' _ q => sqT_sub T0 q.1) ?_ ?_
      · rintro i y H' hy ⟨k, ys, hd, dv⟩
        rw [List.getElem?_map] at hy
        obtain ⟨c, hc, rfl⟩ := Option.map_eq_some_iff.mp hy
        have hi : i < us.length := (List.getElem?_eq_some_iff.mp hc).1
        refine ⟨rfl, ?_⟩
        refine ⟨.str c, rfl, by show 2 ≤ sizeLine; decide, fun t nt => ?_⟩
        have kt : L2.Same H' (upd H' t (.tup [.str "in", .str c])) := sm_new sm_refl nt
        have et : (upd H' t (.tup [.str "in", .str c])) t = some (.tup [.str "in", .str c]) := upd_same
        have St : S t = false := (hF2.same k).out nt
        have nDt : t ≠ D1 := fun z => by rw [z, hd] at nt; cases nt
        generalize upd H' t (.tup [.str "in", .str c]) = H3 at kt et ⊢
        refine ⟨ys, kt _ _ hd, by rw [dv.len, List.length_map, List.length_take]; exact small1000 (by omega), sm_upd (sm_trans k kt) nD1, _, upd_same, ?_⟩
        have e : (us.take (i + 1)).map innD = (us.take i).map innD ++ [innD c] := by rw [List.take_add_one, hc, List.map_append]; rfl
        rw [e]
        have oD : L2.Same (offB H3 (addS S D1)) (offB (upd H3 D1 (.lst (ys ++ [.ref t]))) (addS S D1)) := off_mv (fun b o e z => by rw [upd_ne (addS_no.mp z).2]; exact e) fun _ h => h
        exact (DvAll.app (dv.same (offB_sm kt)) (.cons (dv_inn (by rw [offB_at (addS_no.mpr ⟨St, nDt⟩)]; exact et) (carLen (cu c (List.mem_of_getElem? hc)))) .nil)).same oD
      · rintro H3 ⟨k3, ys1, hd1, dv1⟩
        have dv1 : DvAll K (offB H3 S) ys1 (us.map innD) := by
          rw [List.length_map, List.take_length] at dv1
          exact dv1.same (off_mv (fun b o e _ => e) fun b e => by unfold addS; rw [e]; rfl)
        have hF3 := hF2.same k3
        have c3 := c1.same (offB_sm (S := S) k3)
        -- the arrivals
        refine ⟨.ref a1, rfl, a1, rfl, ⟨_, SqL.of (k3 _ _ h1)⟩, fun D2 nD2 => ?_⟩
        refine lc_list (K := K) (a := a1) (xs := xs1) (fun i H' => L2.Same H3 H' ∧ ∃ ys, H' D2 = some (.lst ys) ∧ DvAll K (offB H' (addS S D2)) ys ((arrs (es.take i)).map innD)) ⟨sm_new sm_refl nD2, [], upd_same, .nil⟩ (fun i H' _ q => SqL.of (q.1 _ _ (k3 _ _ h1))) ?_ ?_
        · rintro i y H' hy ⟨k, ys, hd, dv⟩
          have hi : i < es.length := by
            have := (List.getElem?_eq_some_iff.mp hy).1
            omega
          have he : es[i]? = some (es[i]'hi) := List.getElem?_eq_getElem hi
          have htk : es.take (i + 1) = es.take i ++ [es[i]'hi] := by rw [List.take_add_one, he]; rfl
          obtain ⟨y2, hy2, dy⟩ := (c3.same (offB_sm (S := S) k)).at_ (show (es.map Ev.dat)[i]? = some (Ev.dat (es[i]'hi)) by rw [List.getElem?_map, he]; rfl)
          rw [hy] at hy2
          cases hy2
          have dy2 : Dv K (offB H' (addS S D2)) y (Ev.dat (es[i]'hi)) := ((c3.at_ (show (es.map Ev.dat)[i]? = some (Ev.dat (es[i]'hi)) by rw [List.getElem?_map, he]; rfl)).elim fun z h => by
            have : z = y := by
              have h1 := h.1
              rw [hy] at h1
              exact (Option.some.inj h1).symm
            rw [this] at h
            exact h.2.same (off_keep k nD2))
          have hlen : (arrs (es.take i)).length ≤ 60 := by
            have := arrs_len (es.take i)
            rw [List.length_take] at this
            omega
          generalize es[i]'hi = ev at dy dy2 htk
          cases ev with
          | inn c =>
            obtain ⟨t, xs, rfl, hT, hA⟩ := dvT (show Dv K (offB H' S) y (.tuple [.str "in", .str c]) from dy)
            obtain ⟨rfl, _, _⟩ := DvAll.strs hA (xs := ["in", c]) rfl
            refine ⟨rfl, ?_⟩
            refine ⟨.ref t, rfl, t, _, 0, .str "in", rfl, rfl, sqT_sub hT offB_sub, rfl, rfl, true, congrArg V.bl (decide_eq_true rfl), ?_⟩
            refine iteT ⟨.ref t, rfl, ys, hd, by rw [dv.len, List.length_map]; exact small1000 (by omega), sm_upd k nD2, _, upd_same, ?_⟩
            have e : (arrs (es.take (i + 1))).map innD = (arrs (es.take i)).map innD ++ [innD c] := by rw [htk, arrs_app, List.map_append]; rfl
            rw [e]
            have oD : L2.Same (offB H' (addS S D2)) (offB (upd H' D2 (.lst (ys ++ [.ref t]))) (addS S D2)) := off_mv (fun b o e z => by rw [upd_ne (addS_no.mp z).2]; exact e) fun _ h => h
            exact (DvAll.app dv (.cons dy2 .nil)).same oD
          | out =>
            obtain ⟨t, xs, rfl, hT, hA⟩ := dvT (show Dv K (offB H' S) y (.tuple [.str "out"]) from dy)
            obtain ⟨rfl, _, _⟩ := DvAll.strs hA (xs := ["out"]) rfl
            refine ⟨rfl, ?_⟩
            refine ⟨.ref t, rfl, t, _, 0, .str "out", rfl, rfl, sqT_sub hT offB_sub, rfl, rfl, false, congrArg V.bl (decide_eq_false fun z => by injection z with z; exact absurd z (by decide +kernel)), ?_⟩
            refine iteF ⟨k, ys, hd, ?_⟩
            rw [htk, arrs_app]
            show DvAll K (offB H' (addS S D2)) ys (((arrs (es.take i)) ++ []).map innD)
            rw [List.append_nil]
            exact dv
        · rintro H4 ⟨k4, ys2, hd2, dv2⟩
          have dv2 : DvAll K (offB H4 S) ys2 ((arrs es).map innD) := by
            rw [l1, List.take_length] at dv2
            exact dv2.same (off_mv (fun b o e _ => e) fun b e => by unfold addS; rw [e]; rfl)
          have hF4 := hF3.same k4
          have len1 := dv1.len
          have len2 := dv2.len
          rw [List.length_map] at len1 len2
          refine ⟨D1, D2, ys1, ys2, rfl, rfl, k4 _ _ hd1, hd2, by rw [len1, len2, sizeLine_eq]; omega, fun m1 nm1 => ?_⟩
          have z1 := btN hF4 nm1 (DvAll.app (dv1.same (offB_sm k4)) dv2)
          have em1 : (upd H4 m1 (.lst (ys1 ++ ys2))) m1 = some (.lst (ys1 ++ ys2)) := upd_same
          generalize upd H4 m1 (.lst (ys1 ++ ys2)) = H5 at z1 em1 ⊢
          have k25 := sm_trans (sm_trans k3 k4) z1.1
          refine ⟨vod, rfl, by show 1 ≤ sizeLine; decide, fun m2 nm2 => ?_⟩
          have z2 := btN (hF4.same z1.1) nm2 (.cons (bod.same k25).dv .nil)
          have em2 : (upd H5 m2 (.lst [vod])) m2 = some (.lst [vod]) := upd_same
          generalize upd H5 m2 (.lst [vod]) = H6 at z2 em2 ⊢
          refine ⟨m1, m2, _, _, rfl, rfl, z2.1 _ _ em1, em2, by rw [List.length_append, len1, len2, sizeLine_eq]; show _ + 1 ≤ _; omega, fun m3 nm3 => ?_⟩
          obtain ⟨_, xm1, e1, em1', _, cm1⟩ := (z1.2.same z2.1).ls _ rfl
          cases e1
          have exm : xm1 = ys1 ++ ys2 := by
            rw [z2.1 _ _ em1] at em1'
            cases em1'
            rfl
          subst exm
          have hF6 := (hF4.same z1.1).same z2.1
          have z3 := btN (p := m3) hF6 nm3 (DvAll.app cm1 (.cons ((bod.same k25).same z2.1).dv .nil))
          generalize upd H6 m3 (.lst (ys1 ++ ys2 ++ [vod])) = H7 at z3 ⊢
          have k27 := sm_trans (sm_trans k25 z2.1) z3.1
          have bkn : Bt2 K S H7 (.ref m3) (.list (knownD us es od)) := z3.2
          have hF7 := hF2.same k27
          have hs7 := k27 _ _ hs2
          have bi : ∀ Hx, Bt2 K S Hx (.int (spot : Nat)) (.int (spot : Nat)) := fun Hx => .of (.int _) fun _ z => nomatch z
          have en : ∀ {σ : L2.St} (Hx), σ[4]? = some (some (.ref a1)) → σ[6]? = some (some (.int (spot : Nat))) → σ[9]? = some (some vod) → σ[10]? = some (some (.ref m3)) → L2.Same H7 Hx → EnvB K S [(4, .list (es.map Ev.dat)), (6, .int (spot : Nat)), (9, od), (10, .list (knownD us es od))] σ Hx := fun Hx s1 s2 s3 s4 kx => .cons s1 ((b1.same k27).same kx) (.cons s2 (bi _) (.cons s3 ((bod.same k27).same kx) (.cons s4 (bkn.same kx) .nil)))
          refine ⟨od, spot, ⟨hF7, en _ rfl rfl rfl rfl sm_refl, fun H8 vA k8 dA => ⟨hF7.same k8, en _ rfl rfl rfl rfl k8, fun H9 v9 k9 d9 => ?_⟩⟩⟩
          refine ⟨l3, n + 2, rfl, k9 _ _ (k8 _ _ hs7), hl3, by omega, en _ rfl rfl rfl rfl (sm_trans k8 k9), ?_, ?_, fun H10 vx x l4 ch10 hs10 hl4 hx dvx => ?_⟩
          · unfold knownD
            rw [List.length_append]
            show 0 < _ + 1
            omega
          · unfold knownD
            rw [List.length_append, List.length_append, List.length_map, List.length_map]
            show _ + 1 ≤ 1000
            omega
          have c80 := k9 _ _ (k8 _ _ hs7)
          have hF9 := (hF7.same k8).same k9
          have hF10 := full_ch hF9 ch10 hs10
          have dA := (dA.same k9).ch ch10 hS
          obtain ⟨a5, xs5, rfl, h5, n5, c5⟩ := (d9.ch ch10 hS).ls _ rfl
          refine ⟨by show 1 ≤ sizeLine; decide, fun z0 nz0 => ?_⟩
          have y1 := btN hF10 nz0 (.cons dvx .nil)
          have ez0 : (upd H10 z0 (.lst [vx])) z0 = some (.lst [vx]) := upd_same
          generalize upd H10 z0 (.lst [vx]) = H11 at y1 ez0 ⊢
          have l5 : xs5.length = es.length := by rw [c5.len, hle]
          refine ⟨a5, z0, xs5, [vx], rfl, rfl, y1.1 _ _ h5, ez0, by rw [l5, sizeLine_eq]; show _ + 1 ≤ _; omega, fun m4 nm4 => ?_⟩
          have hF11 := hF10.same y1.1
          have y2 := btN hF11 nm4 (DvAll.app (c5.same (offB_sm y1.1)) (.cons (dvx.same (offB_sm y1.1)) .nil))
          generalize upd H11 m4 (.lst (xs5 ++ [vx])) = H12 at y2 ⊢
          have k12 := sm_trans y1.1 y2.1
          refine ⟨by show 2 ≤ sizeLine; decide, fun m5 nm5 => ?_⟩
          have y3 := btN (hF10.same k12) nm5 (.cons (dA.same k12).dv (.cons y2.2.dv .nil))
          generalize upd H12 m5 (.lst [vA, .ref m4]) = H13 at y3 ⊢
          have k13 := sm_trans k12 y3.1
          have b1f := ((((b1.same k27).same k8).same k9).ch ch10 hS).same k13
          have hF13 := hF10.same k13
          refine ⟨x, hF13, .cons rfl b1f (.cons rfl y3.2 .nil), fun H14 v7 k14 d7 => ?_⟩
          have hs14 := k14 _ _ (k13 _ _ hs10)
          obtain ⟨a7, xs7, rfl, h7, n7, c7⟩ := d7.ls _ rfl
          refine ⟨.ref a7, rfl, s0, l4, n + 3, rfl, hs14, hl4, by omega, hS, hF13.same k14, .nil, fun H15 vj dj l5 ch15 hs15 hl5 hj bj => ?_⟩
          have na7 : a7 ≠ s0 := fun z => by rw [z, hS] at n7; cases n7
          obtain ⟨j, hj6, rfl⟩ : ∃ j : Nat, j < 6 ∧ dj = .int (j : Nat) := by
            simp only [List.mem_cons, List.not_mem_nil, or_false] at hj
            rcases hj with rfl | rfl | rfl | rfl | rfl | rfl | rfl | rfl | rfl
            · exact ⟨0, by decide, rfl⟩
            · exact ⟨0, by decide, rfl⟩
            · exact ⟨1, by decide, rfl⟩
            · exact ⟨1, by decide, rfl⟩
            · exact ⟨1, by decide, rfl⟩
            · exact ⟨2, by decide, rfl⟩
            · exact ⟨3, by decide, rfl⟩
            · exact ⟨4, by decide, rfl⟩
            · exact ⟨5, by decide, rfl⟩
          obtain rfl := dvI bj.dv
          have hj7 : j < (Ln.m1 us es spot od x).length := hj6
          obtain ⟨u, hu7, du⟩ := DvAll.at_ (ds := Ln.m1 us es spot od x) c7 (List.getElem?_eq_getElem hj7)
          refine ⟨a7, xs7, (j : Nat), u, rfl, rfl, SqL.of (ch15 _ _ h7 na7), atI_nat hu7, ?_⟩
          exact q H15 u _ l5 (n + 3 + 1) ((((((((ch1.trans ch2).sm k27).sm k8).sm k9).trans ch10).sm k13).sm k14).trans ch15) hs15 hl5 (by omega) (du.same (offB_ch ch15 hS)) (fact1 cu ce hA h60 hk hod hx (List.getElem_mem hj7))
    · refine ⟨.int 2, rfl, rfl, false, congrArg V.bl (decide_eq_false (fun z => by injection z with z; exact absurd z (by decide))), ?_⟩
      refine iteF ⟨.int 2, rfl, rfl, false, congrArg V.bl (decide_eq_false (fun z => by injection z with z; exact absurd z (by decide))), ?_⟩
      refine iteF ⟨s0, l2, n + 1, rfl, hs1, hl2, by omega, hS, hF1, .nil, fun H2 vod od l3 ch2 hs2 hl3 hod bod => ?_⟩
      have hF2 := full_ch hF1 ch2 hs2
      have b2 := b2.ch ch2 hS
      refine ⟨od, hF2, .cons rfl b2 (.cons rfl bod .nil), fun H3 p ys k3 hp3 dv3 => ?_⟩
      have hlen : ys.length = (if ms = [] then [od] else strD ms).length := dv3.len
      have hpos : 0 < ys.length ∧ ys.length ≤ 60 := by
        rw [hlen]
        split
        · exact ⟨by show 0 < 1; decide, by show 1 ≤ 60; decide⟩
        · rename_i hm
          rw [hlm]
          exact ⟨List.length_pos_iff.mpr hm, hms.2⟩
      have hs3 := k3 _ _ hs2
      have nps : p ≠ s0 := fun z => by rw [z, hs3] at hp3; cases hp3
      have nSp : S p = false := (hF2.same k3).out hp3
      refine ⟨vod, rfl, .ref p, rfl, .ref s0, rfl, .ref p, rfl, p, ys, rfl, .inl (SqL.of upd_same), s0, l3, n + 2, _, rfl, by rw [upd_ne (Ne.symm nps)]; exact hs3, hl3, by omega, by omega, by omega, fun l4 r hl4 r0 r1 => ?_⟩
      obtain ⟨j, rfl⟩ : ∃ j : Nat, r = (j : Int) := ⟨r.toNat, by omega⟩
      have hj : j < ys.length := by omega
      refine ⟨p, ys, _, j, rfl, rfl, by rw [upd_ne nps, upd_same], ixN_nat8 hj, ?_⟩
      obtain ⟨H4, e4⟩ : ∃ H4, H4 = upd (upd (upd H3 p (.lst ys)) s0 (.lst l4)) p (.lst (ys.set j vod)) := ⟨_, rfl⟩
      rw [← e4]
      have ep : H4 p = some (.lst (ys.set j vod)) := by rw [e4, upd_same]
      have es4 : H4 s0 = some (.lst l4) := by rw [e4, upd_ne (Ne.symm nps), upd_same]
      have k34 : ∀ b o, H3 b = some o → b ≠ s0 → H4 b = some o := fun b o e nb => by
        have np : b ≠ p := fun z => by rw [z, hp3] at e; cases e
        rw [e4, upd_ne np, upd_ne nb, upd_ne np]
        exact e
      have hFT : Full (addS S p) H4 := fun b hb z => by
        by_cases q1 : b = p
        · rw [q1, ep] at z
          cases z
        · by_cases q2 : b = s0
          · rw [q2, es4] at z
            cases z
          · have hb' : S b = true := by
              cases y : S b with
              | true => rfl
              | false => rw [addS_no.mpr ⟨y, q1⟩] at hb; cases hb
            cases y : H3 b with
            | none => exact (hF2.same k3) b hb' y
            | some o =>
              rw [k34 b o y q2] at z
              cases z
      refine ⟨addS S p, hFT, .cons rfl ((b2.same k3).grow hp3 hS k34) .nil, fun H5 v5 k5 d5 => ?_⟩
      have hch : Ch s0 H H5 := (((ch1.trans ch2).sm k3).trans k34).sm k5
      have es5 := k5 _ _ es4
      have ep5 := k5 _ _ ep
      have hF5 : Full S H5 := full_ch hF hch es5
      have o35 : L2.Same (offB H3 S) (offB H5 S) := fun b o e => by
        cases z : S b with
        | true =>
          unfold offB at e
          rw [z] at e
          cases e
        | false =>
          rw [offB_at z] at e ⊢
          exact k5 _ _ (k34 b o e fun y => by rw [y, hS] at z; cases z)
      have dv5 : DvAll K (offB H5 S) (ys.set j vod) (bentD ms od j) := dv_set (dv3.same o35) ((bod.same k3).dv.same o35) j
      have bb : Bt2 K S H5 (.ref p) (.list (bentD ms od j)) := ⟨.lst (SqL.of (by rw [offB_at nSp]; exact ep5)) dv5, fun es e => by cases e; exact ⟨p, _, rfl, ep5, nSp, dv5⟩⟩
      refine ⟨bentD ms od j, s0, l4, n + 3, rfl, es5, hl4, by omega, hS, hF5, .cons rfl d5.less (.cons rfl bb .nil), fun H' v d l' ch e' sl hm dv => ?_⟩
      exact q H' v d l' _ (hch.trans ch) e' sl (by omega) dv (hme ▸ fact2 cm hms.2 hod (by rw [← hlen]; exact hj) hm)
end
end Ln


set_option Elab.async false
set_option linter.all false
set_option maxRecDepth 100000
set_option maxHeartbeats 4000000
namespace Ln
open PySem PySem.Spec PyProof.Rows L2 GxR
theorem scDue : FnScope ["door", "bad"] ["door", "bad"] (defScope sDue) := ⟨rfl, rfl, rfl, by decide +kernel, rfl, by decide +kernel, by decide +kernel⟩
/-- the first error that is due -/
def dueW (door : Nat) (b0 b1 b2 : Bool) : Str := if b0 = true then "InvalidLane" else if b1 = true ∧ 0 < door then "InvalidLog" else if b2 = true ∧ (door = 3 ∨ door = 6) then "InvalidSides" else ""
theorem sqL_same3 {K : PySem.W.Frag} {H H1 : Hp} {a : Addr} {xs : List V} (h : SqL K H a xs) (k : L2.Same H H1) : SqL K H1 a xs := by
  rcases h with h | h
  · rcases h with h | ⟨o, h⟩
    · exact .inl (.inl (k _ _ h))
    · exact .inl (.inr ⟨o, k _ _ h⟩)
  · exact .inr h
theorem in_no3 {door : Nat} (h : ¬ (door = 3 ∨ door = 6)) : inV (.int (door : Nat)) [.int 3, .int 6] = false := by
  unfold inV
  simp [eqV]
  omega
section
variable {P : Program} {w : World} {K : PySem.W.Frag} {mg : Str → Option Value} {base : Heap} {Ps : List Addr}
def spDue (K : PySem.W.Frag) : Sp := fun vs H Q _ => ∃ (door : Nat) (a : Addr) (b0 b1 b2 : Bool), vs = [.int (door : Nat), .ref a] ∧ SqL K H a [.bl b0, .bl b1, .bl b2] ∧ ∀ H', L2.Same H H' → Q (.str (dueW door b0 b1 b2)) H'
theorem ok_due {f : Addr} {fd : FuncData} (F : Fun K "_law_due" "_law_due" sDue f fd) : FnOk P w K mg base CX0 1 f fd ["door", "bad"] (spDue K) := by
  refine F.ok scDue (fun vs H Q E h => ?_) (fun cdv A outer s H vs Q E hr h => ?_)
  · obtain ⟨door, a, b0, b1, b2, rfl, _⟩ := h
    rfl
  · obtain ⟨door, a, b0, b1, b2, rfl, hS, q⟩ := h
    refine ⟨_, (pss_cons (ps_if (pt_val (pe_ix ix_list (pv 1) pe_int (fun _ _ => rfl)))
        (pss_one (ps_ret pe_str))
        pss_nil)
      (pss_cons (ps_if (PW.pt (pw_and (pt_val (pe_ix ix_list (pv 1) pe_int (fun _ _ => rfl))) (pw_and1 (pt_cmpR op_gt (pv 0) pe_int (nomark _)))))
        (pss_one (ps_ret pe_str))
        pss_nil)
      (pss_one (ps_ret (pe_ifExp (PW.pt (pw_and (pt_val (pe_ix ix_list (pv 1) pe_int (fun _ _ => rfl))) (pw_and1 (pt_cmpR op_in_seq (pv 0) (pe_tup (pa_cons pe_int (pa_cons pe_int pa_nil))) (by rfl))))) pe_str pe_str))))), ?_⟩
    refine ⟨.ref a, rfl, a, _, 0, .bl b0, rfl, rfl, hS, rfl, b0, rfl, ?_⟩
    cases b0 with
    | true => exact iteT (q H sm_refl)
    | false =>
      refine iteF ⟨.ref a, rfl, a, _, 1, .bl b1, rfl, rfl, hS, rfl, b1, rfl, ?_⟩
      have fin : ∀ H1, L2.Same H H1 → ¬ (b1 = true ∧ 0 < door) → tIf (tAnd (tB (tOp (rIxL K) (tVar 1) (tC (.int 2)))) (tTest (tOp (rIn K false) (tVar 0) (tTup (tCons (tC (.int 3)) (tCons (tC (.int 6)) tNil)))))) (tC (.str "InvalidSides")) (tC (.str "")) (L2.start ["door", "bad"] [.int (door : Nat), .ref a]) H1 Q := fun H1 k1 hn => by
        have q : ∀ H', L2.Same H1 H' → Q (.str (if b2 = true ∧ (door = 3 ∨ door = 6) then "InvalidSides" else "")) H' := fun H' k => by
          have := q H' (sm_trans k1 k)
          unfold dueW at this
          rw [if_neg Bool.false_ne_true, if_neg hn] at this
          exact this
        refine ⟨.ref a, rfl, a, _, 2, .bl b2, rfl, rfl, sqL_same3 hS k1, rfl, b2, rfl, ?_⟩
        cases b2 with
        | false =>
          refine iteF ?_
          have z := q H1 sm_refl
          rw [if_neg (fun z => Bool.false_ne_true z.1)] at z
          exact iteF z
        | true =>
          refine iteT ⟨.int (door : Nat), rfl, by show 2 ≤ sizeLine; decide, fun p hp => ⟨p, [.int 3, .int 6], rfl, .inr (SqT.of upd_same), rfl, rfl, _, rfl, ?_⟩⟩
          have z := q _ (sm_new (o := .tup [.int 3, .int 6]) sm_refl hp)
          by_cases hd : door = 3 ∨ door = 6
          · rw [if_pos ⟨rfl, hd⟩] at z
            rcases hd with rfl | rfl
            · exact iteT z
            · exact iteT z
          · rw [if_neg (fun y => hd y.2)] at z
            have e : inV (.int (door : Nat)) [.int 3, .int 6] = false := in_no3 hd
            rw [if_neg Bool.false_ne_true, e]
            exact iteF z
      cases b1 with
      | false => exact iteF (iteF (fin H sm_refl fun z => Bool.false_ne_true z.1))
      | true =>
        refine iteT ⟨.int (door : Nat), rfl, _, _, rfl, rfl, _, rfl, ite2 (fun h => ?_) (fun h => ?_)⟩
        · have hd : 0 < door := by
            have := of_decide_eq_true h
            omega
          have z := q H sm_refl
          unfold dueW at z
          rw [if_neg Bool.false_ne_true, if_pos ⟨rfl, hd⟩] at z
          exact z
        · have hd : ¬ 0 < door := fun y => by
            exact h (decide_eq_true (by omega))
          exact fin H sm_refl fun z => hd z.2
end
end Ln


set_option Elab.async false
set_option linter.all false
set_option maxRecDepth 100000
set_option maxHeartbeats 2000000
namespace Ln
open PySem L2
/-! ### what is raised at a door is what is due -/
theorem laneO_of {d : PyData} (h : laneD d = false) : laneO d = none := by
  cases e : laneO d with
  | none => rfl
  | some xs => rw [(laneO_some e).2.2] at h; cases h
theorem laneO_strD {us : List Str} (h : laneB us = true) : laneO (.tuple (strD us)) = some us := by
  show (match strsD (us.map PyData.str) with | some xs => if laneB xs = true then some xs else none | none => none) = some us
  rw [strs_map]
  show (if laneB us = true then some us else none) = some us
  rw [if_pos h]
theorem door_due {CL CG CS : Addr} {us ms : List Str} {es : List Ev} {d0 d1 d2 : PyData} {b0 b1 b2 : Bool} (n12 : CG ≠ CL) (n13 : CS ≠ CL) (n23 : CS ≠ CG) (hL : laneB us = true) (hG : logD us (.list (es.map Ev.dat)) = true) (hM : sidesD es.length (.list (strD ms)) = true)
    (h0 : if b0 = true then laneD d0 = false else d0 = .tuple (strD us)) (h1 : if b1 = true then logD us d1 = false else d1 = .list (es.map Ev.dat)) (h2 : if b2 = true then sidesD es.length d2 = false else d2 = .list (strD ms)) (door : Nat) (hd : door < 7) :
    wordO CL CG CS (doorO CL CG CS d0 d1 d2 door) = dueW door b0 b1 b2 := by
  cases b0 with
  | true =>
    have hl : laneD d0 = false := h0
    have e0 := laneO_of hl
    have e1 : laneE CL d0 = some CL := by unfold laneE; rw [e0]
    have e2 : reqLogO CL CG d0 d1 = some CL := by unfold reqLogO; rw [e0]
    have e3 : repO CL CG CS d0 d1 d2 = some CL := by unfold repO; rw [e2]
    have r : ∀ k, dueW k true b1 b2 = "InvalidLane" := fun k => if_pos rfl
    have wl : wordO CL CG CS (some CL) = "InvalidLane" := if_pos rfl
    rw [r]
    match door, hd with
    | 0, _ => show wordO CL CG CS (laneE CL d0) = _; rw [e1, wl]
    | 1, _ => show wordO CL CG CS (reqLogO CL CG d0 d1) = _; rw [e2, wl]
    | 2, _ => show wordO CL CG CS (reqLogO CL CG d0 d1) = _; rw [e2, wl]
    | 3, _ => show wordO CL CG CS (repO CL CG CS d0 d1 d2) = _; rw [e3, wl]
    | 4, _ => show wordO CL CG CS (reqLogO CL CG d0 d1) = _; rw [e2, wl]
    | 5, _ => show wordO CL CG CS (reqLogO CL CG d0 d1) = _; rw [e2, wl]
    | 6, _ => show wordO CL CG CS (repO CL CG CS d0 d1 d2) = _; rw [e3, wl]
  | false =>
    obtain rfl : d0 = .tuple (strD us) := h0
    have e0 := laneO_strD hL
    have e1 : laneE CL (.tuple (strD us)) = none := by unfold laneE; rw [e0]
    have wg : wordO CL CG CS (some CG) = "InvalidLog" := by show (if CG = CL then _ else if CG = CG then _ else _) = _; rw [if_neg n12, if_pos rfl]
    have ws : wordO CL CG CS (some CS) = "InvalidSides" := by show (if CS = CL then _ else if CS = CG then _ else _) = _; rw [if_neg n13, if_neg n23]
    have wn : wordO CL CG CS none = "" := rfl
    cases b1 with
    | true =>
      have hl : logD us d1 = false := h1
      have e2 : reqLogO CL CG (.tuple (strD us)) d1 = some CG := by unfold reqLogO; rw [e0]; exact if_neg (by rw [hl]; exact Bool.false_ne_true)
      have e3 : repO CL CG CS (.tuple (strD us)) d1 d2 = some CG := by unfold repO; rw [e2]
      match door, hd with
      | 0, _ => show wordO CL CG CS (laneE CL _) = _; rw [e1, wn]; cases b2 <;> decide +kernel
      | 1, _ => show wordO CL CG CS (reqLogO CL CG _ d1) = _; rw [e2, wg]; cases b2 <;> decide +kernel
      | 2, _ => show wordO CL CG CS (reqLogO CL CG _ d1) = _; rw [e2, wg]; cases b2 <;> decide +kernel
      | 3, _ => show wordO CL CG CS (repO CL CG CS _ d1 d2) = _; rw [e3, wg]; cases b2 <;> decide +kernel
      | 4, _ => show wordO CL CG CS (reqLogO CL CG _ d1) = _; rw [e2, wg]; cases b2 <;> decide +kernel
      | 5, _ => show wordO CL CG CS (reqLogO CL CG _ d1) = _; rw [e2, wg]; cases b2 <;> decide +kernel
      | 6, _ => show wordO CL CG CS (repO CL CG CS _ d1 d2) = _; rw [e3, wg]; cases b2 <;> decide +kernel
    | false =>
      obtain rfl : d1 = .list (es.map Ev.dat) := h1
      have e2 : reqLogO CL CG (.tuple (strD us)) (.list (es.map Ev.dat)) = none := by unfold reqLogO; rw [e0]; exact if_pos hG
      have e3 : repO CL CG CS (.tuple (strD us)) (.list (es.map Ev.dat)) d2 = if sidesD es.length d2 = true then none else some CS := by
        unfold repO
        rw [e2]
        show (if sidesD (es.map Ev.dat).length d2 = true then _ else _) = _
        rw [lenE]
      have e4 : wordO CL CG CS (repO CL CG CS (.tuple (strD us)) (.list (es.map Ev.dat)) d2) = if b2 = true then "InvalidSides" else "" := by
        rw [e3]
        cases b2 with
        | true =>
          have hl : sidesD es.length d2 = false := h2
          rw [if_neg (by rw [hl]; exact Bool.false_ne_true), ws, if_pos rfl]
        | false =>
          obtain rfl : d2 = .list (strD ms) := h2
          rw [if_pos hM, wn, if_neg Bool.false_ne_true]
      match door, hd with
      | 0, _ => show wordO CL CG CS (laneE CL _) = _; rw [e1, wn]; cases b2 <;> decide +kernel
      | 1, _ => show wordO CL CG CS (reqLogO CL CG _ _) = _; rw [e2, wn]; cases b2 <;> decide +kernel
      | 2, _ => show wordO CL CG CS (reqLogO CL CG _ _) = _; rw [e2, wn]; cases b2 <;> decide +kernel
      | 3, _ => show wordO CL CG CS (repO CL CG CS _ _ d2) = _; rw [e4]; cases b2 <;> decide +kernel
      | 4, _ => show wordO CL CG CS (reqLogO CL CG _ _) = _; rw [e2, wn]; cases b2 <;> decide +kernel
      | 5, _ => show wordO CL CG CS (reqLogO CL CG _ _) = _; rw [e2, wn]; cases b2 <;> decide +kernel
      | 6, _ => show wordO CL CG CS (repO CL CG CS _ _ d2) = _; rw [e4]; cases b2 <;> decide +kernel
end Ln


set_option Elab.async false
set_option linter.all false
set_option maxRecDepth 100000
set_option maxHeartbeats 2000000
namespace Ln
open PySem PySem.Spec PyProof.Rows L2
/-! ### exceptions as values: made, asked, read -/
/-- an exception of the class at D stands at a, with a dict or without -/
def ExV (H : Hp) (a D : Addr) : Prop := H a = some (ExH (.ref D) none a) ∨ ∃ (dx : Addr) (fs : List (Str × V)), H a = some (ExH (.ref D) (some dx) a) ∧ H dx = some (.xd fs)
theorem ExV.keep {H H' : Hp} {a D : Addr} (k : L2.Same H H') : ExV H a D → ExV H' a D
  | .inl e => .inl (k _ _ e)
  | .inr ⟨dx, fs, e, d⟩ => .inr ⟨dx, fs, k _ _ e, k _ _ d⟩
theorem exd_inst {P : Program} {w : World} {H : Hp} {h : Heap} {a D dx : Addr} {fs : List (Str × V)} (x : HOk P w H h) (e : H a = some (ExH (.ref D) (some dx) a)) (d : H dx = some (.xd fs)) :
    ∃ (oe od : Obj) (mA : Str → Option Value), PySem.W.InstAt h a oe D (some od) ∧ (∀ n, PySem.W.lookIn n od = some (mA n)) ∧ ∀ f, RelO (fs.lookup f) (mA f) := by
  obtain ⟨⟨⟨oc, oq, oda, osl⟩, vs, hg, ⟨h1, h2⟩, hv⟩, _, _⟩ := x a _ e
  dsimp only at h1 h2 hv
  subst h1 h2 hv
  obtain ⟨mA, hns, hr⟩ := (show ObjOk P w H h dx (.xd fs) from x dx _ d)
  obtain ⟨od, hod, hl⟩ := lookIn_ns hns
  exact ⟨_, od, mA, ⟨hg, rfl, rfl, hod⟩, hl, hr⟩
theorem exv_inst {P : Program} {w : World} {H : Hp} {h : Heap} {a D : Addr} (x : HOk P w H h) (e : ExV H a D) : ∃ oe od, PySem.W.InstAt h a oe D od := by
  rcases e with e | ⟨dx, fs, e, d⟩
  · obtain ⟨oe, J⟩ := exH_inst x e
    exact ⟨oe, none, J⟩
  · obtain ⟨oe, od, _, J, _⟩ := exd_inst x e d
    exact ⟨oe, some od, J⟩
/-- isinstance(e, c) -/
def rIsV (K : PySem.W.Frag) : List V → Hp → VK → Prop := fun xs H Q => ∃ (a D : Addr) (c : V) (cv : Value) (b : Bool), xs = [.ref a, c] ∧ ExcC K D ∧ ExV H a D ∧ ClsV c cv ∧ PySem.W.kitOne K (.ref D) cv = some b ∧ Q (.bl b) H
section
variable {X : Cx}
theorem call_isV : CallR X (.builtin "isinstance") (rIsV X.K) := by
  intro pins s σ H xs us Q I r h
  obtain ⟨a, D, c, cv, b, rfl, C, ha, hc, e, q⟩ := h
  obtain ⟨u1, u2, rfl, r1, r2⟩ := vals2 r
  cases (show u1 = Value.ref a from r1)
  have e2 := hc.eq r2
  subst e2
  obtain ⟨oe, od, J⟩ := exv_inst I.hok ha
  have hcl : (PySem.W.clsIn X.K D).isSome = true := by
    obtain ⟨cd, h, _⟩ := PySem.W.any_some C.hd
    rw [h] <;> rfl
  exact PySem.W.kia_one (PySem.W.kitx_exc hcl C.hg C.hk C.hs C.ha C.hn C.ht C.hm) I.kIn J e (fun z => nomatch z) fun tk => ⟨.bl b, H, I.tok tk, rfl, q⟩
/-- X(), an own exception class without own __init__, as a value -/
theorem pe_exc0 {C : Addr} {bmB : List Value} {B newId initId : String} {x : Str} {p pos : Pos} (F : ExcBaseFacts B newId initId bmB) (q : PySem.W.excIn X.K C bmB newId = true) (gC : X.mg x = some (.ref C)) (kC : PySem.W.keepIn X.K (.ref C) = true) (hg : Gl X x)
    (hdb : (x == ("__debug__" : Str)) = false := by decide) :
    PE X (.Call (.Name x p) [] [] pos) (fun σ H Q => ∀ a, H a = none → Q (.ref a) (upd H a (ExH (.ref C) none a))) := by
  refine ⟨fun pins s σ H Q I h => ?_⟩
  refine wpAny_Call_Name_kw (ld_glob I hg gC ?_ hdb)
  refine PySem.W.callWith_K0 I.kIn kC ?_
  show wpAny _ _ (call (.ref C) []) _ _ _
  obtain ⟨bm, N, nm, qn, bs, hdct, sn, sub, ab, col, dd, k0, k1, k2, k3, k5, mN, hC, hN, hni, T⟩ := exc_obj I.kIn q
  refine wpAny_call_exc_subT F T hC hN hni (fun h' a hm => ?_) (by show 0 ≤ sizeLine; rw [sizeLine_eq]; omega)
  have hn : H a = none := I.hok.gone hm.new
  obtain ⟨t, ht, _, _⟩ := hm.there
  exact ⟨.ref a, upd H a (ExH (.ref C) none a), I.laidN hm.keeps hm.new hn (exH_ok ht ⟨rfl, rfl⟩ rfl), rfl, h a hn⟩
variable {e : Expr} {pos : Pos}
/-- an exception that is made is a value too -/
def tMkE (tm : L2.St → Hp → XK → Prop) : TE := fun σ H Q => tm σ H fun cls d H1 => ∀ a, H1 a = none → Q (.ref a) (upd H1 a (ExH cls d a))
theorem pe_mk {tm : L2.St → Hp → XK → Prop} (h : PMk X e tm) : PE X e (tMkE tm) := by
  refine ⟨fun pins s σ H Q I q => thn (h pins s σ H _ I q) fun u s' hm => ?_⟩
  obtain ⟨a, oe, vs, sI, H1, cls, d, rfl, J, k, n, ha, hz, hd, _, na, os, bare, _, q⟩ := hm
  have J2 := Inv.laidN (t' := s'.toks) J k n na (exH_ok ha hz hd)
  exact ⟨.ref a, _, ⟨J2.ok, os.trans J2.os, bare, J2.base, J2.loc, J2.cell, J2.free, J2.freeC, J2.pin, J2.hok, J2.len⟩, rfl, q a na⟩
/-- o.f of an exception with a dict -/
def tXv (K : PySem.W.Frag) (n : Str) (te : TE) : TE := fun σ H Q => te σ H fun x H1 => ∃ (a C dx : Addr) (fs : List (Str × V)) (v : V), x = .ref a ∧ XfC K C ∧ PySem.W.findIn K (.ref C) n = some none ∧ H1 a = some (ExH (.ref C) (some dx) a) ∧ H1 dx = some (.xd fs) ∧ fs.lookup n = some v ∧ Q v H1
theorem pe_xv {te : TE} {n : Str} (he : PE X e te) (hb : attributeBase e n X.env (eval e X.env) = eval e X.env := by rfl) : PE X (.Attribute e n pos) (tXv X.K n te) := by
  refine ⟨fun pins s σ H Q I h => ?_⟩
  refine attr_of hb (thn (he.run pins s σ H _ I h) fun u s1 hh => ?_)
  obtain ⟨x, H1, I1, rx, a, C, dx, fs, v, rfl, T, hno, ea, ed, l, q⟩ := hh
  obtain rfl : u = Value.ref a := rx
  obtain ⟨oe, od, mA, J, hl, hr⟩ := exd_inst I1.hok ea ed
  obtain ⟨u, hu, ru⟩ := RelO.some_of (v := v) (o := mA n) (by rw [← l]; exact hr n)
  exact HandSPX.exc_get I1.kIn J T.ga T.gg T.exC (PySem.W.findObj_own T.hdC hno rfl (by rw [hl, hu])) (handed_of ru) ⟨v, H1, I1.tok _, ru, q⟩
end
end Ln


set_option Elab.async false
set_option linter.all false
set_option maxRecDepth 100000
set_option maxHeartbeats 8000000
namespace Ln
open PySem PySem.Spec PyProof.Rows L2 GxR
/-- what is known of the class D, named x, made in any way -/
structure Ek (K : PySem.W.Frag) (mg : Str → Option Value) (CB : Addr) (x : Str) (D : Addr) : Prop where
  g : mg x = some (.ref D)
  ec : ExcC K D
  ve : PySem.W.kitOne K (.ref D) (.type "ValueError") = some true
  ex : PySem.W.kitOne K (.ref D) (.ref CB) = some true
  kit : ∀ y ∈ ErrNames, ∀ C, mg y = some (.ref C) → PySem.W.kitOne K (.ref D) (.ref C) = some (x == y)
section
variable {P : Program} {w : World} {K : PySem.W.Frag} {mg : Str → Option Value} {base : Heap} {Ps : List Addr}
def spKindV (K : PySem.W.Frag) (mg : Str → Option Value) (CB : Addr) : Sp := fun vs H Q _ => ∃ (a D : Addr) (x : Str), vs = [.ref a] ∧ ExV H a D ∧ x ∈ kindN3 ∧ Ek K mg CB x D ∧ ∀ H', L2.Same H H' → Q (.str x) H'
theorem ok_kindV {f CB : Addr} {fd : FuncData} (F : Fun K "_law_kind" "_law_kind" sKind f fd) (B : Bi mg) (nm : ∀ y ∈ ErrNames, ∃ C, mg y = some (.ref C)) (mgV : mg "ValueError" = none) : FnOk P w K mg base CX0 1 f fd ["e"] (spKindV K mg CB) := by
  refine F.ok scKind3 (fun vs H Q E h => ?_) (fun cdv A outer s H vs Q E hr h => ?_)
  · obtain ⟨a, D, x, rfl, _⟩ := h
    rfl
  · obtain ⟨a, D, x, rfl, ha, hx, er, q⟩ := h
    have nn : ∀ y, ErrNames.contains y = true → ∃ C, mg y = some (.ref C) := fun y h => nm y (List.contains_iff_mem.mp h)
    obtain ⟨C0, g0⟩ := nn "InvalidLane" (by decide +kernel)
    obtain ⟨C1, g1⟩ := nn "InvalidLog" (by decide +kernel)
    obtain ⟨C2, g2⟩ := nn "InvalidCar" (by decide +kernel)
    obtain ⟨C3, g3⟩ := nn "InvalidCars" (by decide +kernel)
    obtain ⟨C4, g4⟩ := nn "InvalidSides" (by decide +kernel)
    obtain ⟨C5, g5⟩ := nn "InvalidText" (by decide +kernel)
    obtain ⟨C6, g6⟩ := nn "InvalidPattern" (by decide +kernel)
    obtain ⟨C7, g7⟩ := nn "InvalidIndex" (by decide +kernel)
    obtain ⟨C8, g8⟩ := nn "InvalidSightings" (by decide +kernel)
    obtain ⟨C9, g9⟩ := nn "UsedCar" (by decide +kernel)
    obtain ⟨C10, g10⟩ := nn "UnknownCar" (by decide +kernel)
    obtain ⟨C11, g11⟩ := nn "EmptyLane" (by decide +kernel)
    obtain ⟨C12, g12⟩ := nn "NotPossible" (by decide +kernel)
    obtain ⟨C13, g13⟩ := nn "TooLarge" (by decide +kernel)
    obtain ⟨C14, g14⟩ := nn "NothingToUndo" (by decide +kernel)
    refine ⟨_, (pss_cons (ps_set (i := 1) scKind3.nd rfl (.inl rfl) (pe_lst (pa_cons (pe_tup (pa_cons pe_str (pa_cons (pe_callB call_isV (by rfl) B.isi (by decide +kernel) (pa_cons (pv 0) (pa_cons (pe_glob (v := .ref C0) rfl g0 rfl) pa_nil))) pa_nil))) (pa_cons (pe_tup (pa_cons pe_str (pa_cons (pe_callB call_isV (by rfl) B.isi (by decide +kernel) (pa_cons (pv 0) (pa_cons (pe_glob (v := .ref C1) rfl g1 rfl) pa_nil))) pa_nil))) pa_nil))))
      (pss_cons (ps_set (i := 1) scKind3.nd rfl (.inl rfl) (pe_op op_cat (pv 1) (pe_lst (pa_cons (pe_tup (pa_cons pe_str (pa_cons (pe_callB call_isV (by rfl) B.isi (by decide +kernel) (pa_cons (pv 0) (pa_cons (pe_glob (v := .ref C2) rfl g2 rfl) pa_nil))) pa_nil))) (pa_cons (pe_tup (pa_cons pe_str (pa_cons (pe_callB call_isV (by rfl) B.isi (by decide +kernel) (pa_cons (pv 0) (pa_cons (pe_glob (v := .ref C3) rfl g3 rfl) pa_nil))) pa_nil))) pa_nil)))))
      (pss_cons (ps_set (i := 1) scKind3.nd rfl (.inl rfl) (pe_op op_cat (pv 1) (pe_lst (pa_cons (pe_tup (pa_cons pe_str (pa_cons (pe_callB call_isV (by rfl) B.isi (by decide +kernel) (pa_cons (pv 0) (pa_cons (pe_glob (v := .ref C4) rfl g4 rfl) pa_nil))) pa_nil))) (pa_cons (pe_tup (pa_cons pe_str (pa_cons (pe_callB call_isV (by rfl) B.isi (by decide +kernel) (pa_cons (pv 0) (pa_cons (pe_glob (v := .ref C5) rfl g5 rfl) pa_nil))) pa_nil))) pa_nil)))))
      (pss_cons (ps_set (i := 1) scKind3.nd rfl (.inl rfl) (pe_op op_cat (pv 1) (pe_lst (pa_cons (pe_tup (pa_cons pe_str (pa_cons (pe_callB call_isV (by rfl) B.isi (by decide +kernel) (pa_cons (pv 0) (pa_cons (pe_glob (v := .ref C6) rfl g6 rfl) pa_nil))) pa_nil))) (pa_cons (pe_tup (pa_cons pe_str (pa_cons (pe_callB call_isV (by rfl) B.isi (by decide +kernel) (pa_cons (pv 0) (pa_cons (pe_glob (v := .ref C7) rfl g7 rfl) pa_nil))) pa_nil))) pa_nil)))))
      (pss_cons (ps_set (i := 1) scKind3.nd rfl (.inl rfl) (pe_op op_cat (pv 1) (pe_lst (pa_cons (pe_tup (pa_cons pe_str (pa_cons (pe_callB call_isV (by rfl) B.isi (by decide +kernel) (pa_cons (pv 0) (pa_cons (pe_glob (v := .ref C8) rfl g8 rfl) pa_nil))) pa_nil))) (pa_cons (pe_tup (pa_cons pe_str (pa_cons (pe_callB call_isV (by rfl) B.isi (by decide +kernel) (pa_cons (pv 0) (pa_cons (pe_glob (v := .ref C9) rfl g9 rfl) pa_nil))) pa_nil))) pa_nil)))))
      (pss_cons (ps_set (i := 1) scKind3.nd rfl (.inl rfl) (pe_op op_cat (pv 1) (pe_lst (pa_cons (pe_tup (pa_cons pe_str (pa_cons (pe_callB call_isV (by rfl) B.isi (by decide +kernel) (pa_cons (pv 0) (pa_cons (pe_glob (v := .ref C10) rfl g10 rfl) pa_nil))) pa_nil))) (pa_cons (pe_tup (pa_cons pe_str (pa_cons (pe_callB call_isV (by rfl) B.isi (by decide +kernel) (pa_cons (pv 0) (pa_cons (pe_glob (v := .ref C11) rfl g11 rfl) pa_nil))) pa_nil))) pa_nil)))))
      (pss_cons (ps_set (i := 1) scKind3.nd rfl (.inl rfl) (pe_op op_cat (pv 1) (pe_lst (pa_cons (pe_tup (pa_cons pe_str (pa_cons (pe_callB call_isV (by rfl) B.isi (by decide +kernel) (pa_cons (pv 0) (pa_cons (pe_glob (v := .ref C12) rfl g12 rfl) pa_nil))) pa_nil))) (pa_cons (pe_tup (pa_cons pe_str (pa_cons (pe_callB call_isV (by rfl) B.isi (by decide +kernel) (pa_cons (pv 0) (pa_cons (pe_glob (v := .ref C13) rfl g13 rfl) pa_nil))) pa_nil))) pa_nil)))))
      (pss_cons (ps_set (i := 1) scKind3.nd rfl (.inl rfl) (pe_op op_cat (pv 1) (pe_lst (pa_cons (pe_tup (pa_cons pe_str (pa_cons (pe_callB call_isV (by rfl) B.isi (by decide +kernel) (pa_cons (pv 0) (pa_cons (pe_glob (v := .ref C14) rfl g14 rfl) pa_nil))) pa_nil))) (pa_cons (pe_tup (pa_cons pe_str (pa_cons (pe_not (pe_callB call_isV (by rfl) B.isi (by decide +kernel) (pa_cons (pv 0) (pa_cons (pe_bltn (by rfl) mgV (by decide +kernel) (v := .ty "ValueError") rfl) pa_nil)))) pa_nil))) pa_nil)))))
      (pss_one (ps_ret (pe_join pe_str (pe_lc (own := [("name", 2), ("so", 3)]) (g := gTup K 2 (gCons (gName 2) (gCons (gName 3) gNil))) (tt := tB (tVar 3)) (te := tVar 2) (by rfl) scKind3.nd (pi_list (pv 1)) (blkOk_by (own := [("name", 2), ("so", 3)]) (N := ["e", "some", "name", "so"]) (sc := defScope sKind) (by decide +kernel)) (fun _ _ _ _ _ => pg_tup rfl (pgs_cons (pg_name (i := 2) scKind3.nd rfl (Or.inl rfl)) (pgs_cons (pg_name (i := 3) scKind3.nd rfl (Or.inl rfl)) pgs_nil))) (fun _ _ _ _ _ => pts_one (pt_val (pv 3))) (fun _ _ _ _ _ => pv 2))))))))))))), ?_⟩
    refine ⟨.ref a, rfl, a, D, .ref C0, _, _, rfl, er.ec, (ExV.keep sm_refl ha), .own _, (er.kit "InvalidLane" (by decide +kernel) C0 g0), by show 2 ≤ sizeLine; decide, fun t0 n0 => ?_⟩
    refine ⟨.ref a, rfl, a, D, .ref C1, _, _, rfl, er.ec, (ExV.keep ((sm_new (o := (.tup [.str "InvalidLane", .bl (x == "InvalidLane")])) (sm_refl (H := H)) n0)) ha), .own _, (er.kit "InvalidLog" (by decide +kernel) C1 g1), by show 2 ≤ sizeLine; decide, fun t1 n1 => ?_⟩
    refine ⟨by show 2 ≤ sizeLine; decide, fun q0 nq0 => ?_⟩
    obtain ⟨k0, e0, p0⟩ := pr1 (p1 := ("InvalidLane", x == "InvalidLane")) (p2 := ("InvalidLog", x == "InvalidLog")) n0 n1 nq0
    obtain ⟨J0, eJ0⟩ : ∃ J, J = (upd (upd (upd H t0 (.tup [.str "InvalidLane", .bl (x == "InvalidLane")])) t1 (.tup [.str "InvalidLog", .bl (x == "InvalidLog")])) q0 (.lst [.ref t0, .ref t1])) := ⟨_, rfl⟩
    have k0 : L2.Same H J0 := by rw [eJ0]; exact k0
    have e0 : J0 q0 = some (.lst ([t0, t1].map V.ref)) := by rw [eJ0]; exact e0
    have p0 : PrsT J0 [t0, t1] [("InvalidLane", x == "InvalidLane"), ("InvalidLog", x == "InvalidLog")] := by rw [eJ0]; exact p0
    obtain ⟨m0, em0⟩ : ∃ m, m = q0 := ⟨_, rfl⟩
    rw [← eJ0, ← em0]
    rw [← em0] at e0
    clear eJ0 em0 n0 n1 nq0
    refine ⟨.ref m0, rfl, .ref a, rfl, a, D, .ref C2, _, _, rfl, er.ec, (ExV.keep k0 ha), .own _, (er.kit "InvalidCar" (by decide +kernel) C2 g2), by show 2 ≤ sizeLine; decide, fun t2 n2 => ?_⟩
    refine ⟨.ref a, rfl, a, D, .ref C3, _, _, rfl, er.ec, (ExV.keep ((sm_trans k0 (sm_new (o := (.tup [.str "InvalidCar", .bl (x == "InvalidCar")])) sm_refl n2))) ha), .own _, (er.kit "InvalidCars" (by decide +kernel) C3 g3), by show 2 ≤ sizeLine; decide, fun t3 n3 => ?_⟩
    refine ⟨by show 2 ≤ sizeLine; decide, fun q1 nq1 => ?_⟩
    obtain ⟨k1', e1', p1'⟩ := pr2 (p1 := ("InvalidCar", x == "InvalidCar")) (p2 := ("InvalidCars", x == "InvalidCars")) p0 n2 n3 nq1
    have em' := (pr3 (p1 := ("InvalidCar", x == "InvalidCar")) (p2 := ("InvalidCars", x == "InvalidCars")) n2 n3 nq1) _ _ e0
    refine ⟨m0, q1, _, _, rfl, rfl, em', upd_same, by show 4 ≤ sizeLine; decide, fun m1 nm1 => ?_⟩
    have kk := sm_trans k1' (sm_new (o := .lst ([t0, t1].map V.ref ++ [.ref t2, .ref t3])) sm_refl nm1)
    have pp := prsT_same p1' (sm_new (o := .lst ([t0, t1].map V.ref ++ [.ref t2, .ref t3])) sm_refl nm1)
    have ee : (upd (upd (upd (upd J0 t2 (.tup [.str "InvalidCar", .bl (x == "InvalidCar")])) t3 (.tup [.str "InvalidCars", .bl (x == "InvalidCars")])) q1 (.lst [.ref t2, .ref t3])) m1 (.lst ([t0, t1].map V.ref ++ [.ref t2, .ref t3]))) m1 = some (.lst ([t0, t1].map V.ref ++ [.ref t2, .ref t3])) := upd_same
    obtain ⟨J1, eJ1⟩ : ∃ J, J = (upd (upd (upd (upd J0 t2 (.tup [.str "InvalidCar", .bl (x == "InvalidCar")])) t3 (.tup [.str "InvalidCars", .bl (x == "InvalidCars")])) q1 (.lst [.ref t2, .ref t3])) m1 (.lst ([t0, t1].map V.ref ++ [.ref t2, .ref t3]))) := ⟨_, rfl⟩
    have k1 : L2.Same H J1 := by rw [eJ1]; exact sm_trans k0 kk
    have e1 : J1 m1 = some (.lst ([t0, t1, t2, t3].map V.ref)) := by rw [eJ1]; exact ee
    have p1 : PrsT J1 [t0, t1, t2, t3] [("InvalidLane", x == "InvalidLane"), ("InvalidLog", x == "InvalidLog"), ("InvalidCar", x == "InvalidCar"), ("InvalidCars", x == "InvalidCars")] := by rw [eJ1]; exact pp
    rw [← eJ1]
    clear eJ1 kk pp ee em' k1' e1' p1' n2 n3 nq1 nm1 k0 e0 p0
    refine ⟨.ref m1, rfl, .ref a, rfl, a, D, .ref C4, _, _, rfl, er.ec, (ExV.keep k1 ha), .own _, (er.kit "InvalidSides" (by decide +kernel) C4 g4), by show 2 ≤ sizeLine; decide, fun t4 n4 => ?_⟩
    refine ⟨.ref a, rfl, a, D, .ref C5, _, _, rfl, er.ec, (ExV.keep ((sm_trans k1 (sm_new (o := (.tup [.str "InvalidSides", .bl (x == "InvalidSides")])) sm_refl n4))) ha), .own _, (er.kit "InvalidText" (by decide +kernel) C5 g5), by show 2 ≤ sizeLine; decide, fun t5 n5 => ?_⟩
    refine ⟨by show 2 ≤ sizeLine; decide, fun q2 nq2 => ?_⟩
    obtain ⟨k2', e2', p2'⟩ := pr2 (p1 := ("InvalidSides", x == "InvalidSides")) (p2 := ("InvalidText", x == "InvalidText")) p1 n4 n5 nq2
    have em' := (pr3 (p1 := ("InvalidSides", x == "InvalidSides")) (p2 := ("InvalidText", x == "InvalidText")) n4 n5 nq2) _ _ e1
    refine ⟨m1, q2, _, _, rfl, rfl, em', upd_same, by show 6 ≤ sizeLine; decide, fun m2 nm2 => ?_⟩
    have kk := sm_trans k2' (sm_new (o := .lst ([t0, t1, t2, t3].map V.ref ++ [.ref t4, .ref t5])) sm_refl nm2)
    have pp := prsT_same p2' (sm_new (o := .lst ([t0, t1, t2, t3].map V.ref ++ [.ref t4, .ref t5])) sm_refl nm2)
    have ee : (upd (upd (upd (upd J1 t4 (.tup [.str "InvalidSides", .bl (x == "InvalidSides")])) t5 (.tup [.str "InvalidText", .bl (x == "InvalidText")])) q2 (.lst [.ref t4, .ref t5])) m2 (.lst ([t0, t1, t2, t3].map V.ref ++ [.ref t4, .ref t5]))) m2 = some (.lst ([t0, t1, t2, t3].map V.ref ++ [.ref t4, .ref t5])) := upd_same
    obtain ⟨J2, eJ2⟩ : ∃ J, J = (upd (upd (upd (upd J1 t4 (.tup [.str "InvalidSides", .bl (x == "InvalidSides")])) t5 (.tup [.str "InvalidText", .bl (x == "InvalidText")])) q2 (.lst [.ref t4, .ref t5])) m2 (.lst ([t0, t1, t2, t3].map V.ref ++ [.ref t4, .ref t5]))) := ⟨_, rfl⟩
    have k2 : L2.Same H J2 := by rw [eJ2]; exact sm_trans k1 kk
    have e2 : J2 m2 = some (.lst ([t0, t1, t2, t3, t4, t5].map V.ref)) := by rw [eJ2]; exact ee
    have p2 : PrsT J2 [t0, t1, t2, t3, t4, t5] [("InvalidLane", x == "InvalidLane"), ("InvalidLog", x == "InvalidLog"), ("InvalidCar", x == "InvalidCar"), ("InvalidCars", x == "InvalidCars"), ("InvalidSides", x == "InvalidSides"), ("InvalidText", x == "InvalidText")] := by rw [eJ2]; exact pp
    rw [← eJ2]
    clear eJ2 kk pp ee em' k2' e2' p2' n4 n5 nq2 nm2 k1 e1 p1
    refine ⟨.ref m2, rfl, .ref a, rfl, a, D, .ref C6, _, _, rfl, er.ec, (ExV.keep k2 ha), .own _, (er.kit "InvalidPattern" (by decide +kernel) C6 g6), by show 2 ≤ sizeLine; decide, fun t6 n6 => ?_⟩
    refine ⟨.ref a, rfl, a, D, .ref C7, _, _, rfl, er.ec, (ExV.keep ((sm_trans k2 (sm_new (o := (.tup [.str "InvalidPattern", .bl (x == "InvalidPattern")])) sm_refl n6))) ha), .own _, (er.kit "InvalidIndex" (by decide +kernel) C7 g7), by show 2 ≤ sizeLine; decide, fun t7 n7 => ?_⟩
    refine ⟨by show 2 ≤ sizeLine; decide, fun q3 nq3 => ?_⟩
    obtain ⟨k3', e3', p3'⟩ := pr2 (p1 := ("InvalidPattern", x == "InvalidPattern")) (p2 := ("InvalidIndex", x == "InvalidIndex")) p2 n6 n7 nq3
    have em' := (pr3 (p1 := ("InvalidPattern", x == "InvalidPattern")) (p2 := ("InvalidIndex", x == "InvalidIndex")) n6 n7 nq3) _ _ e2
    refine ⟨m2, q3, _, _, rfl, rfl, em', upd_same, by show 8 ≤ sizeLine; decide, fun m3 nm3 => ?_⟩
    have kk := sm_trans k3' (sm_new (o := .lst ([t0, t1, t2, t3, t4, t5].map V.ref ++ [.ref t6, .ref t7])) sm_refl nm3)
    have pp := prsT_same p3' (sm_new (o := .lst ([t0, t1, t2, t3, t4, t5].map V.ref ++ [.ref t6, .ref t7])) sm_refl nm3)
    have ee : (upd (upd (upd (upd J2 t6 (.tup [.str "InvalidPattern", .bl (x == "InvalidPattern")])) t7 (.tup [.str "InvalidIndex", .bl (x == "InvalidIndex")])) q3 (.lst [.ref t6, .ref t7])) m3 (.lst ([t0, t1, t2, t3, t4, t5].map V.ref ++ [.ref t6, .ref t7]))) m3 = some (.lst ([t0, t1, t2, t3, t4, t5].map V.ref ++ [.ref t6, .ref t7])) := upd_same
    obtain ⟨J3, eJ3⟩ : ∃ J, J = (upd (upd (upd (upd J2 t6 (.tup [.str "InvalidPattern", .bl (x == "InvalidPattern")])) t7 (.tup [.str "InvalidIndex", .bl (x == "InvalidIndex")])) q3 (.lst [.ref t6, .ref t7])) m3 (.lst ([t0, t1, t2, t3, t4, t5].map V.ref ++ [.ref t6, .ref t7]))) := ⟨_, rfl⟩
    have k3 : L2.Same H J3 := by rw [eJ3]; exact sm_trans k2 kk
    have e3 : J3 m3 = some (.lst ([t0, t1, t2, t3, t4, t5, t6, t7].map V.ref)) := by rw [eJ3]; exact ee
    have p3 : PrsT J3 [t0, t1, t2, t3, t4, t5, t6, t7] [("InvalidLane", x == "InvalidLane"), ("InvalidLog", x == "InvalidLog"), ("InvalidCar", x == "InvalidCar"), ("InvalidCars", x == "InvalidCars"), ("InvalidSides", x == "InvalidSides"), ("InvalidText", x == "InvalidText"), ("InvalidPattern", x == "InvalidPattern"), ("InvalidIndex", x == "InvalidIndex")] := by rw [eJ3]; exact pp
    rw [← eJ3]
    clear eJ3 kk pp ee em' k3' e3' p3' n6 n7 nq3 nm3 k2 e2 p2
    refine ⟨.ref m3, rfl, .ref a, rfl, a, D, .ref C8, _, _, rfl, er.ec, (ExV.keep k3 ha), .own _, (er.kit "InvalidSightings" (by decide +kernel) C8 g8), by show 2 ≤ sizeLine; decide, fun t8 n8 => ?_⟩
    refine ⟨.ref a, rfl, a, D, .ref C9, _, _, rfl, er.ec, (ExV.keep ((sm_trans k3 (sm_new (o := (.tup [.str "InvalidSightings", .bl (x == "InvalidSightings")])) sm_refl n8))) ha), .own _, (er.kit "UsedCar" (by decide +kernel) C9 g9), by show 2 ≤ sizeLine; decide, fun t9 n9 => ?_⟩
    refine ⟨by show 2 ≤ sizeLine; decide, fun q4 nq4 => ?_⟩
    obtain ⟨k4', e4', p4'⟩ := pr2 (p1 := ("InvalidSightings", x == "InvalidSightings")) (p2 := ("UsedCar", x == "UsedCar")) p3 n8 n9 nq4
    have em' := (pr3 (p1 := ("InvalidSightings", x == "InvalidSightings")) (p2 := ("UsedCar", x == "UsedCar")) n8 n9 nq4) _ _ e3
    refine ⟨m3, q4, _, _, rfl, rfl, em', upd_same, by show 10 ≤ sizeLine; decide, fun m4 nm4 => ?_⟩
    have kk := sm_trans k4' (sm_new (o := .lst ([t0, t1, t2, t3, t4, t5, t6, t7].map V.ref ++ [.ref t8, .ref t9])) sm_refl nm4)
    have pp := prsT_same p4' (sm_new (o := .lst ([t0, t1, t2, t3, t4, t5, t6, t7].map V.ref ++ [.ref t8, .ref t9])) sm_refl nm4)
    have ee : (upd (upd (upd (upd J3 t8 (.tup [.str "InvalidSightings", .bl (x == "InvalidSightings")])) t9 (.tup [.str "UsedCar", .bl (x == "UsedCar")])) q4 (.lst [.ref t8, .ref t9])) m4 (.lst ([t0, t1, t2, t3, t4, t5, t6, t7].map V.ref ++ [.ref t8, .ref t9]))) m4 = some (.lst ([t0, t1, t2, t3, t4, t5, t6, t7].map V.ref ++ [.ref t8, .ref t9])) := upd_same
    obtain ⟨J4, eJ4⟩ : ∃ J, J = (upd (upd (upd (upd J3 t8 (.tup [.str "InvalidSightings", .bl (x == "InvalidSightings")])) t9 (.tup [.str "UsedCar", .bl (x == "UsedCar")])) q4 (.lst [.ref t8, .ref t9])) m4 (.lst ([t0, t1, t2, t3, t4, t5, t6, t7].map V.ref ++ [.ref t8, .ref t9]))) := ⟨_, rfl⟩
    have k4 : L2.Same H J4 := by rw [eJ4]; exact sm_trans k3 kk
    have e4 : J4 m4 = some (.lst ([t0, t1, t2, t3, t4, t5, t6, t7, t8, t9].map V.ref)) := by rw [eJ4]; exact ee
    have p4 : PrsT J4 [t0, t1, t2, t3, t4, t5, t6, t7, t8, t9] [("InvalidLane", x == "InvalidLane"), ("InvalidLog", x == "InvalidLog"), ("InvalidCar", x == "InvalidCar"), ("InvalidCars", x == "InvalidCars"), ("InvalidSides", x == "InvalidSides"), ("InvalidText", x == "InvalidText"), ("InvalidPattern", x == "InvalidPattern"), ("InvalidIndex", x == "InvalidIndex"), ("InvalidSightings", x == "InvalidSightings"), ("UsedCar", x == "UsedCar")] := by rw [eJ4]; exact pp
    rw [← eJ4]
    clear eJ4 kk pp ee em' k4' e4' p4' n8 n9 nq4 nm4 k3 e3 p3
    refine ⟨.ref m4, rfl, .ref a, rfl, a, D, .ref C10, _, _, rfl, er.ec, (ExV.keep k4 ha), .own _, (er.kit "UnknownCar" (by decide +kernel) C10 g10), by show 2 ≤ sizeLine; decide, fun t10 n10 => ?_⟩
    refine ⟨.ref a, rfl, a, D, .ref C11, _, _, rfl, er.ec, (ExV.keep ((sm_trans k4 (sm_new (o := (.tup [.str "UnknownCar", .bl (x == "UnknownCar")])) sm_refl n10))) ha), .own _, (er.kit "EmptyLane" (by decide +kernel) C11 g11), by show 2 ≤ sizeLine; decide, fun t11 n11 => ?_⟩
    refine ⟨by show 2 ≤ sizeLine; decide, fun q5 nq5 => ?_⟩
    obtain ⟨k5', e5', p5'⟩ := pr2 (p1 := ("UnknownCar", x == "UnknownCar")) (p2 := ("EmptyLane", x == "EmptyLane")) p4 n10 n11 nq5
    have em' := (pr3 (p1 := ("UnknownCar", x == "UnknownCar")) (p2 := ("EmptyLane", x == "EmptyLane")) n10 n11 nq5) _ _ e4
    refine ⟨m4, q5, _, _, rfl, rfl, em', upd_same, by show 12 ≤ sizeLine; decide, fun m5 nm5 => ?_⟩
    have kk := sm_trans k5' (sm_new (o := .lst ([t0, t1, t2, t3, t4, t5, t6, t7, t8, t9].map V.ref ++ [.ref t10, .ref t11])) sm_refl nm5)
    have pp := prsT_same p5' (sm_new (o := .lst ([t0, t1, t2, t3, t4, t5, t6, t7, t8, t9].map V.ref ++ [.ref t10, .ref t11])) sm_refl nm5)
    have ee : (upd (upd (upd (upd J4 t10 (.tup [.str "UnknownCar", .bl (x == "UnknownCar")])) t11 (.tup [.str "EmptyLane", .bl (x == "EmptyLane")])) q5 (.lst [.ref t10, .ref t11])) m5 (.lst ([t0, t1, t2, t3, t4, t5, t6, t7, t8, t9].map V.ref ++ [.ref t10, .ref t11]))) m5 = some (.lst ([t0, t1, t2, t3, t4, t5, t6, t7, t8, t9].map V.ref ++ [.ref t10, .ref t11])) := upd_same
    obtain ⟨J5, eJ5⟩ : ∃ J, J = (upd (upd (upd (upd J4 t10 (.tup [.str "UnknownCar", .bl (x == "UnknownCar")])) t11 (.tup [.str "EmptyLane", .bl (x == "EmptyLane")])) q5 (.lst [.ref t10, .ref t11])) m5 (.lst ([t0, t1, t2, t3, t4, t5, t6, t7, t8, t9].map V.ref ++ [.ref t10, .ref t11]))) := ⟨_, rfl⟩
    have k5 : L2.Same H J5 := by rw [eJ5]; exact sm_trans k4 kk
    have e5 : J5 m5 = some (.lst ([t0, t1, t2, t3, t4, t5, t6, t7, t8, t9, t10, t11].map V.ref)) := by rw [eJ5]; exact ee
    have p5 : PrsT J5 [t0, t1, t2, t3, t4, t5, t6, t7, t8, t9, t10, t11] [("InvalidLane", x == "InvalidLane"), ("InvalidLog", x == "InvalidLog"), ("InvalidCar", x == "InvalidCar"), ("InvalidCars", x == "InvalidCars"), ("InvalidSides", x == "InvalidSides"), ("InvalidText", x == "InvalidText"), ("InvalidPattern", x == "InvalidPattern"), ("InvalidIndex", x == "InvalidIndex"), ("InvalidSightings", x == "InvalidSightings"), ("UsedCar", x == "UsedCar"), ("UnknownCar", x == "UnknownCar"), ("EmptyLane", x == "EmptyLane")] := by rw [eJ5]; exact pp
    rw [← eJ5]
    clear eJ5 kk pp ee em' k5' e5' p5' n10 n11 nq5 nm5 k4 e4 p4
    refine ⟨.ref m5, rfl, .ref a, rfl, a, D, .ref C12, _, _, rfl, er.ec, (ExV.keep k5 ha), .own _, (er.kit "NotPossible" (by decide +kernel) C12 g12), by show 2 ≤ sizeLine; decide, fun t12 n12 => ?_⟩
    refine ⟨.ref a, rfl, a, D, .ref C13, _, _, rfl, er.ec, (ExV.keep ((sm_trans k5 (sm_new (o := (.tup [.str "NotPossible", .bl (x == "NotPossible")])) sm_refl n12))) ha), .own _, (er.kit "TooLarge" (by decide +kernel) C13 g13), by show 2 ≤ sizeLine; decide, fun t13 n13 => ?_⟩
    refine ⟨by show 2 ≤ sizeLine; decide, fun q6 nq6 => ?_⟩
    obtain ⟨k6', e6', p6'⟩ := pr2 (p1 := ("NotPossible", x == "NotPossible")) (p2 := ("TooLarge", x == "TooLarge")) p5 n12 n13 nq6
    have em' := (pr3 (p1 := ("NotPossible", x == "NotPossible")) (p2 := ("TooLarge", x == "TooLarge")) n12 n13 nq6) _ _ e5
    refine ⟨m5, q6, _, _, rfl, rfl, em', upd_same, by show 14 ≤ sizeLine; decide, fun m6 nm6 => ?_⟩
    have kk := sm_trans k6' (sm_new (o := .lst ([t0, t1, t2, t3, t4, t5, t6, t7, t8, t9, t10, t11].map V.ref ++ [.ref t12, .ref t13])) sm_refl nm6)
    have pp := prsT_same p6' (sm_new (o := .lst ([t0, t1, t2, t3, t4, t5, t6, t7, t8, t9, t10, t11].map V.ref ++ [.ref t12, .ref t13])) sm_refl nm6)
    have ee : (upd (upd (upd (upd J5 t12 (.tup [.str "NotPossible", .bl (x == "NotPossible")])) t13 (.tup [.str "TooLarge", .bl (x == "TooLarge")])) q6 (.lst [.ref t12, .ref t13])) m6 (.lst ([t0, t1, t2, t3, t4, t5, t6, t7, t8, t9, t10, t11].map V.ref ++ [.ref t12, .ref t13]))) m6 = some (.lst ([t0, t1, t2, t3, t4, t5, t6, t7, t8, t9, t10, t11].map V.ref ++ [.ref t12, .ref t13])) := upd_same
    obtain ⟨J6, eJ6⟩ : ∃ J, J = (upd (upd (upd (upd J5 t12 (.tup [.str "NotPossible", .bl (x == "NotPossible")])) t13 (.tup [.str "TooLarge", .bl (x == "TooLarge")])) q6 (.lst [.ref t12, .ref t13])) m6 (.lst ([t0, t1, t2, t3, t4, t5, t6, t7, t8, t9, t10, t11].map V.ref ++ [.ref t12, .ref t13]))) := ⟨_, rfl⟩
    have k6 : L2.Same H J6 := by rw [eJ6]; exact sm_trans k5 kk
    have e6 : J6 m6 = some (.lst ([t0, t1, t2, t3, t4, t5, t6, t7, t8, t9, t10, t11, t12, t13].map V.ref)) := by rw [eJ6]; exact ee
    have p6 : PrsT J6 [t0, t1, t2, t3, t4, t5, t6, t7, t8, t9, t10, t11, t12, t13] [("InvalidLane", x == "InvalidLane"), ("InvalidLog", x == "InvalidLog"), ("InvalidCar", x == "InvalidCar"), ("InvalidCars", x == "InvalidCars"), ("InvalidSides", x == "InvalidSides"), ("InvalidText", x == "InvalidText"), ("InvalidPattern", x == "InvalidPattern"), ("InvalidIndex", x == "InvalidIndex"), ("InvalidSightings", x == "InvalidSightings"), ("UsedCar", x == "UsedCar"), ("UnknownCar", x == "UnknownCar"), ("EmptyLane", x == "EmptyLane"), ("NotPossible", x == "NotPossible"), ("TooLarge", x == "TooLarge")] := by rw [eJ6]; exact pp
    rw [← eJ6]
    clear eJ6 kk pp ee em' k6' e6' p6' n12 n13 nq6 nm6 k5 e5 p5
    refine ⟨.ref m6, rfl, .ref a, rfl, a, D, .ref C14, _, _, rfl, er.ec, (ExV.keep k6 ha), .own _, (er.kit "NothingToUndo" (by decide +kernel) C14 g14), by show 2 ≤ sizeLine; decide, fun t14 n14 => ?_⟩
    refine ⟨.ref a, rfl, a, D, .ty "ValueError", _, _, rfl, er.ec, (ExV.keep ((sm_trans k6 (sm_new (o := (.tup [.str "NothingToUndo", .bl (x == "NothingToUndo")])) sm_refl n14))) ha), .ty _, er.ve, true, rfl, by show 2 ≤ sizeLine; decide, fun t15 n15 => ?_⟩
    refine ⟨by show 2 ≤ sizeLine; decide, fun q7 nq7 => ?_⟩
    obtain ⟨k7', e7', p7'⟩ := pr2 (p1 := ("NothingToUndo", x == "NothingToUndo")) (p2 := ("other", !true)) p6 n14 n15 nq7
    have em' := (pr3 (p1 := ("NothingToUndo", x == "NothingToUndo")) (p2 := ("other", !true)) n14 n15 nq7) _ _ e6
    refine ⟨m6, q7, _, _, rfl, rfl, em', upd_same, by show 16 ≤ sizeLine; decide, fun m7 nm7 => ?_⟩
    have kk := sm_trans k7' (sm_new (o := .lst ([t0, t1, t2, t3, t4, t5, t6, t7, t8, t9, t10, t11, t12, t13].map V.ref ++ [.ref t14, .ref t15])) sm_refl nm7)
    have pp := prsT_same p7' (sm_new (o := .lst ([t0, t1, t2, t3, t4, t5, t6, t7, t8, t9, t10, t11, t12, t13].map V.ref ++ [.ref t14, .ref t15])) sm_refl nm7)
    have ee : (upd (upd (upd (upd J6 t14 (.tup [.str "NothingToUndo", .bl (x == "NothingToUndo")])) t15 (.tup [.str "other", .bl (!true)])) q7 (.lst [.ref t14, .ref t15])) m7 (.lst ([t0, t1, t2, t3, t4, t5, t6, t7, t8, t9, t10, t11, t12, t13].map V.ref ++ [.ref t14, .ref t15]))) m7 = some (.lst ([t0, t1, t2, t3, t4, t5, t6, t7, t8, t9, t10, t11, t12, t13].map V.ref ++ [.ref t14, .ref t15])) := upd_same
    obtain ⟨J7, eJ7⟩ : ∃ J, J = (upd (upd (upd (upd J6 t14 (.tup [.str "NothingToUndo", .bl (x == "NothingToUndo")])) t15 (.tup [.str "other", .bl (!true)])) q7 (.lst [.ref t14, .ref t15])) m7 (.lst ([t0, t1, t2, t3, t4, t5, t6, t7, t8, t9, t10, t11, t12, t13].map V.ref ++ [.ref t14, .ref t15]))) := ⟨_, rfl⟩
    have k7 : L2.Same H J7 := by rw [eJ7]; exact sm_trans k6 kk
    have e7 : J7 m7 = some (.lst ([t0, t1, t2, t3, t4, t5, t6, t7, t8, t9, t10, t11, t12, t13, t14, t15].map V.ref)) := by rw [eJ7]; exact ee
    have p7 : PrsT J7 [t0, t1, t2, t3, t4, t5, t6, t7, t8, t9, t10, t11, t12, t13, t14, t15] [("InvalidLane", x == "InvalidLane"), ("InvalidLog", x == "InvalidLog"), ("InvalidCar", x == "InvalidCar"), ("InvalidCars", x == "InvalidCars"), ("InvalidSides", x == "InvalidSides"), ("InvalidText", x == "InvalidText"), ("InvalidPattern", x == "InvalidPattern"), ("InvalidIndex", x == "InvalidIndex"), ("InvalidSightings", x == "InvalidSightings"), ("UsedCar", x == "UsedCar"), ("UnknownCar", x == "UnknownCar"), ("EmptyLane", x == "EmptyLane"), ("NotPossible", x == "NotPossible"), ("TooLarge", x == "TooLarge"), ("NothingToUndo", x == "NothingToUndo"), ("other", !true)] := by rw [eJ7]; exact pp
    rw [← eJ7]
    clear eJ7 kk pp ee em' k7' e7' p7' n14 n15 nq7 nm7 k6 e6 p6
    refine ⟨⟨_, rfl⟩, .ref m7, rfl, m7, rfl, ⟨_, SqL.of e7⟩, fun d nd => ?_⟩
    refine lc_list (K := K) (a := m7) (xs := [t0, t1, t2, t3, t4, t5, t6, t7, t8, t9, t10, t11, t12, t13, t14, t15].map V.ref) (fun i H' => L2.Same J7 H' ∧ H' d = some (.lst ((((kindW3 x).take i).filter (·.2)).map fun p => V.str p.1))) ⟨sm_new sm_refl nd, upd_same⟩ (fun i H' _ q => SqL.of (q.1 _ _ e7)) ?_ ?_
    · rintro i y H' hy ⟨k, hd⟩
      have hi : i < 16 := (List.getElem?_eq_some_iff.mp hy).1
      obtain ⟨t, ht, hty⟩ := pair_at p7 i ((kindW3 x)[i]'hi) (List.getElem?_eq_getElem (l := kindW3 x) hi)
      have hz : y = .ref t := by
        rw [List.getElem?_map, ht] at hy
        exact (Option.some.inj hy).symm
      subst hz
      have hp : (kindW3 x)[i]? = some ((kindW3 x)[i]'hi) := List.getElem?_eq_getElem (l := kindW3 x) hi
      have ht2 : (kindW3 x).take (i + 1) = (kindW3 x).take i ++ [(kindW3 x)[i]'hi] := by rw [List.take_add_one, hp]; rfl
      generalize (kindW3 x)[i]'hi = p at hty ht2
      refine ⟨t, _, rfl, SqT.of (k _ _ hty), rfl, .str p.1, _, rfl, .bl p.2, _, rfl, rfl, rfl, .bl p.2, rfl, p.2, rfl, ?_⟩
      cases hb : p.2 with
      | true =>
        refine iteT ⟨.str p.1, rfl, _, hd, ?_, sm_upd k nd, ?_⟩
        · refine small1000 ?_
          rw [List.length_map]
          have h1 := List.length_filter_le (fun p : Str × Bool => p.2) ((kindW3 x).take i)
          have h2 : ((kindW3 x).take i).length ≤ 16 := by rw [List.length_take]; exact Nat.min_le_right _ _
          omega
        · rw [upd_same, ht2, List.filter_append, List.map_append]
          simp [hb]
      | false =>
        refine iteF ⟨k, ?_⟩
        rw [hd, ht2, List.filter_append, List.map_append]
        simp [hb]
    · rintro H8 ⟨k8, hd⟩
      rw [show (kindW3 x).take ([t0, t1, t2, t3, t4, t5, t6, t7, t8, t9, t10, t11, t12, t13, t14, t15].map V.ref : List V).length = kindW3 x from rfl, kind3_one hx] at hd
      refine ⟨_, _, [x], rfl, rfl, .inl (SqL.of hd), kind3_size hx, ?_⟩
      rw [show Txt.join " " [x] = x from kind3_join hx]
      exact q H8 (sm_trans k7 k8)

end
end Ln


set_option Elab.async false
set_option linter.all false
set_option maxRecDepth 100000
set_option maxHeartbeats 8000000
namespace Ln
open PySem PySem.Spec PyProof.Rows L2 GxR
theorem scMade : FnScope ["ones", "names", "e"] [] (defScope sMade) := ⟨rfl, rfl, rfl, by decide +kernel, rfl, by decide +kernel, by decide +kernel⟩
def namesT : Str := "InvalidLane InvalidLog InvalidCar InvalidCars InvalidSides InvalidText InvalidPattern InvalidIndex InvalidSightings UsedCar UnknownCar EmptyLane NotPossible TooLarge NothingToUndo"
/-- exceptions of these classes -/
def EsT (K : PySem.W.Frag) (mg : Str → Option Value) (CB : Addr) (H : Hp) (as : List Addr) (xs : List Str) : Prop := Paired (fun a x => ∃ D, ExV H a D ∧ Ek K mg CB x D) as xs
theorem es_same {K : PySem.W.Frag} {mg : Str → Option Value} {CB : Addr} {H H' : Hp} {as : List Addr} {xs : List Str} (p : EsT K mg CB H as xs) (k : L2.Same H H') : EsT K mg CB H' as xs := Paired.imp p fun _ _ ⟨D, v, e⟩ => ⟨D, v.keep k, e⟩
theorem es_add {K : PySem.W.Frag} {mg : Str → Option Value} {CB : Addr} {H H' : Hp} {as : List Addr} {xs : List Str} {a D : Addr} {x : Str} (p : EsT K mg CB H as xs) (k : L2.Same H H') (v : ExV H' a D) (e : Ek K mg CB x D) : EsT K mg CB H' (as ++ [a]) (xs ++ [x]) :=
  paired_app3 (es_same p k) (.cons ⟨D, v, e⟩ .nil)
theorem es_at {K : PySem.W.Frag} {mg : Str → Option Value} {CB : Addr} {H : Hp} {as : List Addr} {xs : List Str} (p : EsT K mg CB H as xs) {i : Nat} {y : V} (h : (as.map V.ref)[i]? = some y) : ∃ (a : Addr) (x : Str) (D : Addr), y = .ref a ∧ xs[i]? = some x ∧ ExV H a D ∧ Ek K mg CB x D := by
  induction p generalizing i with
  | nil => cases h
  | @cons a x as xs q _ ih =>
    cases i with
    | zero =>
      cases h
      obtain ⟨D, v, e⟩ := q
      exact ⟨a, x, D, rfl, rfl, v, e⟩
    | succ i => exact ih h
theorem big_free {H : Hp} {a C dx : Addr} (nd : (upd H a (exo a C none)) dx = none) (ne : dx ≠ a) : H dx = none := by
  rw [upd_ne ne] at nd
  exact nd
theorem big_same {H : Hp} {a C dx : Addr} {v : V} (n : H a = none) (nd : (upd H a (exo a C none)) dx = none) (ne : dx ≠ a) : L2.Same H (upd (del (upd (upd (upd H a (exo a C none)) dx (exd dx [("limit", v)])) a (exo a C (some dx))) a) dx (.xd [("limit", v)])) := fun b o e => by
  have ha : b ≠ a := fun z => by
    rw [z, n] at e
    cases e
  have hd : b ≠ dx := fun z => by
    rw [z, big_free nd ne] at e
    cases e
  rw [upd_ne hd, del_ne ha, upd_ne ha, upd_ne hd, upd_ne ha]
  exact e
theorem big_at {H : Hp} {a C dx : Addr} {v : V} (ne : dx ≠ a) : (upd (upd (upd H a (exo a C none)) dx (exd dx [("limit", v)])) a (exo a C (some dx))) dx = some (exd dx [("limit", v)]) := by
  rw [upd_ne ne, upd_same]
theorem big_dx {H : Hp} {a C dx : Addr} {fs : List (Str × V)} (n : (upd H dx (.xd fs)) a = none) : (upd (upd H dx (.xd fs)) a (ExH (.ref C) (some dx) a)) dx = some (.xd fs) := by
  have ne : dx ≠ a := fun z => by
    rw [← z, upd_same] at n
    cases n
  rw [upd_ne ne, upd_same]
theorem big_exv {H : Hp} {a C dx : Addr} {fs : List (Str × V)} (n : (upd H dx (.xd fs)) a = none) : ExV (upd (upd H dx (.xd fs)) a (ExH (.ref C) (some dx) a)) a C := .inr ⟨dx, fs, upd_same, big_dx n⟩
section
variable {P : Program} {w : World} {K : PySem.W.Frag} {mg : Str → Option Value} {base : Heap} {Ps : List Addr}
/-- TooLarge.__init__ -/
def spTL (K : PySem.W.Frag) (C : Addr) : Sp := fun vs H Q _ => ∃ (a : Addr) (v : V), vs = [.ref a, v] ∧ H a = some (exo a C none) ∧ ∀ dx, H dx = none → dx ≠ a → Q .non (upd (upd H dx (exd dx [("limit", v)])) a (exo a C (some dx)))
def spMade : Sp := fun vs H Q _ => vs = [] ∧ ∀ H', L2.Same H H' → Q (.bl true) H'
theorem ok_made {f fK fI D13 CB : Addr} {fd fdK fdI : FuncData} (F : Fun K "_law_made_right" "_law_made_right" sMade f fd) (B : Bi mg) (gB : mg "LaneError" = some (.ref CB))
    (hX : ∀ y ∈ kindN3, y ≠ "TooLarge" → ∃ D, Xc K mg y D ∧ Ek K mg CB y D) (ek13 : Ek K mg CB "TooLarge" D13) (OT : OexC K D13) (XT : XfC K D13) (lT : PySem.W.findIn K (.ref D13) "limit" = some none) (iT : PySem.W.findIn K (.ref D13) "__init__" = some (some (.ref fI))) (tT : PySem.W.typeIn K (.ref fI) = some (.type "function"))
    (GI : FnOk P w K mg base CX0 1 fI fdI ["self", "limit"] (spTL K D13)) (bI : Binds K fdI ["self", "limit"] [])
    (GK : FnOk P w K mg base CX0 1 fK fdK ["e"] (spKindV K mg CB)) (mgK : mg "_law_kind" = some (.ref fK)) (kK : PySem.W.keepIn K (.ref fK) = true) (bK : Binds K fdK ["e"] []) : FnOk P w K mg base CX0 3 f fd [] spMade := by
  refine F.ok scMade (fun vs H Q E h => ?_) (fun cdv A outer s H vs Q E hr h => ?_)
  · obtain ⟨rfl, _⟩ := h
    rfl
  · obtain ⟨rfl, q⟩ := h
    have hu : A.units + 3 + 64 < cLine := hr.units
    have gT := ek13.g
    obtain ⟨D0, x0, ek0⟩ := hX "InvalidLane" (List.contains_iff_mem.mp (by decide +kernel)) (by decide +kernel)
    obtain ⟨D1, x1, ek1⟩ := hX "InvalidLog" (List.contains_iff_mem.mp (by decide +kernel)) (by decide +kernel)
    obtain ⟨D2, x2, ek2⟩ := hX "InvalidCar" (List.contains_iff_mem.mp (by decide +kernel)) (by decide +kernel)
    obtain ⟨D3, x3, ek3⟩ := hX "InvalidCars" (List.contains_iff_mem.mp (by decide +kernel)) (by decide +kernel)
    obtain ⟨D4, x4, ek4⟩ := hX "InvalidSides" (List.contains_iff_mem.mp (by decide +kernel)) (by decide +kernel)
    obtain ⟨D5, x5, ek5⟩ := hX "InvalidText" (List.contains_iff_mem.mp (by decide +kernel)) (by decide +kernel)
    obtain ⟨D6, x6, ek6⟩ := hX "InvalidPattern" (List.contains_iff_mem.mp (by decide +kernel)) (by decide +kernel)
    obtain ⟨D7, x7, ek7⟩ := hX "InvalidIndex" (List.contains_iff_mem.mp (by decide +kernel)) (by decide +kernel)
    obtain ⟨D8, x8, ek8⟩ := hX "InvalidSightings" (List.contains_iff_mem.mp (by decide +kernel)) (by decide +kernel)
    obtain ⟨D9, x9, ek9⟩ := hX "UsedCar" (List.contains_iff_mem.mp (by decide +kernel)) (by decide +kernel)
    obtain ⟨D10, x10, ek10⟩ := hX "UnknownCar" (List.contains_iff_mem.mp (by decide +kernel)) (by decide +kernel)
    obtain ⟨D11, x11, ek11⟩ := hX "EmptyLane" (List.contains_iff_mem.mp (by decide +kernel)) (by decide +kernel)
    obtain ⟨D12, x12, ek12⟩ := hX "NotPossible" (List.contains_iff_mem.mp (by decide +kernel)) (by decide +kernel)
    obtain ⟨D14, x14, ek14⟩ := hX "NothingToUndo" (List.contains_iff_mem.mp (by decide +kernel)) (by decide +kernel)
    refine ⟨_, (pss_cons (ps_set (i := 0) scMade.nd rfl (.inl rfl) (pe_lst (pa_cons (pe_exc0 PySem.F.excBase_ValueError x0.x x0.g x0.k rfl) (pa_cons (pe_exc0 PySem.F.excBase_ValueError x1.x x1.g x1.k rfl) (pa_cons (pe_exc0 PySem.F.excBase_ValueError x2.x x2.g x2.k rfl) (pa_cons (pe_exc0 PySem.F.excBase_ValueError x3.x x3.g x3.k rfl) (pa_cons (pe_exc0 PySem.F.excBase_ValueError x4.x x4.g x4.k rfl) (pa_cons (pe_exc0 PySem.F.excBase_ValueError x5.x x5.g x5.k rfl) (pa_cons (pe_exc0 PySem.F.excBase_ValueError x6.x x6.g x6.k rfl) pa_nil)))))))))
      (pss_cons (ps_set (i := 0) scMade.nd rfl (.inl rfl) (pe_op op_cat (pv 0) (pe_lst (pa_cons (pe_exc0 PySem.F.excBase_ValueError x7.x x7.g x7.k rfl) (pa_cons (pe_exc0 PySem.F.excBase_ValueError x8.x x8.g x8.k rfl) (pa_cons (pe_exc0 PySem.F.excBase_ValueError x9.x x9.g x9.k rfl) (pa_cons (pe_exc0 PySem.F.excBase_ValueError x10.x x10.g x10.k rfl) (pa_cons (pe_exc0 PySem.F.excBase_ValueError x11.x x11.g x11.k rfl) (pa_cons (pe_exc0 PySem.F.excBase_ValueError x12.x x12.g x12.k rfl) pa_nil)))))))))
      (pss_cons (ps_set (i := 0) scMade.nd rfl (.inl rfl) (pe_op op_cat (pv 0) (pe_lst (pa_cons (pe_mk (pmk_oex OT iT tT GI hr bI .nil pass0 (by rfl) gT (pa_cons pe_int pa_nil))) (pa_cons (pe_exc0 PySem.F.excBase_ValueError x14.x x14.g x14.k rfl) pa_nil)))))
      (pss_cons (ps_set (i := 1) scMade.nd rfl (.inl rfl) pe_str)
      (pss_cons (ps_set (i := 1) scMade.nd rfl (.inl rfl) (pe_op op_add_str (pv 1) pe_str))
      (pss_cons (ps_if (pt_cmpR (op_neD hu) (pe_lc (own := [("e", 2)]) (g := gName 2) (tt := tNot (tB (tCB (rIsV K) (tCons (tVar 2) (tCons (tC (.ref CB)) tNil))))) (te := tVar 2) (by rfl) scMade.nd (pi_list (pv 0)) (blkOk_by (own := [("e", 2)]) (N := ["ones", "names", "e"]) (sc := defScope sMade) (by decide +kernel)) (fun _ _ _ _ _ => pg_name (i := 2) scMade.nd rfl (Or.inl rfl)) (fun _ _ _ _ _ => pts_one (pt_not (pt_val (pe_callB call_isV (by rfl) B.isi (by decide +kernel) (pa_cons (pv 2) (pa_cons (pe_glob (v := .ref CB) rfl gB rfl) pa_nil)))))) (fun _ _ _ _ _ => pv 2)) (pe_lst pa_nil) (nomark _)) (pss_one (ps_ret pe_bl)) pss_nil)
      (pss_one (ps_ret (pe_and (pe_cmpR op_eq (pe_join pe_str (pe_lc (own := [("e", 2)]) (g := gName 2) (tt := tYes) (te := tCall (spKindV K mg CB) [] E0 (tCons (tVar 2) tNil)) (by rfl) scMade.nd (pi_list (pv 0)) (blkOk_by (own := [("e", 2)]) (N := ["ones", "names", "e"]) (sc := defScope sMade) (by decide +kernel)) (fun _ _ _ _ _ => pg_name (i := 2) scMade.nd rfl (Or.inl rfl)) (fun _ _ _ _ _ => pts_nil) (fun _ _ _ _ _ => (pe_call GK (hr.mono (by decide)) (by rfl) mgK kK bK .nil pass0 (pa_cons (pv 2) pa_nil))))) (pv 1) (nomark _)) (pe_one (pe_cmpR op_eq (pe_xv (pe_mk (pmk_oex OT iT tT GI hr bI .nil pass0 (by rfl) gT (pa_cons (pe_op op_pow pe_int pe_int) pa_nil)))) (pe_op op_pow pe_int pe_int) (nomark _)))))))))))), ?_⟩
    intro a0 n0
    have kk : L2.Same H (upd H a0 (ExH (.ref D0) none a0)) := sm_new sm_refl n0
    have vv : ExV (upd H a0 (ExH (.ref D0) none a0)) a0 D0 := .inl upd_same
    generalize upd H a0 (ExH (.ref D0) none a0) = J0 at kk vv ⊢
    have p0 : EsT K mg CB J0 [a0] ["InvalidLane"] := es_add (p := (Paired.nil : EsT K mg CB H [] [])) kk vv ek0
    have k0 := sm_trans (sm_refl (H := H)) kk
    clear kk vv
    intro a1 n1
    have kk : L2.Same J0 (upd J0 a1 (ExH (.ref D1) none a1)) := sm_new sm_refl n1
    have vv : ExV (upd J0 a1 (ExH (.ref D1) none a1)) a1 D1 := .inl upd_same
    generalize upd J0 a1 (ExH (.ref D1) none a1) = J1 at kk vv ⊢
    have p1 : EsT K mg CB J1 [a0, a1] ["InvalidLane", "InvalidLog"] := es_add (p := p0) kk vv ek1
    have k1 := sm_trans k0 kk
    clear kk vv
    intro a2 n2
    have kk : L2.Same J1 (upd J1 a2 (ExH (.ref D2) none a2)) := sm_new sm_refl n2
    have vv : ExV (upd J1 a2 (ExH (.ref D2) none a2)) a2 D2 := .inl upd_same
    generalize upd J1 a2 (ExH (.ref D2) none a2) = J2 at kk vv ⊢
    have p2 : EsT K mg CB J2 [a0, a1, a2] ["InvalidLane", "InvalidLog", "InvalidCar"] := es_add (p := p1) kk vv ek2
    have k2 := sm_trans k1 kk
    clear kk vv
    intro a3 n3
    have kk : L2.Same J2 (upd J2 a3 (ExH (.ref D3) none a3)) := sm_new sm_refl n3
    have vv : ExV (upd J2 a3 (ExH (.ref D3) none a3)) a3 D3 := .inl upd_same
    generalize upd J2 a3 (ExH (.ref D3) none a3) = J3 at kk vv ⊢
    have p3 : EsT K mg CB J3 [a0, a1, a2, a3] ["InvalidLane", "InvalidLog", "InvalidCar", "InvalidCars"] := es_add (p := p2) kk vv ek3
    have k3 := sm_trans k2 kk
    clear kk vv
    intro a4 n4
    have kk : L2.Same J3 (upd J3 a4 (ExH (.ref D4) none a4)) := sm_new sm_refl n4
    have vv : ExV (upd J3 a4 (ExH (.ref D4) none a4)) a4 D4 := .inl upd_same
    generalize upd J3 a4 (ExH (.ref D4) none a4) = J4 at kk vv ⊢
    have p4 : EsT K mg CB J4 [a0, a1, a2, a3, a4] ["InvalidLane", "InvalidLog", "InvalidCar", "InvalidCars", "InvalidSides"] := es_add (p := p3) kk vv ek4
    have k4 := sm_trans k3 kk
    clear kk vv
    intro a5 n5
    have kk : L2.Same J4 (upd J4 a5 (ExH (.ref D5) none a5)) := sm_new sm_refl n5
    have vv : ExV (upd J4 a5 (ExH (.ref D5) none a5)) a5 D5 := .inl upd_same
    generalize upd J4 a5 (ExH (.ref D5) none a5) = J5 at kk vv ⊢
    have p5 : EsT K mg CB J5 [a0, a1, a2, a3, a4, a5] ["InvalidLane", "InvalidLog", "InvalidCar", "InvalidCars", "InvalidSides", "InvalidText"] := es_add (p := p4) kk vv ek5
    have k5 := sm_trans k4 kk
    clear kk vv
    intro a6 n6
    have kk : L2.Same J5 (upd J5 a6 (ExH (.ref D6) none a6)) := sm_new sm_refl n6
    have vv : ExV (upd J5 a6 (ExH (.ref D6) none a6)) a6 D6 := .inl upd_same
    generalize upd J5 a6 (ExH (.ref D6) none a6) = J6 at kk vv ⊢
    have p6 : EsT K mg CB J6 [a0, a1, a2, a3, a4, a5, a6] ["InvalidLane", "InvalidLog", "InvalidCar", "InvalidCars", "InvalidSides", "InvalidText", "InvalidPattern"] := es_add (p := p5) kk vv ek6
    have k6 := sm_trans k5 kk
    clear kk vv
    refine ⟨by show 7 ≤ sizeLine; decide, fun q0 nq0 => ?_⟩
    have kk : L2.Same J6 (upd J6 q0 (.lst [.ref a0, .ref a1, .ref a2, .ref a3, .ref a4, .ref a5, .ref a6])) := sm_new sm_refl nq0
    have eq : (upd J6 q0 (.lst [.ref a0, .ref a1, .ref a2, .ref a3, .ref a4, .ref a5, .ref a6])) q0 = some (.lst [.ref a0, .ref a1, .ref a2, .ref a3, .ref a4, .ref a5, .ref a6]) := upd_same
    generalize upd J6 q0 (.lst [.ref a0, .ref a1, .ref a2, .ref a3, .ref a4, .ref a5, .ref a6]) = I0 at kk eq ⊢
    have p := es_same p6 kk
    have k := sm_trans k6 kk
    obtain ⟨m0, em0⟩ : ∃ m, m = q0 := ⟨_, rfl⟩
    rw [← em0] at eq ⊢
    have em := eq
    clear kk eq em0 nq0
    refine ⟨.ref m0, rfl, ?_⟩
    intro a7 n7
    have kk : L2.Same I0 (upd I0 a7 (ExH (.ref D7) none a7)) := sm_new sm_refl n7
    have vv : ExV (upd I0 a7 (ExH (.ref D7) none a7)) a7 D7 := .inl upd_same
    generalize upd I0 a7 (ExH (.ref D7) none a7) = J7 at kk vv ⊢
    have p7 : EsT K mg CB J7 [a0, a1, a2, a3, a4, a5, a6, a7] ["InvalidLane", "InvalidLog", "InvalidCar", "InvalidCars", "InvalidSides", "InvalidText", "InvalidPattern", "InvalidIndex"] := es_add (p := p) kk vv ek7
    have k7 := sm_trans k kk
    have em := kk _ _ em
    clear kk vv
    intro a8 n8
    have kk : L2.Same J7 (upd J7 a8 (ExH (.ref D8) none a8)) := sm_new sm_refl n8
    have vv : ExV (upd J7 a8 (ExH (.ref D8) none a8)) a8 D8 := .inl upd_same
    generalize upd J7 a8 (ExH (.ref D8) none a8) = J8 at kk vv ⊢
    have p8 : EsT K mg CB J8 [a0, a1, a2, a3, a4, a5, a6, a7, a8] ["InvalidLane", "InvalidLog", "InvalidCar", "InvalidCars", "InvalidSides", "InvalidText", "InvalidPattern", "InvalidIndex", "InvalidSightings"] := es_add (p := p7) kk vv ek8
    have k8 := sm_trans k7 kk
    have em := kk _ _ em
    clear kk vv
    intro a9 n9
    have kk : L2.Same J8 (upd J8 a9 (ExH (.ref D9) none a9)) := sm_new sm_refl n9
    have vv : ExV (upd J8 a9 (ExH (.ref D9) none a9)) a9 D9 := .inl upd_same
    generalize upd J8 a9 (ExH (.ref D9) none a9) = J9 at kk vv ⊢
    have p9 : EsT K mg CB J9 [a0, a1, a2, a3, a4, a5, a6, a7, a8, a9] ["InvalidLane", "InvalidLog", "InvalidCar", "InvalidCars", "InvalidSides", "InvalidText", "InvalidPattern", "InvalidIndex", "InvalidSightings", "UsedCar"] := es_add (p := p8) kk vv ek9
    have k9 := sm_trans k8 kk
    have em := kk _ _ em
    clear kk vv
    intro a10 n10
    have kk : L2.Same J9 (upd J9 a10 (ExH (.ref D10) none a10)) := sm_new sm_refl n10
    have vv : ExV (upd J9 a10 (ExH (.ref D10) none a10)) a10 D10 := .inl upd_same
    generalize upd J9 a10 (ExH (.ref D10) none a10) = J10 at kk vv ⊢
    have p10 : EsT K mg CB J10 [a0, a1, a2, a3, a4, a5, a6, a7, a8, a9, a10] ["InvalidLane", "InvalidLog", "InvalidCar", "InvalidCars", "InvalidSides", "InvalidText", "InvalidPattern", "InvalidIndex", "InvalidSightings", "UsedCar", "UnknownCar"] := es_add (p := p9) kk vv ek10
    have k10 := sm_trans k9 kk
    have em := kk _ _ em
    clear kk vv
    intro a11 n11
    have kk : L2.Same J10 (upd J10 a11 (ExH (.ref D11) none a11)) := sm_new sm_refl n11
    have vv : ExV (upd J10 a11 (ExH (.ref D11) none a11)) a11 D11 := .inl upd_same
    generalize upd J10 a11 (ExH (.ref D11) none a11) = J11 at kk vv ⊢
    have p11 : EsT K mg CB J11 [a0, a1, a2, a3, a4, a5, a6, a7, a8, a9, a10, a11] ["InvalidLane", "InvalidLog", "InvalidCar", "InvalidCars", "InvalidSides", "InvalidText", "InvalidPattern", "InvalidIndex", "InvalidSightings", "UsedCar", "UnknownCar", "EmptyLane"] := es_add (p := p10) kk vv ek11
    have k11 := sm_trans k10 kk
    have em := kk _ _ em
    clear kk vv
    intro a12 n12
    have kk : L2.Same J11 (upd J11 a12 (ExH (.ref D12) none a12)) := sm_new sm_refl n12
    have vv : ExV (upd J11 a12 (ExH (.ref D12) none a12)) a12 D12 := .inl upd_same
    generalize upd J11 a12 (ExH (.ref D12) none a12) = J12 at kk vv ⊢
    have p12 : EsT K mg CB J12 [a0, a1, a2, a3, a4, a5, a6, a7, a8, a9, a10, a11, a12] ["InvalidLane", "InvalidLog", "InvalidCar", "InvalidCars", "InvalidSides", "InvalidText", "InvalidPattern", "InvalidIndex", "InvalidSightings", "UsedCar", "UnknownCar", "EmptyLane", "NotPossible"] := es_add (p := p11) kk vv ek12
    have k12 := sm_trans k11 kk
    have em := kk _ _ em
    clear kk vv
    refine ⟨by show 6 ≤ sizeLine; decide, fun q1 nq1 => ?_⟩
    have kk : L2.Same J12 (upd J12 q1 (.lst [.ref a7, .ref a8, .ref a9, .ref a10, .ref a11, .ref a12])) := sm_new sm_refl nq1
    have eq : (upd J12 q1 (.lst [.ref a7, .ref a8, .ref a9, .ref a10, .ref a11, .ref a12])) q1 = some (.lst [.ref a7, .ref a8, .ref a9, .ref a10, .ref a11, .ref a12]) := upd_same
    generalize upd J12 q1 (.lst [.ref a7, .ref a8, .ref a9, .ref a10, .ref a11, .ref a12]) = I1 at kk eq ⊢
    have p := es_same p12 kk
    have k := sm_trans k12 kk
    have em := kk _ _ em
    refine ⟨m0, q1, _, _, rfl, rfl, em, eq, by show 13 ≤ sizeLine; decide, fun m1 nm1 => ?_⟩
    have kk2 : L2.Same I1 (upd I1 m1 (.lst ([.ref a0, .ref a1, .ref a2, .ref a3, .ref a4, .ref a5, .ref a6] ++ [.ref a7, .ref a8, .ref a9, .ref a10, .ref a11, .ref a12]))) := sm_new sm_refl nm1
    have eq2 : (upd I1 m1 (.lst ([.ref a0, .ref a1, .ref a2, .ref a3, .ref a4, .ref a5, .ref a6] ++ [.ref a7, .ref a8, .ref a9, .ref a10, .ref a11, .ref a12]))) m1 = some (.lst [.ref a0, .ref a1, .ref a2, .ref a3, .ref a4, .ref a5, .ref a6, .ref a7, .ref a8, .ref a9, .ref a10, .ref a11, .ref a12]) := upd_same
    generalize upd I1 m1 (.lst ([.ref a0, .ref a1, .ref a2, .ref a3, .ref a4, .ref a5, .ref a6] ++ [.ref a7, .ref a8, .ref a9, .ref a10, .ref a11, .ref a12])) = M1 at kk2 eq2 ⊢
    have pM1 := es_same p kk2
    have kM1 := sm_trans k kk2
    clear em kk eq kk2 p k nq1 nm1
    have em := eq2
    clear eq2
    refine ⟨.ref m1, rfl, ?_⟩
    refine ⟨by show 1 ≤ 1000; decide, fun b n => ⟨b, .int 12, rfl, upd_same, fun dx nd ne => ⟨rfl, dx, [("limit", .int 12)], upd_same, big_at ne, big_free nd ne, fun a13 n13 => ?_⟩⟩⟩
    have kk := sm_trans (big_same (C := D13) (v := .int 12) n nd ne) (sm_new (o := ExH (.ref D13) (some dx) a13) sm_refl n13)
    have vv := big_exv (C := D13) n13
    generalize upd (upd (del _ _) _ _) _ _ = J13 at kk vv ⊢
    have p13 : EsT K mg CB J13 [a0, a1, a2, a3, a4, a5, a6, a7, a8, a9, a10, a11, a12, a13] ["InvalidLane", "InvalidLog", "InvalidCar", "InvalidCars", "InvalidSides", "InvalidText", "InvalidPattern", "InvalidIndex", "InvalidSightings", "UsedCar", "UnknownCar", "EmptyLane", "NotPossible", "TooLarge"] := es_add (p := pM1) kk vv ek13
    have k13 := sm_trans kM1 kk
    have em := kk _ _ em
    clear kk vv n nd ne
    intro a14 n14
    have kk : L2.Same J13 (upd J13 a14 (ExH (.ref D14) none a14)) := sm_new sm_refl n14
    have vv : ExV (upd J13 a14 (ExH (.ref D14) none a14)) a14 D14 := .inl upd_same
    generalize upd J13 a14 (ExH (.ref D14) none a14) = J14 at kk vv ⊢
    have p14 : EsT K mg CB J14 [a0, a1, a2, a3, a4, a5, a6, a7, a8, a9, a10, a11, a12, a13, a14] ["InvalidLane", "InvalidLog", "InvalidCar", "InvalidCars", "InvalidSides", "InvalidText", "InvalidPattern", "InvalidIndex", "InvalidSightings", "UsedCar", "UnknownCar", "EmptyLane", "NotPossible", "TooLarge", "NothingToUndo"] := es_add (p := p13) kk vv ek14
    have k14 := sm_trans k13 kk
    have em := kk _ _ em
    clear kk vv
    refine ⟨by show 2 ≤ sizeLine; decide, fun q2 nq2 => ?_⟩
    have kk : L2.Same J14 (upd J14 q2 (.lst [.ref a13, .ref a14])) := sm_new sm_refl nq2
    have eq : (upd J14 q2 (.lst [.ref a13, .ref a14])) q2 = some (.lst [.ref a13, .ref a14]) := upd_same
    generalize upd J14 q2 (.lst [.ref a13, .ref a14]) = I2 at kk eq ⊢
    have p := es_same p14 kk
    have k := sm_trans k14 kk
    have em := kk _ _ em
    refine ⟨m1, q2, _, _, rfl, rfl, em, eq, by show 15 ≤ sizeLine; decide, fun m2 nm2 => ?_⟩
    have kk2 : L2.Same I2 (upd I2 m2 (.lst ([.ref a0, .ref a1, .ref a2, .ref a3, .ref a4, .ref a5, .ref a6, .ref a7, .ref a8, .ref a9, .ref a10, .ref a11, .ref a12] ++ [.ref a13, .ref a14]))) := sm_new sm_refl nm2
    have eq2 : (upd I2 m2 (.lst ([.ref a0, .ref a1, .ref a2, .ref a3, .ref a4, .ref a5, .ref a6, .ref a7, .ref a8, .ref a9, .ref a10, .ref a11, .ref a12] ++ [.ref a13, .ref a14]))) m2 = some (.lst [.ref a0, .ref a1, .ref a2, .ref a3, .ref a4, .ref a5, .ref a6, .ref a7, .ref a8, .ref a9, .ref a10, .ref a11, .ref a12, .ref a13, .ref a14]) := upd_same
    generalize upd I2 m2 (.lst ([.ref a0, .ref a1, .ref a2, .ref a3, .ref a4, .ref a5, .ref a6, .ref a7, .ref a8, .ref a9, .ref a10, .ref a11, .ref a12] ++ [.ref a13, .ref a14])) = M2 at kk2 eq2 ⊢
    have pM2 := es_same p kk2
    have kM2 := sm_trans k kk2
    clear em kk eq kk2 p k nq2 nm2
    have em := eq2
    clear eq2
    obtain ⟨as, eas⟩ : ∃ as, as = [a0, a1, a2, a3, a4, a5, a6, a7, a8, a9, a10, a11, a12, a13, a14] := ⟨_, rfl⟩
    have em : M2 m2 = some (.lst (as.map V.ref)) := by rw [eas]; exact em
    have pp : EsT K mg CB M2 as kindN3 := by rw [eas]; exact pM2
    clear eas pM2
    refine ⟨.str _, rfl, _, _, rfl, rfl, by decide +kernel, ?_⟩
    rw [show (Str.ofString "InvalidLane InvalidLog InvalidCar InvalidCars InvalidSides InvalidText InvalidPattern InvalidIndex" ++ Str.ofString " InvalidSightings UsedCar UnknownCar EmptyLane NotPossible TooLarge NothingToUndo") = namesT from by decide +kernel]
    -- all are LaneErrors
    refine ⟨.ref m2, rfl, m2, rfl, ⟨_, SqL.of em⟩, fun d nd => ?_⟩
    refine lc_list (K := K) (a := m2) (xs := as.map V.ref) (fun _ H' => L2.Same M2 H' ∧ H' d = some (.lst [])) ⟨sm_new sm_refl nd, upd_same⟩ (fun i H' _ q => SqL.of (q.1 _ _ em)) ?_ ?_
    · rintro i y H' hy ⟨k, hd⟩
      obtain ⟨a, x, D, rfl, hx, hv, ek⟩ := es_at pp hy
      refine ⟨rfl, .ref a, rfl, a, D, .ref CB, _, true, rfl, ek.ec, ExV.keep k hv, .own _, ek.ex, true, rfl, iteF ⟨k, hd⟩⟩
    · rintro H1 ⟨k1, hd⟩
      refine ⟨by show 0 ≤ sizeLine; decide, fun z nz => ?_⟩
      have k2 : L2.Same M2 (upd H1 z (.lst [])) := sm_trans k1 (sm_new sm_refl nz)
      refine ⟨.list [], .list [], .lst (SqL.of ((sm_new (o := .lst []) sm_refl nz) _ _ hd)) .nil, .lst (SqL.of upd_same) .nil, rfl, rfl, false, rfl, iteF ?_⟩
      generalize upd H1 z (.lst []) = H2 at k2 ⊢
      -- the names
      refine ⟨⟨_, rfl⟩, .ref m2, rfl, m2, rfl, ⟨_, SqL.of (k2 _ _ em)⟩, fun d2 nd2 => ?_⟩
      refine lc_list (K := K) (a := m2) (xs := as.map V.ref) (fun i H' => L2.Same H2 H' ∧ H' d2 = some (.lst ((kindN3.take i).map V.str))) ⟨sm_new sm_refl nd2, upd_same⟩ (fun i H' _ q => SqL.of (q.1 _ _ (k2 _ _ em))) ?_ ?_
      · rintro i y H' hy ⟨k, hd⟩
        obtain ⟨a, x, D, rfl, hx, hv, ek⟩ := es_at pp hy
        refine ⟨rfl, ?_⟩
        refine ⟨.ref a, rfl, a, D, x, rfl, ExV.keep (sm_trans k2 k) hv, List.mem_of_getElem? hx, ek, fun H9 k9 => ?_⟩
        have hl : i < 15 := (List.getElem?_eq_some_iff.mp hx).1
        refine ⟨_, k9 _ _ hd, by rw [List.length_map, List.length_take]; exact small1000 (by omega), sm_upd (sm_trans k k9) nd2, ?_⟩
        rw [upd_same, List.take_add_one, hx, List.map_append]
        rfl
      · rintro H3 ⟨k3, hd3⟩
        have hl : (as.map V.ref).length = 15 := by rw [List.length_map, pp.length]; rfl
        rw [hl, show kindN3.take 15 = kindN3 from rfl] at hd3
        refine ⟨_, _, kindN3, rfl, rfl, .inl (SqL.of hd3), by decide +kernel, ?_⟩
        rw [show Txt.join " " kindN3 = namesT from by decide +kernel]
        refine ⟨.str namesT, rfl, rfl, true, by rw [decide_eq_true rfl], iteT ?_⟩
        refine ⟨10, 29, rfl, rfl, ⟨by decide, by decide, by decide⟩, by show 1 ≤ 1000; decide, fun b n => ⟨b, _, rfl, upd_same, fun dx nd ne => ⟨rfl, dx, _, upd_same, big_at ne, big_free nd ne, fun a na => ?_⟩⟩⟩
        refine ⟨a, D13, dx, _, _, rfl, XT, lT, upd_same, big_dx na, rfl, 10, 29, rfl, rfl, ⟨by decide, by decide, by decide⟩, rfl, ?_⟩
        rw [decide_eq_true rfl]
        exact q _ (sm_trans kM2 (sm_trans k2 (sm_trans k3 (sm_trans (big_same n nd ne) (sm_new sm_refl na)))))

end
end Ln


set_option Elab.async false
set_option linter.all false
set_option maxRecDepth 100000
set_option maxHeartbeats 4000000
namespace Ln
open PySem PySem.Spec PyProof.Rows L2 GxR
/-! ### TooLarge, by one look at the written part -/
def inClass (s : Stmt) : Stmt := match s with
  | .ClassDef (body := b) .. => b.getD 0 (.Pass ⟨0, 0, 0, 0⟩)
  | s => s
abbrev sTL : Stmt := inClass (topS 16)
theorem scTL : FnScope ["self", "limit"] ["self", "limit"] (defScope sTL) := ⟨rfl, rfl, rfl, by decide +kernel, rfl, by decide +kernel, by decide +kernel⟩
def oexB (K : PySem.W.Frag) (C : Addr) : Bool := match K.lookup C with
  | some ⟨.type "type", _, .cls cd, sl⟩ => (match cd.mro, sl.toList with
    | .ref C' :: bm, [_, _, _, _, some (.builtin n), _] => C' == C && n == "ValueError.__new__" && !cd.hasDel && PySem.HandSPX.refsVE bm && cd.hasDict
    | _, _ => false)
  | _ => false
theorem oexB_ok {K : PySem.W.Frag} {C : Addr} (q : oexB K C = true) : ∃ nm qn N bs bm sn sub ab col dd k0 k1 k2 k3 k5, K.lookup C = some (excClassObj nm qn C N bs bm true sn sub ab col dd k0 k1 k2 k3 k5 "ValueError.__new__") ∧ PySem.HandSPX.refsVE bm = true := by
  unfold oexB at q
  split at q
  · rename_i dd cd sl ho
    split at q
    · rename_i C' bm k0 k1 k2 k3 n k5 hm hs
      simp only [Bool.and_eq_true, beq_iff_eq, Bool.not_eq_true'] at q
      obtain ⟨⟨⟨⟨rfl, rfl⟩, hdel⟩, ht⟩, hh⟩ := q
      obtain ⟨nm, bs, mro, ns, qn, hd, sn, sub, ab, col, del⟩ := cd
      dsimp only at hm hdel hh
      subst hm hdel hh
      have hsl : sl = #[k0, k1, k2, k3, some (.builtin "ValueError.__new__"), k5] := by
        obtain ⟨l⟩ := sl
        simp only at hs
        rw [hs]
      subst hsl
      exact ⟨nm, qn, ns, bs, bm, sn, sub, ab, col, dd, k0, k1, k2, k3, k5, ho, ht⟩
    · cases q
  · cases q
def tlOk (K : PySem.W.Frag) : Bool := match clsAt K "TooLarge", clsAt K "LaneError" with
  | some D, some CB => oexB K D && xfB K D && (PySem.W.findIn K (.ref D) "__setattr__" == some (some (.builtin "object.__setattr__"))) && (PySem.W.subIn K (.ref D) (.type "BaseException") == some true) && (PySem.W.typeIn K (.ref D) == some (.type "type")) && PySem.W.keepIn K (.ref D)
    && (PySem.W.findIn K (.ref D) "__class__" == some (some (.builtin "object.__class__"))) && (PySem.W.specialIn K (.builtin "object.__class__") "__get__" == some (some (.builtin "getset_descriptor.__get__"))) && (PySem.W.takesIn K (.builtin "object.__class__") == some true) && (PySem.W.mroIn K D (.type "object") == some true)
    && (PySem.W.kitOne K (.ref D) (.type "ValueError") == some true) && (PySem.W.findIn K (.ref D) "limit" == some none)
    && (ErrNames.all fun y => match clsAt K y with
      | some C => PySem.W.kitOne K (.ref D) (.ref C) == some ("TooLarge" == y) && PySem.W.kitOne K (.ref C) (.ref CB) == some true
      | none => false)
  | _, _ => false
structure TlK (K : PySem.W.Frag) (mg : Str → Option Value) (CB D : Addr) : Prop where
  ek : Ek K mg CB "TooLarge" D
  ox : OexC K D
  xf : XfC K D
  li : PySem.W.findIn K (.ref D) "limit" = some none
  ba : ∀ y ∈ ErrNames, ∀ C, mg y = some (.ref C) → PySem.W.kitOne K (.ref C) (.ref CB) = some true
theorem tl_of {K : PySem.W.Frag} {mg : Str → Option Value} {h : Heap} {CB : Addr} (X : K.In h) (G : h.Ns mainGlobals mg) (gB : mg "LaneError" = some (.ref CB)) (e : tlOk K = true) : ∃ D, clsAt K "TooLarge" = some D ∧ TlK K mg CB D := by
  unfold tlOk at e
  split at e
  · rename_i D CB2 hD hB
    have eB := (PySem.W.mg_of X G (cls_ns hB)).symm.trans gB
    cases eB
    simp only [Bool.and_eq_true] at e
    obtain ⟨⟨⟨⟨⟨⟨⟨⟨⟨⟨⟨⟨a1, a2⟩, a3⟩, a4⟩, a5⟩, a6⟩, a7⟩, a8⟩, a9⟩, a10⟩, a11⟩, a12⟩, a13⟩ := e
    have xf := xfB_ok a2
    have row : ∀ y ∈ ErrNames, ∀ C, mg y = some (.ref C) → PySem.W.kitOne K (.ref D) (.ref C) = some ("TooLarge" == y) ∧ PySem.W.kitOne K (.ref C) (.ref CB) = some true := fun y hy C hC => by
      have e4 := List.all_eq_true.mp a13 y hy
      split at e4
      · rename_i C2 hC2
        have e5 := (PySem.W.mg_of X G (cls_ns hC2)).symm.trans hC
        cases e5
        rw [Bool.and_eq_true] at e4
        exact ⟨beq_iff_eq.mp e4.1, beq_iff_eq.mp e4.2⟩
      · cases e4
    have gD := PySem.W.mg_of X G (cls_ns hD)
    refine ⟨D, hD, ⟨⟨gD, ⟨xf.ga, xf.gg, xf.exC, xf.hdC, beq_iff_eq.mp a7, beq_iff_eq.mp a8, beq_iff_eq.mp a9, beq_iff_eq.mp a10⟩, beq_iff_eq.mp a11, (row "TooLarge" (List.contains_iff_mem.mp (by decide +kernel)) D gD).2, fun y hy C hC => (row y hy C hC).1⟩, ⟨oexB_ok a1, beq_iff_eq.mp a3, beq_iff_eq.mp a4, beq_iff_eq.mp a5, a6⟩, xf, beq_iff_eq.mp a12, fun y hy C hC => (row y hy C hC).2⟩⟩
  · cases e
/-- the def in the class -/
structure DefI (K : PySem.W.Frag) : Prop where
  ex : ∃ (D f : Addr) (fd : FuncData), PySem.W.nsIn K mainGlobals "TooLarge" = some (some (.ref D)) ∧ PySem.W.findIn K (.ref D) "__init__" = some (some (.ref f)) ∧ PySem.W.typeIn K (.ref f) = some (.type "function") ∧ Fun K "__init__" "TooLarge.__init__" sTL f fd
theorem defI_mk {K : PySem.W.Frag} {D f : Addr} {oc : Value} {od an : Option Addr} {osl : Array (Option Value)} {kV doc pm cdv ct : Value} (a : PySem.W.nsIn K mainGlobals "TooLarge" = some (some (.ref D))) (i : PySem.W.findIn K (.ref D) "__init__" = some (some (.ref f))) (t : PySem.W.typeIn K (.ref f) = some (.type "function"))
    (l : K.lookup f = some ⟨oc, od, .func (PySem.W.fnOf "__init__" "TooLarge.__init__" (defArgs sTL) (defBody sTL) (defScope sTL) .none kV doc pm an cdv ct), osl⟩) (c : PySem.W.codeIn K cdv "TooLarge.__init__" = true) (k : PySem.W.keepIn K (.ref f) = true) : DefI K := ⟨⟨D, f, _, a, i, t, fun_mk l c k⟩⟩
theorem cls_of_ns {K : PySem.W.Frag} {x : Str} {D : Addr} (h : PySem.W.nsIn K mainGlobals x = some (some (.ref D))) : clsAt K x = some D := by
  unfold clsAt
  rw [h]
theorem er_ne {K : PySem.W.Frag} {mg : Str → Option Value} {CB C D : Addr} {x y : Str} (e1 : Er K mg CB x C) (e2 : Er K mg CB y D) (hx : y ∈ ErrNames) (h : (x == y) = false) : C ≠ D := fun z => by
  have h1 := e1.kit y hx D e2.xc.g
  have h2 := e2.kit y hx D e2.xc.g
  rw [z, h2, h] at h1
  rw [show (y == y) = true from beq_iff_eq.mpr rfl] at h1
  cases h1
section
variable {P : Program} {w : World} {K : PySem.W.Frag} {mg : Str → Option Value} {base : Heap} {Ps : List Addr}
theorem ok_tli {f D : Addr} {fd : FuncData} (F : Fun K "__init__" "TooLarge.__init__" sTL f fd) (T : OexC K D) (hl : PySem.W.findIn K (.ref D) "limit" = some none) : FnOk P w K mg base CX0 1 f fd ["self", "limit"] (spTL K D) := by
  refine F.ok scTL (fun vs H Q E h => ?_) (fun cdv A outer s H vs Q E hr h => ?_)
  · obtain ⟨a, v, rfl, _⟩ := h
    rfl
  · obtain ⟨a, v, rfl, ha, q⟩ := h
    exact ⟨_, pss_one (ps_ost (pv 0) (pv 1)), v, rfl, .ref a, rfl, a, D, rfl, T, hl, .inl ⟨ha, q⟩⟩
theorem have_all {CB : Addr} (ers : ∀ x ∈ (["InvalidLane", "InvalidLog", "InvalidCar", "InvalidCars", "InvalidSides", "InvalidPattern", "InvalidSightings", "InvalidIndex", "InvalidText", "UnknownCar", "UsedCar", "EmptyLane", "NotPossible", "NothingToUndo"] : List Str), ∃ D, Er K mg CB x D)
    (ba : ∀ y ∈ ErrNames, ∀ C, mg y = some (.ref C) → PySem.W.kitOne K (.ref C) (.ref CB) = some true) : ∀ y ∈ kindN3, y ≠ "TooLarge" → ∃ D, Xc K mg y D ∧ Ek K mg CB y D := fun y hy hn => by
  have k : kindN3.all (fun y => y == "TooLarge" || (ErrNames.contains y && (["InvalidLane", "InvalidLog", "InvalidCar", "InvalidCars", "InvalidSides", "InvalidPattern", "InvalidSightings", "InvalidIndex", "InvalidText", "UnknownCar", "UsedCar", "EmptyLane", "NotPossible", "NothingToUndo"] : List Str).contains y)) = true := by decide +kernel
  have := List.all_eq_true.mp k y hy
  rw [Bool.or_eq_true, Bool.and_eq_true] at this
  rcases this with h | ⟨h1, h2⟩
  · exact absurd (beq_iff_eq.mp h) hn
  · obtain ⟨D, er⟩ := ers y (List.contains_iff_mem.mp h2)
    exact ⟨D, er.xc, ⟨er.xc.g, er.ec, er.ve, ba y (List.contains_iff_mem.mp h1) D er.xc.g, er.kit⟩⟩
end
end Ln


set_option Elab.async false
set_option linter.all false
set_option maxRecDepth 1000000
namespace Ln
open PySem PySem.Spec PyProof.Rows L2 GxR
def nmB (k : Nat) : Str := ⟨#[97 + k / 26]⟩ ++ ⟨#[97 + k % 26]⟩
def nmR (k : Nat) : Str := ⟨#[97 + k % 26]⟩ ++ ⟨#[97 + k / 26]⟩
def nine : List Str := ["in", "out", "l", "r", "a", "zzzz", "aaaa", "none", "x"]
/-- the vehicles by their style -/
def nmS : Nat → List Str
  | 0 => (List.range 160).map fun k => ("zy" : Str) ++ nmB k
  | 1 => (List.range 160).map nmR
  | 2 => nine ++ (List.range 160).map fun k => nmB k ++ ("q" : Str)
  | _ => (List.range 160).map nmB
def goodB : List Str → Bool
  | [] => true
  | x :: r => carB x && !(r.any fun y => decide (y = x)) && goodB r
theorem goodB_all : ∀ {l : List Str}, goodB l = true → l.all carB = true
  | [], _ => rfl
  | x :: r, h => by
    unfold goodB at h
    rw [Bool.and_eq_true, Bool.and_eq_true] at h
    rw [List.all_cons, h.1.1, goodB_all h.2]
    rfl
theorem goodB_nodup : ∀ {l : List Str}, goodB l = true → l.Nodup
  | [], _ => List.nodup_nil
  | x :: r, h => by
    unfold goodB at h
    rw [Bool.and_eq_true, Bool.and_eq_true] at h
    refine List.nodup_cons.mpr ⟨fun hx => ?_, goodB_nodup h.2⟩
    have := h.1.2
    rw [Bool.not_eq_true', List.any_eq_false] at this
    exact this x hx (decide_eq_true rfl)
theorem good0 : goodB (nmS 0) = true := by decide +kernel
theorem good1 : goodB (nmS 1) = true := by decide +kernel
theorem good2 : goodB (nmS 2) = true := by decide +kernel
theorem good3 : goodB (nmS 3) = true := by decide +kernel
theorem goodS (st : Nat) (h : st < 4) : (nmS st).all carB = true ∧ (nmS st).Nodup := by
  have : goodB (nmS st) = true := by
    match st, h with
    | 0, _ => exact good0
    | 1, _ => exact good1
    | 2, _ => exact good2
    | 3, _ => exact good3
  exact ⟨goodB_all this, goodB_nodup this⟩
theorem letters_at : ∀ i < 26, ("abcdefghijklmnopqrstuvwxyz" : Str).cps.toList[i]? = some (97 + i) := by decide +kernel
theorem car_len {x : Str} (h : carB x = true) : x.length ≤ 4 := by
  unfold carB at h
  rw [Bool.and_eq_true, Bool.and_eq_true] at h
  exact of_decide_eq_true h.1.2
end Ln


set_option Elab.async false
set_option linter.all false
set_option maxRecDepth 100000
set_option maxHeartbeats 2000000
namespace Ln
open PySem PySem.Spec PyProof.Rows L2 GxR
theorem scVeh : FnScope ["source", "count", "letters", "found", "style", "k", "name"] ["source", "count"] (defScope sVeh) := ⟨rfl, rfl, rfl, by decide +kernel, rfl, by decide +kernel, by decide +kernel⟩
theorem cut_take {xs : List V} {c : Nat} : cutV xs none (some (c : Int)) = xs.take c := by
  unfold cutV
  rw [HT.sIx_none, HT.sIx_nat, List.drop_zero, Nat.sub_zero]
  rcases Nat.le_total c xs.length with h | h
  · rw [Nat.min_eq_left h]
  · rw [Nat.min_eq_right h, List.take_length, List.take_of_length_le h]
theorem take_base {α : Type} (f : Nat → α) {c : Nat} (h : c ≤ 160) : ((List.range 160).map f).take c = (List.range c).map f := by
  rw [← List.map_take, List.take_range, Nat.min_eq_left h]
section
variable {P : Program} {w : World} {K : PySem.W.Frag} {mg : Str → Option Value} {base : Heap} {Ps : List Addr}
def spVeh : Sp := fun vs H Q _ => ∃ (s : Addr) (l : List V) (n c : Nat), vs = [.ref s, .int c] ∧ H s = some (.lst l) ∧ SrcV n l ∧ n + 200 ≤ 1000000 ∧ c ≤ 160 ∧
  ∀ (H' : Hp) (p : Addr) (ys : List Str) (l' : List V), Ch s H H' → H p = none → ys.length = c → ys.all carB = true → ys.Nodup → SrcV (n + 161) l' → H' s = some (.lst l') → H' p = some (.lst (ys.map V.str)) → Q (.ref p) H'
abbrev lcNm (own : Str) (i : Nat) : List (Str × Nat) := [(own, i)]
theorem ok_veh {f fD fM : Addr} {fd fdD fdM : FuncData} (F : Fun K "_law_vehicles" "_law_vehicles" sVeh f fd) (B : Bi mg) (B2 : Bl mg)
    (GD : FnOk P w K mg base CX0 1 fD fdD ["source", "limit"] spDraw) (mgD : mg "_law_draw" = some (.ref fD)) (kD : PySem.W.keepIn K (.ref fD) = true) (bD : Binds K fdD ["source", "limit"] [])
    (GM : FnOk P w K mg base CX0 2 fM fdM ["source", "things"] (spMixed K)) (mgM : mg "_law_mixed" = some (.ref fM)) (kM : PySem.W.keepIn K (.ref fM) = true) (bM : Binds K fdM ["source", "things"] []) : FnOk P w K mg base CX0 3 f fd ["source", "count"] spVeh := by
  refine F.ok scVeh (fun vs H Q E h => ?_) (fun cdv A outer s H vs Q E hr h => ?_)
  · obtain ⟨s0, l, n, c, rfl, _⟩ := h
    rfl
  · obtain ⟨s0, l, n, c, rfl, hs, hl, hn, hc, q⟩ := h
    refine ⟨_, pss_cons (ps_set (i := 2) scVeh.nd rfl (.inr rfl) pe_str)
      (pss_cons (ps_setLc (i := 3) (own := [("k", 5)]) (g := gName 5) (tt := tYes) (by rfl) scVeh.nd rfl rfl (sw_true rfl rfl rfl (by decide +kernel)) (pi_range1 (by rfl) B2.rng (pa_cons (pv 1) pa_nil))
        (blkOk_by (own := [("k", 5)]) (N := ["source", "count", "letters", "found", "style", "k", "name"]) (sc := defScope sVeh) (by decide +kernel))
        (fun _ _ _ _ _ => pg_name (i := 5) scVeh.nd rfl (Or.inl rfl)) (fun _ _ _ _ _ => pts_nil)
        (fun _ _ _ _ _ => pe_op op_add_str (pe_ix ix_str (pv 2) (pe_op op_fdiv (pv 5) pe_int) (fun _ _ => rfl)) (pe_ix ix_str (pv 2) (pe_op op_mod (pv 5) pe_int) (fun _ _ => rfl))))
      (pss_cons (ps_set (i := 4) scVeh.nd rfl (.inl rfl) (pe_call GD (hr.mono (by decide)) (by rfl) mgD kD bD .nil pass0 (pa_cons (pv 0) (pa_cons pe_int pa_nil))))
      (pss_cons (ps_if (pt_cmpR op_eq (pv 4) pe_int (nomark _)) (pss_one (ps_setLc (i := 3) (own := [("name", 6)]) (g := gName 6) (tt := tYes) (by rfl) scVeh.nd rfl rfl (sw_true rfl rfl rfl (by decide +kernel)) (pi_list (pv 3))
        (blkOk_by (own := [("name", 6)]) (N := ["source", "count", "letters", "found", "style", "k", "name"]) (sc := defScope sVeh) (by decide +kernel))
        (fun _ _ _ _ _ => pg_name (i := 6) scVeh.nd rfl (Or.inl rfl)) (fun _ _ _ _ _ => pts_nil) (fun _ _ _ _ _ => pe_op op_add_str pe_str (pv 6)))) pss_nil)
      (pss_cons (ps_if (pt_cmpR op_eq (pv 4) pe_int (nomark _)) (pss_one (ps_setLc (i := 3) (own := [("name", 6)]) (g := gName 6) (tt := tYes) (by rfl) scVeh.nd rfl rfl (sw_true rfl rfl rfl (by decide +kernel)) (pi_list (pv 3))
        (blkOk_by (own := [("name", 6)]) (N := ["source", "count", "letters", "found", "style", "k", "name"]) (sc := defScope sVeh) (by decide +kernel))
        (fun _ _ _ _ _ => pg_name (i := 6) scVeh.nd rfl (Or.inl rfl)) (fun _ _ _ _ _ => pts_nil) (fun _ _ _ _ _ => pe_op op_add_str (pe_ix ix_str (pv 6) pe_int (fun _ _ => rfl)) (pe_ix ix_str (pv 6) pe_int (fun _ _ => rfl))))) pss_nil)
      (pss_cons (ps_if (pt_cmpR op_eq (pv 4) pe_int (nomark _)) (pss_one (ps_set (i := 3) scVeh.nd rfl (.inl rfl) (pe_slice sl_list (pe_op op_cat (pe_lst (pa_cons pe_str (pa_cons pe_str (pa_cons pe_str (pa_cons pe_str (pa_cons pe_str (pa_cons pe_str (pa_cons pe_str (pa_cons pe_str (pa_cons pe_str pa_nil))))))))))
        (pe_lc (own := [("name", 6)]) (g := gName 6) (tt := tYes) (by rfl) scVeh.nd (pi_list (pv 3))
          (blkOk_by (own := [("name", 6)]) (N := ["source", "count", "letters", "found", "style", "k", "name"]) (sc := defScope sVeh) (by decide +kernel))
          (fun _ _ _ _ _ => pg_name (i := 6) scVeh.nd rfl (Or.inl rfl)) (fun _ _ _ _ _ => pts_nil) (fun _ _ _ _ _ => pe_op op_add_str (pv 6) pe_str))) po_none (po_some (pv 1))))) pss_nil)
      (pss_one (ps_ret (pe_call GM hr (by rfl) mgM kM bM .nil pass0 (pa_cons (pv 0) (pa_cons (pv 3) pa_nil)))))))))), ?_⟩
    -- the end: _law_mixed over what found is
    have fin : ∀ (st : Nat) (H1 : Hp) (l1 : List V) (p : Addr) (v4 : Option V), st < 4 → Ch s0 H H1 → H1 s0 = some (.lst l1) → SrcV (n + 1) l1 → H1 p = some (.lst (((nmS st).take c).map V.str)) → p ≠ s0 →
        (tRet (tCall (spMixed K) [] E0 (tCons (tVar 0) (tCons (tVar 3) tNil)))) { nx := fun _ H' => Q .non H', rt := Q } [some (.ref s0), some (.int c), some (.str "abcdefghijklmnopqrstuvwxyz"), some (.ref p), v4, none, none] H1 := by
      intro st H1 l1 p v4 hst ch hs1 hl1 hp hps
      obtain ⟨g1, g2⟩ := goodS st hst
      have hlen : ((nmS st).take c).length = c := by
        rw [List.length_take]
        have : 160 ≤ (nmS st).length := by
          match st, hst with
          | 0, _ => simp [nmS]
          | 1, _ => simp [nmS]
          | 2, _ => simp [nmS]
          | 3, _ => simp [nmS]
        omega
      refine ⟨.ref s0, rfl, .ref p, rfl, s0, p, l1, n + 1, (nmS st).take c, rfl, hs1, hl1, by omega, .inl (.inl hp), hps, by omega, fun H' p' ys l' ch' hp' hperm hl' hs' hy => ?_⟩
      refine q H' p' ys l' (ch.trans ch') (ch.free hs ⟨_, hs1⟩ hp') (by rw [hperm.length_eq, hlen]) ?_ ?_ (hl'.mono (by omega)) hs' hy
      · rw [List.all_eq_true]
        intro x hx
        exact List.all_eq_true.mp g1 x (List.mem_of_mem_take (hperm.mem_iff.mp hx))
      · exact hperm.symm.nodup (g2.sublist (List.take_sublist _ _))
    refine ⟨_, rfl, (c : Int), rfl, by omega, by omega, fun D hD => ?_⟩
    have hDs : D ≠ s0 := fun z => by
      rw [z, hs] at hD
      cases hD
    refine lc_range (lo := 0) (n := c) (fun i H' => Ch s0 H H' ∧ i ≤ c ∧ H' s0 = some (.lst l) ∧ H' D = some (.lst (((List.range i).map nmB).map V.str))) ?_ ?_ ?_
    · exact ⟨Ch.refl.new hD, Nat.zero_le _, by rw [upd_ne hDs.symm]; exact hs, by rw [upd_same]; rfl⟩
    · rintro i H' hi ⟨ch, _, hs', hD'⟩
      refine ⟨rfl, ?_⟩
      unfold tYes
      refine iteT ?_
      have a1 : atI ("abcdefghijklmnopqrstuvwxyz" : Str).cps.toList ((0 + (i : Int)) / 26) = some (97 + i / 26) := by
        rw [show (0 + (i : Int)) / 26 = ((i / 26 : Nat) : Int) by omega]
        exact atI_nat (letters_at (i / 26) (by omega))
      have a2 : atI ("abcdefghijklmnopqrstuvwxyz" : Str).cps.toList ((0 + (i : Int)) % 26) = some (97 + i % 26) := by
        rw [show (0 + (i : Int)) % 26 = ((i % 26 : Nat) : Int) by omega]
        exact atI_nat (letters_at (i % 26) (by omega))
      refine ⟨_, rfl, _, rfl, _, _, rfl, rfl, ⟨by decide, by decide⟩, _, (0 + (i : Int)) / 26, 97 + i / 26, rfl, rfl, by decide +kernel, a1, _, rfl, _, rfl, _, _, rfl, rfl, (by show (0 : Int) < 26; decide), _, (0 + (i : Int)) % 26, 97 + i % 26, rfl, rfl, by decide +kernel, a2, _, _, rfl, rfl, by show 2 ≤ sizeLine; decide, _, hD', ?_, ch.new hD, hi, ?_, ?_⟩
      · rw [List.length_map, List.length_map, List.length_range]
        exact small1000 (by omega)
      · rw [upd_ne hDs.symm]
        exact hs'
      · rw [upd_same, List.range_succ, List.map_append, List.map_append]
        rfl
    rintro H2 ⟨ch2, _, hs2, hD2⟩
    -- style = _law_draw(source, 4)
    refine ⟨.ref s0, rfl, s0, l, n, 4, rfl, hs2, hl, by omega, by decide, by decide, fun l1 r hl1 h0 h4 => ?_⟩
    have ch3 : Ch s0 H (upd H2 s0 (.lst l1)) := ch2.trans Ch.src
    have hD3 : (upd H2 s0 (.lst l1)) D = some (.lst (((List.range c).map nmB).map V.str)) := by rw [upd_ne hDs]; exact hD2
    have hs3 : (upd H2 s0 (.lst l1)) s0 = some (.lst l1) := upd_same
    generalize upd H2 s0 (.lst l1) = H3 at *
    have hsz : ∀ k, (nmB k).length = 2 := fun k => rfl
    -- a comprehension over the names
    have comp : ∀ (f : Nat → Str) (D2 : Addr), H3 D2 = none → ∀ (Pn : Hp → Prop), (∀ H', Ch s0 H3 H' → H' s0 = some (.lst l1) → H' D = H3 D → H' D2 = some (.lst (((List.range c).map f).map V.str)) → Pn H') → D2 ≠ s0 ∧ D2 ≠ D := fun f D2 h2 Pn _ => ⟨(fun z => by rw [z, hs3] at h2; cases h2), (fun z => by rw [z, hD3] at h2; cases h2)⟩
    have r4 : r = 0 ∨ r = 1 ∨ r = 2 ∨ r = 3 := by omega
    have dne : ∀ a b : Int, a ≠ b → decide (V.int a = V.int b) = false := fun a b h => decide_eq_false fun z => h (V.int.inj z)
    rcases r4 with rfl | rfl | rfl | rfl
    · refine ⟨_, rfl, rfl, _, rfl, iteT ?_⟩
      refine ⟨.ref D, rfl, D, rfl, ⟨_, .inl (.inl hD3)⟩, fun D2 hD2n => ?_⟩
      obtain ⟨n1, n2⟩ := comp nmB D2 hD2n (fun _ => True) fun _ _ _ _ _ => trivial
      refine lc_list (K := K) (a := D) (xs := ((List.range c).map nmB).map V.str) (fun i H' => Ch s0 H H' ∧ H' s0 = some (.lst l1) ∧ H' D = some (.lst (((List.range c).map nmB).map V.str)) ∧ H' D2 = some (.lst (((List.range i).map fun k => ("zy" : Str) ++ nmB k).map V.str))) ?_ ?_ ?_ ?_
      · exact ⟨ch3.new (ch3.free hs ⟨_, hs3⟩ hD2n), by rw [upd_ne n1.symm]; exact hs3, by rw [upd_ne n2.symm]; exact hD3, by rw [upd_same]; rfl⟩
      · rintro i H' _ ⟨_, _, hD', _⟩
        exact .inl (.inl hD')
      · rintro i y H' hi ⟨ch', hs', hD', hD2'⟩
        have hic : i < c := by
          have h1 := (List.getElem?_eq_some_iff.mp hi).1
          rw [List.length_map, List.length_map, List.length_range] at h1
          exact h1
        obtain rfl : y = V.str (nmB i) := by
          rw [List.getElem?_map, List.getElem?_map, List.getElem?_range hic] at hi
          exact (Option.some.inj hi).symm
        refine ⟨rfl, ?_⟩
        unfold tYes
        refine iteT ⟨_, rfl, _, _, rfl, rfl, by show 4 ≤ sizeLine; decide, _, hD2', ?_, ch'.new (ch3.free hs ⟨_, hs3⟩ hD2n), ?_, ?_, ?_⟩
        · rw [List.length_map, List.length_map, List.length_range]
          exact small1000 (by omega)
        · rw [upd_ne n1.symm]
          exact hs'
        · rw [upd_ne n2.symm]
          exact hD'
        · rw [upd_same, List.range_succ, List.map_append, List.map_append]
          rfl
      · rintro H' ⟨ch', hs', hD', hD2'⟩
        rw [List.length_map, List.length_map, List.length_range] at hD2'
        refine ⟨_, rfl, rfl, _, rfl, iteF ⟨_, rfl, rfl, _, rfl, iteF ?_⟩⟩
        exact fin 0 H' l1 D2 _ (by decide) ch' hs' hl1 (by rw [hD2', show nmS 0 = (List.range 160).map (fun k => ("zy" : Str) ++ nmB k) from rfl, take_base _ hc]) n1
    · refine ⟨_, rfl, rfl, _, rfl, iteF ⟨_, rfl, rfl, _, rfl, iteT ?_⟩⟩
      refine ⟨.ref D, rfl, D, rfl, ⟨_, .inl (.inl hD3)⟩, fun D2 hD2n => ?_⟩
      obtain ⟨n1, n2⟩ := comp nmB D2 hD2n (fun _ => True) fun _ _ _ _ _ => trivial
      refine lc_list (K := K) (a := D) (xs := ((List.range c).map nmB).map V.str) (fun i H' => Ch s0 H H' ∧ H' s0 = some (.lst l1) ∧ H' D = some (.lst (((List.range c).map nmB).map V.str)) ∧ H' D2 = some (.lst (((List.range i).map nmR).map V.str))) ?_ ?_ ?_ ?_
      · exact ⟨ch3.new (ch3.free hs ⟨_, hs3⟩ hD2n), by rw [upd_ne n1.symm]; exact hs3, by rw [upd_ne n2.symm]; exact hD3, by rw [upd_same]; rfl⟩
      · rintro i H' _ ⟨_, _, hD', _⟩
        exact .inl (.inl hD')
      · rintro i y H' hi ⟨ch', hs', hD', hD2'⟩
        have hic : i < c := by
          have h1 := (List.getElem?_eq_some_iff.mp hi).1
          rw [List.length_map, List.length_map, List.length_range] at h1
          exact h1
        obtain rfl : y = V.str (nmB i) := by
          rw [List.getElem?_map, List.getElem?_map, List.getElem?_range hic] at hi
          exact (Option.some.inj hi).symm
        refine ⟨rfl, ?_⟩
        unfold tYes
        refine iteT ⟨_, rfl, nmB i, 1, 97 + i % 26, rfl, rfl, by show 2 ≤ sizeLine; decide, atI_nat (j := 1) rfl, _, rfl, nmB i, 0, 97 + i / 26, rfl, rfl, by show 2 ≤ sizeLine; decide, atI_nat (j := 0) rfl, _, _, rfl, rfl, by show 2 ≤ sizeLine; decide, _, hD2', ?_, ch'.new (ch3.free hs ⟨_, hs3⟩ hD2n), ?_, ?_, ?_⟩
        · rw [List.length_map, List.length_map, List.length_range]
          exact small1000 (by omega)
        · rw [upd_ne n1.symm]
          exact hs'
        · rw [upd_ne n2.symm]
          exact hD'
        · rw [upd_same, List.range_succ, List.map_append, List.map_append]
          rfl
      · rintro H' ⟨ch', hs', hD', hD2'⟩
        rw [List.length_map, List.length_map, List.length_range] at hD2'
        refine ⟨_, rfl, rfl, _, rfl, iteF ?_⟩
        exact fin 1 H' l1 D2 _ (by decide) ch' hs' hl1 (by rw [hD2', show nmS 1 = (List.range 160).map nmR from rfl, take_base _ hc]) n1
    · refine ⟨_, rfl, rfl, _, rfl, iteF ⟨_, rfl, rfl, _, rfl, iteF ⟨_, rfl, rfl, _, rfl, iteT ?_⟩⟩⟩
      refine ⟨by show 9 ≤ sizeLine; decide, fun D3 hD3n => ?_⟩
      obtain ⟨n3, n4⟩ := comp nmB D3 hD3n (fun _ => True) fun _ _ _ _ _ => trivial
      have ch4 := ch3.new (o := .lst (nine.map V.str)) (ch3.free hs ⟨_, hs3⟩ hD3n)
      refine ⟨.ref D, rfl, D, rfl, ⟨_, .inl (.inl (by rw [upd_ne n4.symm]; exact hD3))⟩, fun D2 hD2n => ?_⟩
      have nD23 : D2 ≠ D3 := fun z => by
        rw [z, upd_same] at hD2n
        cases hD2n
      rw [upd_ne nD23] at hD2n
      obtain ⟨n1, n2⟩ := comp nmB D2 hD2n (fun _ => True) fun _ _ _ _ _ => trivial
      refine lc_list (K := K) (a := D) (xs := ((List.range c).map nmB).map V.str) (fun i H' => Ch s0 H H' ∧ H' s0 = some (.lst l1) ∧ H' D = some (.lst (((List.range c).map nmB).map V.str)) ∧ H' D3 = some (.lst (nine.map V.str)) ∧ H' D2 = some (.lst (((List.range i).map fun k => nmB k ++ ("q" : Str)).map V.str))) ?_ ?_ ?_ ?_
      · exact ⟨ch4.new (ch3.free hs ⟨_, hs3⟩ hD2n), by rw [upd_ne n1.symm, upd_ne n3.symm]; exact hs3, by rw [upd_ne n2.symm, upd_ne n4.symm]; exact hD3, by rw [upd_ne nD23.symm, upd_same]; rfl, by rw [upd_same]; rfl⟩
      · rintro i H' _ ⟨_, _, hD', _⟩
        exact .inl (.inl hD')
      · rintro i y H' hi ⟨ch', hs', hD', hD3', hD2'⟩
        have hic : i < c := by
          have h1 := (List.getElem?_eq_some_iff.mp hi).1
          rw [List.length_map, List.length_map, List.length_range] at h1
          exact h1
        obtain rfl : y = V.str (nmB i) := by
          rw [List.getElem?_map, List.getElem?_map, List.getElem?_range hic] at hi
          exact (Option.some.inj hi).symm
        refine ⟨rfl, ?_⟩
        unfold tYes
        refine iteT ⟨_, rfl, _, _, rfl, rfl, by show 3 ≤ sizeLine; decide, _, hD2', ?_, ch'.new (ch3.free hs ⟨_, hs3⟩ hD2n), ?_, ?_, ?_, ?_⟩
        · rw [List.length_map, List.length_map, List.length_range]
          exact small1000 (by omega)
        · rw [upd_ne n1.symm]
          exact hs'
        · rw [upd_ne n2.symm]
          exact hD'
        · rw [upd_ne nD23.symm]
          exact hD3'
        · rw [upd_same, List.range_succ, List.map_append, List.map_append]
          rfl
      · rintro H' ⟨ch', hs', hD', hD3', hD2'⟩
        rw [List.length_map, List.length_map, List.length_range] at hD2'
        refine ⟨D3, D2, _, _, rfl, rfl, hD3', hD2', ?_, fun p1 hp1 => ?_⟩
        · rw [List.length_map, List.length_map, List.length_map, List.length_range]
          show 9 + c ≤ _
          exact Nat.le_of_lt (small1000 (by omega))
        refine ⟨_, rfl, _, rfl, p1, _, rfl, .inl (.inl upd_same), fun p2 hp2 => ?_⟩
        have hp2s : p2 ≠ s0 := fun z => by
          rw [z] at hp2
          by_cases e : s0 = p1
          · rw [← e, hs'] at hp1
            cases hp1
          · rw [upd_ne e, hs'] at hp2
            cases hp2
        have hs5 : (upd (upd H' p1 (.lst (nine.map V.str ++ ((List.range c).map fun k => nmB k ++ ("q" : Str)).map V.str))) p2 (.lst (cutV (nine.map V.str ++ ((List.range c).map fun k => nmB k ++ ("q" : Str)).map V.str) none (some (c : Int))))) s0 = some (.lst l1) := by
          rw [upd_ne hp2s.symm, upd_ne (ne_of_none hs' hp1)]
          exact hs'
        refine fin 2 _ l1 p2 _ (by decide) ?_ hs5 hl1 ?_ hp2s
        · have c5 := ch'.new (o := .lst (nine.map V.str ++ ((List.range c).map fun k => nmB k ++ ("q" : Str)).map V.str)) (ch'.free hs ⟨_, hs'⟩ hp1)
          exact c5.new (c5.free hs ⟨l1, by rw [upd_ne (ne_of_none hs' hp1)]; exact hs'⟩ hp2)
        · rw [upd_same, cut_take, ← List.map_append, ← List.map_take]
          congr 3
          show (nine ++ (List.range c).map fun k => nmB k ++ ("q" : Str)).take c = (nine ++ (List.range 160).map fun k => nmB k ++ ("q" : Str)).take c
          rw [List.take_append, List.take_append, take_base _ (by omega), ← List.map_take, List.take_range, Nat.min_eq_left (by omega)]
    · refine ⟨_, rfl, rfl, _, rfl, iteF ⟨_, rfl, rfl, _, rfl, iteF ⟨_, rfl, rfl, _, rfl, iteF ?_⟩⟩⟩
      exact fin 3 H3 l1 D _ (by decide) ch3 hs3 hl1 (by rw [hD3, show nmS 3 = (List.range 160).map nmB from rfl, take_base _ hc]) hDs
end
end Ln


set_option Elab.async false
set_option linter.all false
set_option maxRecDepth 100000
set_option maxHeartbeats 2000000
namespace Ln
open PySem PySem.Spec PyProof.Rows L2 GxR
section
variable {X : Cx}
/-- repr of a value of any plain kind, where nothing is being shown -/
def rReprV (K : PySem.W.Frag) : List V → Hp → VK → Prop := fun vs H Q => ∃ (v : V) (d : PyData) (dep w : Nat), vs = [v] ∧ Dv K H v d ∧ Rp d dep w ∧ dep ≤ 50 ∧ w ≤ 1000000 ∧ Q (.str d.shown) H
theorem cr_reprV (hg : X.A.guards = some []) (hu : X.A.units + 64 < cLine) : CallR X (.builtin "repr") (rReprV X.K) := by
  intro pins s σ H vs us Q I r h
  obtain ⟨v, d, dep, w, rfl, hd, hG, h60, hw, q⟩ := h
  obtain ⟨u, rfl, r1⟩ := vals1 r
  have hz := hG.len hw
  have hdp := hG.dep
  have hs := hG.sh
  have fin : ∀ (h' : Heap) (u : Tok) (tk : _), (∀ b o, s.heap.get? b = some o → h'.get? b = some o) → EP X pins σ Q (.str d.shown u) { s with heap := h', toks := tk } := fun h' u tk hk => ⟨.str _, H, I.kept hk, ⟨_, rfl⟩, q⟩
  have kk : ∀ b o, s.heap.get? b = some o → s.heap.get? b = some o := fun _ _ e => e
  cases hd with
  | non =>
    cases r1
    rw [PyData.shown] at fin
    exact P.repr_of_none (fin s.heap _ _ kk)
  | bl b =>
    cases r1
    rw [PyData.shown] at fin
    cases b
    · exact P.repr_of_bool (fin s.heap _ _ kk)
    · exact P.repr_of_bool (fin s.heap _ _ kk)
  | int i =>
    obtain ⟨t, rfl⟩ := r1
    rw [PyData.shown] at fin
    rw [PyData.showable] at hs
    exact P.repr_of_int (of_decide_eq_true hs) (fin s.heap _ _ kk)
  | str x _ =>
    obtain ⟨t, rfl⟩ := r1
    rw [PyData.shown] at fin hz
    exact P.repr_of_str (fin s.heap _ _ kk) hz
  | @lst a xs ds hq ha =>
    obtain rfl : u = Value.ref a := r1
    rw [PyData.shown] at hz fin
    rw [PyData.showable] at hs
    rw [PyData.depth] at hdp
    obtain ⟨its, rv, ⟨o, n, ho, hc, _, hd⟩, _⟩ := I.list hq
    obtain ⟨⟨as, hr⟩, bs, hb, hk⟩ := DvAll.repk I ds _ its ha rv hs fun t ht => Nat.le_trans (listText_mem_le ht) hz
    have rd := Reads.list ho hc hd hr
    have hna := not_mem_of_deeper rd (n := PyData.depthAll ds) (by rw [PyData.depth]; omega) hb
    refine call_repr_slot (by omega) (show s.TypeIs (.ref a) "list" from ⟨o, ho, hc⟩) F.slot_list_repr.toG ?_
    cases its with
    | nil =>
      cases hr
      rw [PyData.shownAll, listText_nil] at fin
      exact call_list_repr_empty ⟨o, ho, hc⟩ ho hd ⟨_, _, rfl, fin s.heap _ _ kk⟩
    | cons y l =>
      exact call_list_reprK ho hc hd hna (by simpa using hk.length_eq) (fun i y e => hk.item i y (by simpa using e)) hg (fun b _ => Clear.nil b) (by show X.A.units + 1 + (PyData.depthAll ds + 1) < cLine; omega) (fun _ _ e => e) (fun h' u tk hk => ⟨_, _, rfl, fin h' u tk hk⟩) hz
  | @tup a xs ds hq ha =>
    obtain rfl : u = Value.ref a := r1
    rw [PyData.shown] at hz fin
    rw [PyData.showable] at hs
    rw [PyData.depth] at hdp
    obtain ⟨its, rv, ⟨o, ho, hc, n, hd⟩, _⟩ := I.tuple hq
    obtain ⟨⟨as, hr⟩, bs, hb, hk⟩ := DvAll.repk I ds _ its ha rv hs fun t ht => Nat.le_trans (tupleText_mem_le ht) hz
    have rd := Reads.tuple ho hc hd hr
    have hna := not_mem_of_deeper rd (n := PyData.depthAll ds) (by rw [PyData.depth]; omega) hb
    refine call_repr_slot (by omega) (show s.TypeIs (.ref a) "tuple" from ⟨o, ho, hc⟩) F.slot_tuple_repr ?_
    exact call_tuple_reprK ho hc hd hna hk hg (fun b _ => Clear.nil b) (by show X.A.units + 1 + (PyData.depthAll ds + 1) < cLine; omega) (fun _ _ e => e) (fun h' u tk hk => ⟨_, _, rfl, fin h' u tk hk⟩) hz
  | @dic a e =>
    obtain rfl : u = Value.ref a := r1
    obtain ⟨_, hsys, vs, kv, o, es, ep, ho, hx, hd, _, hp, _⟩ := dk_of I.hok e
    have e0 : vs = [] := by cases kv; rfl
    subst e0
    have e1 : es.toList = [] := by
      cases q : es.toList with
      | nil => rfl
      | cons a b =>
        rw [q] at hp
        cases hp
    refine call_repr_slot (by omega) (show s.TypeIs (.ref a) "dict" from ⟨o, ho, hx.1⟩) F.slot_dict_repr ?_
    have hz2 : (dictText []).length ≤ sizeLine := by rw [sizeLine_eq]; decide
    exact call_dict_reprK (as := []) (d := 0) (ps := []) ho hx.1 hd hsys (fun z => nomatch z) (by rw [e1]; exact .nil) hg (fun b _ => Clear.nil b) (by show X.A.units + 1 + (0 + 1) < cLine; omega) (fun _ _ e => e) (fun h' u tk hk => ⟨_, _, rfl, fin h' u tk hk⟩) hz2
end
end Ln


set_option Elab.async false
set_option linter.all false
set_option maxRecDepth 100000
set_option maxHeartbeats 8000000
namespace Ln
open PySem PySem.Spec PyProof.Rows L2 GxR
theorem scLaw : FnScope ["script", "k", "source", "turn", "fleet", "initial", "happened", "parts", "bad", "shown", "door", "event", "number"] ["script"] (defScope sLaw) := ⟨rfl, rfl, rfl, by decide +kernel, rfl, by decide +kernel, by decide +kernel⟩
def sA (s : Addr) : Addr → Bool := fun b => decide (b = s)
theorem Kp.ch {Ps : List Addr} {s : Addr} {H H1 H2 : Hp} {l : List V} (k : Kp Ps H H1) (hT : Tabs Ps H) (h0 : H s = none) (h1 : H1 s = some (.lst l)) (c : Ch s H1 H2) : Kp Ps H H2 :=
  ⟨fun b o e n => c b o (k.at_ b o e n) (ne_of_none e h0), c.tabs h1 k.tab⟩
theorem Kp.smL {Ps : List Addr} {H H1 H2 : Hp} (k : Kp Ps H H1) (m : L2.Same H1 H2) : Kp Ps H H2 := ⟨fun b o e n => m _ _ (k.at_ b o e n), tabs_same k.tab m⟩
theorem Kp.srcU {Ps : List Addr} {s : Addr} {H H1 : Hp} {o : HO} (k : Kp Ps H H1) (hT : Tabs Ps H) (h0 : H s = none) : Kp Ps H (L2.upd H1 s o) := Kp.upd k hT h0
theorem sA_at {s b : Addr} : sA s b = true ↔ b = s := by unfold sA; simp
theorem sA_no {s b : Addr} (h : b ≠ s) : sA s b = false := decide_eq_false h
theorem evt_offA {H : Hp} {s0 : Addr} {l : List V} (hs : H s0 = some (.lst l)) : ∀ {as : List Addr} {es : List Ev}, EvT H as es → EvT (offB H (sA s0)) as es
  | _, _, .nil => .nil
  | _, _, .cons e t => .cons (by
      rw [offB_at]
      · exact e
      · rename_i x _ _ _
        refine sA_no fun z => ?_
        rw [z, hs] at e
        cases e) (evt_offA hs t)
/-- what a part may be -/
def partOk (us : List Str) (n k : Nat) (b : Bool) (o d : PyData) : Prop := if b = true then RBad us n k d else d = o
theorem partOk.fit {us : List Str} {n k : Nat} {b : Bool} {o d : PyData} (h : partOk us n k b o d) (so : SzA o) (ro : Rp o 4 100000) : SzA d ∧ Rp d 4 100000 := by
  cases b with
  | true =>
    have h : RBad us n k d := h
    exact ⟨h.sz, h.rp⟩
  | false =>
    have h : d = o := h
    rw [h]
    exact ⟨so, ro⟩
section
variable {P : Program} {w : World} {K : PySem.W.Frag} {mg : Str → Option Value} {base : Heap} {Ps : List Addr}
def spLaw (K : PySem.W.Frag) (Ps : List Addr) : Sp := fun vs H Q _ => ∃ (a : Addr) (ns : List Int), vs = [.ref a] ∧ SqL K H a (ns.map V.int) ∧ Tabs Ps H ∧ ∀ H', Q (.bl true) H'
theorem ok_law3 {f fS fD fV fH fB fR fU fM CL CG CS : Addr} {fd fdS fdD fdV fdH fdB fdR fdU fdM : FuncData} (F : Fun K "law" "law" sLaw f fd) (B : Bi mg) (B2 : Bl mg) (n12 : CG ≠ CL) (n13 : CS ≠ CL) (n23 : CS ≠ CG)
    (GS : FnOk P w K mg base CX0 1 fS fdS ["script", "k"] (spSource K)) (mgS : mg "_law_source" = some (.ref fS)) (kS : PySem.W.keepIn K (.ref fS) = true) (bS : Binds K fdS ["script", "k"] [])
    (GD : FnOk P w K mg base CX0 1 fD fdD ["source", "limit"] spDraw) (mgD : mg "_law_draw" = some (.ref fD)) (kD : PySem.W.keepIn K (.ref fD) = true) (bD : Binds K fdD ["source", "limit"] [])
    (GV : FnOk P w K mg base CX0 3 fV fdV ["source", "count"] spVeh) (mgV : mg "_law_vehicles" = some (.ref fV)) (kV : PySem.W.keepIn K (.ref fV) = true) (bV : Binds K fdV ["source", "count"] [])
    (GH : FnOk P w K mg base CX0 2 fH fdH ["source", "present", "spare", "most"] (spHap K)) (mgH : mg "_law_happened" = some (.ref fH)) (kH : PySem.W.keepIn K (.ref fH) = true) (bH : Binds K fdH ["source", "present", "spare", "most"] [])
    (GB : FnOk P w K mg base CX0 2 fB fdB ["source", "number", "parts"] (spBad K)) (mgB : mg "_law_bad" = some (.ref fB)) (kB : PySem.W.keepIn K (.ref fB) = true) (bB : Binds K fdB ["source", "number", "parts"] [])
    (GR : FnOk P w K mg base CX0 9 fR fdR ["door", "initial", "happened", "moves"] (spRaised K Ps CL CG CS)) (mgR : mg "_law_raised" = some (.ref fR)) (kR : PySem.W.keepIn K (.ref fR) = true) (bR : Binds K fdR ["door", "initial", "happened", "moves"] [])
    (GU : FnOk P w K mg base CX0 1 fU fdU ["door", "bad"] (spDue K)) (mgU : mg "_law_due" = some (.ref fU)) (kU : PySem.W.keepIn K (.ref fU) = true) (bU : Binds K fdU ["door", "bad"] [])
    (GM : FnOk P w K mg base CX0 3 fM fdM [] spMade) (mgM : mg "_law_made_right" = some (.ref fM)) (kM : PySem.W.keepIn K (.ref fM) = true) (bM : Binds K fdM [] []) :
    FnG P w K mg base 10 f fd ["script"] (spLaw K Ps) := by
  refine Fun.okG F scLaw (fun vs H Q E h => ?_) (fun cdv A outer s H vs Q E hr hgd h => ?_)
  · obtain ⟨a, ns, rfl, _⟩ := h
    rfl
  · obtain ⟨a, ns, rfl, hS, hT, q⟩ := h
    have hu : A.units + 3 + 64 < cLine := hr.units
    have hr1 := hr.mono (show 1 ≤ 9 by decide)
    have hr2 := hr.mono (show 2 ≤ 9 by decide)
    have hr3 := hr.mono (show 3 ≤ 9 by decide)
    refine ⟨_, (pss_cons (ps_for PassesOwn.never rfl (pi_range1 (by rfl) B2.rng (pa_cons (pe_callB (call_max2 rfl) (by rfl) B2.max (by decide +kernel) (pa_cons pe_int (pa_cons (pe_callB (call_min2 rfl) (by rfl) B2.min (by decide +kernel) (pa_cons pe_int (pa_cons (pe_callB call_len_seq (by rfl) B.len PySem.boot_len (pa_cons (pv 0) pa_nil)) pa_nil))) pa_nil))) pa_nil)) (pg_name (i := 1) scLaw.nd rfl (.inl rfl)) (pss_cons (ps_set (i := 2) scLaw.nd rfl (.inr rfl) (pe_call GS hr1 (by rfl) mgS kS bS .nil pass0 (pa_cons (pv 0) (pa_cons (pv 1) pa_nil))))
          (pss_one (ps_for PassesOwn.never rfl (pi_range1 (by rfl) B2.rng (pa_cons pe_int pa_nil)) (pg_name (i := 3) scLaw.nd rfl (.inl rfl)) (pss_cons (ps_set (i := 4) scLaw.nd rfl (.inl rfl) (pe_call GV hr3 (by rfl) mgV kV bV .nil pass0 (pa_cons (pv 2) (pa_cons (pe_op op_add pe_int (pe_call GD hr1 (by rfl) mgD kD bD .nil pass0 (pa_cons (pv 2) (pa_cons pe_int pa_nil)))) pa_nil))))
          (pss_cons (ps_set (i := 5) scLaw.nd rfl (.inl rfl) (pe_callTy call_tuple_of (by rfl) B.tup (by decide +kernel) (pa_cons (pe_slice sl_list (pv 4) po_none (po_some (pe_call GD hr1 (by rfl) mgD kD bD .nil pass0 (pa_cons (pv 2) (pa_cons (pe_op op_add (pe_callB call_len_seq (by rfl) B.len PySem.boot_len (pa_cons (pv 4) pa_nil)) pe_int) pa_nil))))) pa_nil)))
          (pss_cons (ps_set (i := 6) scLaw.nd rfl (.inl rfl) (pe_call GH hr2 (by rfl) mgH kH bH .nil pass0 (pa_cons (pv 2) (pa_cons (pe_callB call_len_seq (by rfl) B.len PySem.boot_len (pa_cons (pv 5) pa_nil)) (pa_cons (pe_slice sl_list (pv 4) (po_some (pe_callB call_len_seq (by rfl) B.len PySem.boot_len (pa_cons (pv 5) pa_nil))) po_none) (pa_cons (pe_ix ix_list (pe_lst (pa_cons pe_int (pa_cons pe_int pa_nil))) (pe_call GD hr1 (by rfl) mgD kD bD .nil pass0 (pa_cons (pv 2) (pa_cons pe_int pa_nil))) (fun _ _ => rfl)) pa_nil))))))
          (pss_cons (ps_set (i := 7) scLaw.nd rfl (.inr rfl) (pe_lst (pa_cons (pv 5) (pa_cons (pv 6) (pa_cons (pe_lc (own := [("event", 11)]) (g := gName 11) (tt := tYes) (te := tOp rIxS (tC (.str "LR")) (tCall spDraw [] E0 (tCons (tVar 2) (tCons (tC (.int 2)) tNil)))) (by rfl) scLaw.nd (pi_list (pv 6)) (blkOk_by (own := [("event", 11)]) (N := ["script", "k", "source", "turn", "fleet", "initial", "happened", "parts", "bad", "shown", "door", "event", "number"]) (sc := defScope sLaw) (by decide +kernel)) (fun _ _ _ _ _ => pg_name (i := 11) scLaw.nd rfl (Or.inl rfl)) (fun _ _ _ _ _ => pts_nil) (fun _ _ _ _ _ => pe_ix ix_str pe_str (pe_call GD hr1 (by rfl) mgD kD bD .nil pass0 (pa_cons (pv 2) (pa_cons pe_int pa_nil))) (fun _ _ => rfl))) pa_nil)))))
          (pss_cons (ps_set (i := 8) scLaw.nd rfl (.inr rfl) (pe_lc (own := [("number", 12)]) (g := gName 12) (tt := tYes) (te := tOp rEq (tCall spDraw [] E0 (tCons (tVar 2) (tCons (tC (.int 3)) tNil))) (tC (.int 0))) (by rfl) scLaw.nd (pi_range1 (by rfl) B2.rng (pa_cons pe_int pa_nil)) (blkOk_by (own := [("number", 12)]) (N := ["script", "k", "source", "turn", "fleet", "initial", "happened", "parts", "bad", "shown", "door", "event", "number"]) (sc := defScope sLaw) (by decide +kernel)) (fun _ _ _ _ _ => pg_name (i := 12) scLaw.nd rfl (Or.inl rfl)) (fun _ _ _ _ _ => pts_nil) (fun _ _ _ _ _ => pe_cmpR op_eq (pe_call GD hr1 (by rfl) mgD kD bD .nil pass0 (pa_cons (pv 2) (pa_cons pe_int pa_nil))) pe_int (nomark _))))
          (pss_cons (ps_set (i := 7) scLaw.nd rfl (.inr rfl) (pe_lc (own := [("number", 12)]) (g := gName 12) (tt := tYes) (te := tIf (tB (tOp (rIxL K) (tVar 8) (tVar 12))) (tCall (spBad K) [] E0 (tCons (tVar 2) (tCons (tVar 12) (tCons (tVar 7) tNil)))) (tOp (rIxL K) (tVar 7) (tVar 12))) (by rfl) scLaw.nd (pi_range1 (by rfl) B2.rng (pa_cons pe_int pa_nil)) (blkOk_by (own := [("number", 12)]) (N := ["script", "k", "source", "turn", "fleet", "initial", "happened", "parts", "bad", "shown", "door", "event", "number"]) (sc := defScope sLaw) (by decide +kernel)) (fun _ _ _ _ _ => pg_name (i := 12) scLaw.nd rfl (Or.inl rfl)) (fun _ _ _ _ _ => pts_nil) (fun _ _ _ _ _ => pe_ifExp (pt_val (pe_ix ix_list (pv 8) (pv 12) (fun _ _ => rfl))) (pe_call GB hr2 (by rfl) mgB kB bB .nil pass0 (pa_cons (pv 2) (pa_cons (pv 12) (pa_cons (pv 7) pa_nil)))) (pe_ix ix_list (pv 7) (pv 12) (fun _ _ => rfl)))))
          (pss_cons (ps_set (i := 9) scLaw.nd rfl (.inl rfl) (pe_callB (cr_reprV hgd hu) (by rfl) B2.rep (by decide +kernel) (pa_cons (pv 7) pa_nil)))
          (pss_cons (ps_for PassesOwn.never rfl (pi_range1 (by rfl) B2.rng (pa_cons pe_int pa_nil)) (pg_name (i := 10) scLaw.nd rfl (.inl rfl)) (pss_one (ps_if (pt_cmpR op_ne (pe_call GR hr (by rfl) mgR kR bR .nil pass0 (pa_cons (pv 10) (pa_cons (pe_ix ix_list (pv 7) pe_int (fun _ _ => rfl)) (pa_cons (pe_ix ix_list (pv 7) pe_int (fun _ _ => rfl)) (pa_cons (pe_ix ix_list (pv 7) pe_int (fun _ _ => rfl)) pa_nil))))) (pe_call GU hr1 (by rfl) mgU kU bU .nil pass0 (pa_cons (pv 10) (pa_cons (pv 8) pa_nil))) (nomark _)) (pss_one (ps_ret pe_bl)) pss_nil)))
          (pss_one (ps_if (pt_cmpR op_ne (pe_callB (cr_reprV hgd hu) (by rfl) B2.rep (by decide +kernel) (pa_cons (pv 7) pa_nil)) (pv 9) (nomark _)) (pss_one (ps_ret pe_bl)) pss_nil))))))))))))))
          (pss_one (ps_ret (pe_call0 GM hr3 (by rfl) mgM kM bM .nil pass0)))), ?_⟩
    refine ⟨.ref a, rfl, a, _, rfl, .inl hS, _, _, rfl, _, _, rfl, _, rfl, ?_, ?_, for_range (lo := 0) (n := _) (fun i σ H' => ∃ v1 v2 v3 v4 v5 v6 v7 v8 v9 v10 v11 v12 : Option V, σ = [some (.ref a), v1, v2, v3, v4, v5, v6, v7, v8, v9, v10, v11, v12] ∧ Kp Ps H H') ?_ ?_ ?_⟩
    · rw [List.length_map]
      split <;> split <;> omega
    · rw [List.length_map]
      split <;> split <;> omega
    · exact ⟨none, none, none, none, none, none, none, none, none, none, none, none, rfl, Kp.refl hT⟩
    · rintro i σ H1 hi ⟨v1, v2, v3, v4, v5, v6, v7, v8, v9, v10, v11, v12, rfl, k1⟩
      have hi4 : i ≤ 8 := by
        rw [List.length_map] at hi
        split at hi <;> split at hi <;> omega
      refine ⟨.ref a, rfl, _, rfl, a, ns, i, by rw [Int.zero_add]; rfl, k1.seqL hT hS, by omega, fun s0 l0 hs0 hl0 => ?_⟩
      have hs00 : H s0 = none := k1.free hT hs0
      have k2 : Kp Ps H (upd H1 s0 (.lst l0)) := k1.upd hT hs00
      have hs1 : (upd H1 s0 (.lst l0)) s0 = some (.lst l0) := upd_same
      generalize upd H1 s0 (.lst l0) = H2 at k2 hs1 ⊢
      have sAs : sA s0 s0 = true := sA_at.mpr rfl
      refine ⟨10, rfl, by decide, by decide, for_range (lo := 0) (n := 10) (fun j σ H' => ∃ (v3 v4 v5 v6 v7 v8 v9 v10 v11 v12 : Option V) (l : List V), σ = [some (.ref a), some (.int (0 + (i : Int))), some (.ref s0), v3, v4, v5, v6, v7, v8, v9, v10, v11, v12] ∧ Kp Ps H H' ∧ H' s0 = some (.lst l) ∧ SrcV (1000 * j) l) ?_ ?_ ?_⟩
      · exact ⟨v3, v4, v5, v6, v7, v8, v9, v10, v11, v12, l0, rfl, k2, hs1, hl0⟩
      · rintro j σ H3 hj ⟨v3, v4, v5, v6, v7, v8, v9, v10, v11, v12, l, rfl, k3, hs3, hl3⟩
        -- the cars
        refine ⟨.ref s0, rfl, .ref s0, rfl, s0, l, 1000 * j, 40, rfl, hs3, hl3, by omega, by decide, by decide, fun l1 r1 hl1 h10 h11 => ?_⟩
        obtain ⟨c, rfl⟩ : ∃ c : Nat, r1 = (c : Int) := ⟨r1.toNat, by omega⟩
        refine ⟨_, _, rfl, rfl, s0, l1, 1000 * j + 1, 1 + c, ?_, upd_same, hl1, by omega, by omega, fun H4 p2 ys l4 ch4 hp2 hys hcar hnd hl4 hs4 hp4 => ?_⟩
        · show _ = [V.ref s0, V.int ((1 + c : Nat) : Int)]
          rw [Int.natCast_add]
          rfl
        have k4 : Kp Ps H H4 := (k3.srcU hT hs00 (o := .lst l1)).ch hT hs00 upd_same ch4
        have np2 : p2 ≠ s0 := fun z => by
          rw [z, upd_same] at hp2
          cases hp2
        have hyl : ys.length ≤ 40 := by omega
        -- the lane
        refine ⟨.ref p2, rfl, .ref s0, rfl, .ref p2, rfl, p2, _, rfl, .inl (.inl (.inl hp4)), _, _, rfl, rfl, s0, l4, 1000 * j + 1 + 161, _, rfl, hs4, hl4, by omega, by rw [List.length_map]; omega, by rw [List.length_map]; omega, fun l5 r3 hl5 h30 h3m => ?_⟩
        obtain ⟨kk, rfl⟩ : ∃ kk : Nat, r3 = (kk : Int) := ⟨r3.toNat, by omega⟩
        refine ⟨_, rfl, ?_⟩
        have k5 : Kp Ps H (upd H4 s0 (.lst l5)) := k4.srcU hT hs00
        have s5 : (upd H4 s0 (.lst l5)) s0 = some (.lst l5) := upd_same
        have f5 : (upd H4 s0 (.lst l5)) p2 = some (.lst (ys.map V.str)) := by rw [upd_ne np2]; exact hp4
        generalize upd H4 s0 (.lst l5) = H5 at k5 s5 f5 ⊢
        refine ⟨p2, _, rfl, .inl (.inl f5), fun p3 hp3 => ?_⟩
        rw [cut_pt, ← List.map_take]
        have k6 := k5.upd hT (k5.free hT hp3) (o := .lst ((ys.take kk).map V.str))
        have s6 : (upd H5 p3 (.lst ((ys.take kk).map V.str))) s0 = some (.lst l5) := by rw [upd_ne (ne_of_none s5 hp3)]; exact s5
        have f6 : (upd H5 p3 (.lst ((ys.take kk).map V.str))) p2 = some (.lst (ys.map V.str)) := by rw [upd_ne (ne_of_none f5 hp3)]; exact f5
        have g6 : (upd H5 p3 (.lst ((ys.take kk).map V.str))) p3 = some (.lst ((ys.take kk).map V.str)) := upd_same
        generalize upd H5 p3 (.lst ((ys.take kk).map V.str)) = H6 at k6 s6 f6 g6 ⊢
        refine ⟨p3, _, rfl, .inl ⟨.inl (.inl g6), fun t ht => ?_⟩⟩
        have k7 := k6.upd hT (k6.free hT ht) (o := .tup ((ys.take kk).map V.str))
        have s7 : (upd H6 t (.tup ((ys.take kk).map V.str))) s0 = some (.lst l5) := by rw [upd_ne (ne_of_none s6 ht)]; exact s6
        have f7 : (upd H6 t (.tup ((ys.take kk).map V.str))) p2 = some (.lst (ys.map V.str)) := by rw [upd_ne (ne_of_none f6 ht)]; exact f6
        have t7 : (upd H6 t (.tup ((ys.take kk).map V.str))) t = some (.tup ((ys.take kk).map V.str)) := upd_same
        generalize upd H6 t (.tup ((ys.take kk).map V.str)) = H7 at k7 s7 f7 t7 ⊢
        have hxk : (ys.take kk).length ≤ 40 := by
          rw [List.length_take]
          omega
        have hsplit : ys.take kk ++ ys.drop (ys.take kk).length = ys := by
          by_cases h : kk ≤ ys.length
          · rw [List.length_take, Nat.min_eq_left h, List.take_append_drop]
          · rw [List.take_of_length_le (by omega), List.drop_length, List.append_nil]
        generalize ys.take kk = xs at *
        generalize hzs : ys.drop xs.length = zs at hsplit
        have hzl : zs.length ≤ 400 := by
          rw [← hzs, List.length_drop]
          omega
        have hxz : xs.length + zs.length ≤ 40 := by
          rw [← List.length_append, hsplit]
          exact hyl
        have hxc : ∀ x ∈ xs, carB x = true := fun x hx => List.all_eq_true.mp hcar x (by rw [← hsplit]; exact List.mem_append_left _ hx)
        have hzc : ∀ x ∈ zs, carB x = true := fun x hx => List.all_eq_true.mp hcar x (by rw [← hsplit]; exact List.mem_append_right _ hx)
        rw [← hsplit, List.nodup_append] at hnd
        obtain ⟨nd1, nd2, nd3⟩ := hnd
        have hlaneB : laneB xs = true := by
          unfold Ln.laneB
          rw [Bool.and_eq_true]
          exact ⟨List.all_eq_true.mpr hxc, decide_eq_true nd1⟩
        -- the log
        refine ⟨.ref s0, rfl, .ref t, rfl, t, _, rfl, .inr (SqT.of t7), .ref p2, rfl, .ref t, rfl, t, _, rfl, .inr (SqT.of t7), _, rfl, p2, _, rfl, .inl (.inl f7), fun p4 hp4 => ?_⟩
        rw [cut_pd, List.length_map, ← List.map_drop, hzs]
        have k8 := k7.upd hT (k7.free hT hp4) (o := .lst (zs.map V.str))
        have s8 : (upd H7 p4 (.lst (zs.map V.str))) s0 = some (.lst l5) := by rw [upd_ne (ne_of_none s7 hp4)]; exact s7
        have t8 : (upd H7 p4 (.lst (zs.map V.str))) t = some (.tup (xs.map V.str)) := by rw [upd_ne (ne_of_none t7 hp4)]; exact t7
        have g8 : (upd H7 p4 (.lst (zs.map V.str))) p4 = some (.lst (zs.map V.str)) := upd_same
        have np4 : p4 ≠ s0 := (ne_of_none s7 hp4).symm
        generalize upd H7 p4 (.lst (zs.map V.str)) = H8 at k8 s8 t8 g8 ⊢
        have nts : t ≠ s0 := fun z => by
          rw [z, s8] at t8
          cases t8
        refine ⟨by show 2 ≤ sizeLine; decide, fun p5 hp5 => ?_⟩
        have k9 := k8.upd hT (k8.free hT hp5) (o := .lst [.int 6, .int 60])
        have s9 : (upd H8 p5 (.lst [.int 6, .int 60])) s0 = some (.lst l5) := by rw [upd_ne (ne_of_none s8 hp5)]; exact s8
        have t9 : (upd H8 p5 (.lst [.int 6, .int 60])) t = some (.tup (xs.map V.str)) := by rw [upd_ne (ne_of_none t8 hp5)]; exact t8
        have g9 : (upd H8 p5 (.lst [.int 6, .int 60])) p4 = some (.lst (zs.map V.str)) := by rw [upd_ne (ne_of_none g8 hp5)]; exact g8
        have q9 : (upd H8 p5 (.lst [.int 6, .int 60])) p5 = some (.lst [.int 6, .int 60]) := upd_same
        have np5 : p5 ≠ s0 := (ne_of_none s8 hp5).symm
        generalize upd H8 p5 (.lst [.int 6, .int 60]) = H9 at k9 s9 t9 g9 q9 ⊢
        refine ⟨.ref s0, rfl, s0, l5, 1000 * j + 1 + 161 + 1, 2, rfl, s9, hl5, by omega, by decide, by decide, fun l6 r4 hl6 h40 h41 => ?_⟩
        obtain ⟨most, hm6, hat⟩ : ∃ most : Nat, most ≤ 60 ∧ atI [V.int 6, .int 60] r4 = some (.int (most : Nat)) := by
          obtain rfl | rfl : r4 = 0 ∨ r4 = 1 := by omega
          · exact ⟨6, by decide, rfl⟩
          · exact ⟨60, by decide, rfl⟩
        have k10 : Kp Ps H (upd H9 s0 (.lst l6)) := k9.srcU hT hs00
        have s10 : (upd H9 s0 (.lst l6)) s0 = some (.lst l6) := upd_same
        have t10 : (upd H9 s0 (.lst l6)) t = some (.tup (xs.map V.str)) := by rw [upd_ne nts]; exact t9
        have g10 : (upd H9 s0 (.lst l6)) p4 = some (.lst (zs.map V.str)) := by rw [upd_ne np4]; exact g9
        have q10 : (upd H9 s0 (.lst l6)) p5 = some (.lst [.int 6, .int 60]) := by rw [upd_ne np5]; exact q9
        generalize upd H9 s0 (.lst l6) = H10 at k10 s10 t10 g10 q10 ⊢
        refine ⟨p5, _, r4, _, rfl, rfl, SqL.of q10, hat, ?_⟩
        refine ⟨s0, p4, l6, 1000 * j + 1 + 161 + 2, xs.length, most, zs, rfl, s10, hl6, by omega, by omega, by omega, .inl (.inl g10), np4, hzl, hzc, fun HB p7 as es k' m l7 ch hp7 hfr hel har hct hl7 sB hp7B hev => ?_⟩
        have kB : Kp Ps H HB := k10.ch hT hs00 s10 ch
        have np7 : p7 ≠ s0 := fun z => by
          rw [z, s10] at hp7
          cases hp7
        have tB : HB t = some (.tup (xs.map V.str)) := ch _ _ t10 nts
        have hec : ∀ c, Ev.inn c ∈ es → carB c = true := fun c hc => by
          have := mem_arrs hc
          rw [har] at this
          exact hzc c (List.mem_of_mem_take this)
        have he60 : es.length ≤ 60 := by omega
        have hk40 : xs.length + (arrs es).length ≤ 40 := by
          rw [har, List.length_take]
          omega
        have hlogB : logB xs xs.length es = true := logB_of es xs xs.length m hct (fun c hc => by
          rw [har] at hc
          have hz := List.mem_of_mem_take hc
          exact ⟨hzc c hz, fun hx => nd3 c hx c hz rfl⟩) (by rw [har]; exact nd2.sublist (List.take_sublist _ _))
        have hLen : 1000 * j + 1 + 161 + 2 + 122 = 1000 * j + 286 := by omega
        rw [hLen] at hl7
        -- the sides
        refine ⟨.ref t, rfl, .ref p7, rfl, .ref p7, rfl, p7, rfl, ⟨_, SqL.of hp7B⟩, fun DM hDM => ?_⟩
        have nDM : DM ≠ s0 := (ne_of_none sB hDM).symm
        refine lc_list (K := K) (a := p7) (xs := as.map V.ref) (fun i' H' => ∃ (l' : List V) (ms : List Str), Ch s0 HB H' ∧ H' s0 = some (.lst l') ∧ SrcV (1000 * j + 286 + i') l' ∧ H' DM = some (.lst (ms.map V.str)) ∧ ms.length = i' ∧ ∀ m ∈ ms, sideB m = true) ?_ ?_ ?_ ?_
        · exact ⟨l7, [], Ch.refl.new hDM, by rw [upd_ne nDM.symm]; exact sB, hl7, upd_same, rfl, fun _ h => nomatch h⟩
        · rintro i' H' _ ⟨_, _, ch', _⟩
          exact SqL.of (ch' _ _ hp7B np7)
        · rintro i' y H' hi' ⟨l', ms, ch', hs', hl', hD', hml, hms⟩
          have hlt : i' < 60 := by
            have h1 := (List.getElem?_eq_some_iff.mp hi').1
            rw [List.length_map, hev.length] at h1
            omega
          refine ⟨rfl, ?_⟩
          unfold tYes
          refine iteT ⟨.ref s0, rfl, s0, l', 1000 * j + 286 + i', 2, rfl, hs', hl', by omega, by decide, by decide, fun l2 r hl2 r0 r1 => ?_⟩
          obtain ⟨y, hy, hat'⟩ : ∃ y : Str, sideB y = true ∧ ∃ c, atI ("LR" : Str).cps.toList r = some c ∧ y = ⟨#[c]⟩ := by
            obtain rfl | rfl : r = 0 ∨ r = 1 := by omega
            · exact ⟨"L", by decide +kernel, 76, by decide +kernel, by decide +kernel⟩
            · exact ⟨"R", by decide +kernel, 82, by decide +kernel, by decide +kernel⟩
          obtain ⟨c, hat', rfl⟩ := hat'
          refine ⟨"LR", r, c, rfl, rfl, by decide +kernel, hat', ms.map V.str, by rw [upd_ne nDM]; exact hD', by rw [List.length_map]; exact small1000 (by omega), l2, ms ++ [⟨#[c]⟩], ?_, by rw [upd_ne nDM.symm, upd_same], hl2, by rw [upd_same, List.map_append]; rfl, by rw [List.length_append, hml]; rfl, fun m hm => ?_⟩
          · exact (ch'.trans Ch.src).new hDM
          · rcases List.mem_append.mp hm with hm | hm
            · exact hms m hm
            · rw [List.mem_singleton.mp hm]
              exact hy
        rintro HC ⟨l8, ms, chC, sC, hl8, hDC, hml, hms⟩
        have hml : ms.length = es.length := by rw [hml, List.length_map, hev.length]
        have hl8 : SrcV (1000 * j + 346) l8 := hl8.mono (by rw [List.length_map, hev.length]; omega)
        have kC : Kp Ps H HC := kB.ch hT hs00 sB chC
        have tC := chC _ _ tB nts
        have pC := chC _ _ hp7B np7
        have evC : EvT HC as es := chC.evT hev sB
        refine ⟨by show 3 ≤ sizeLine; decide, fun p8 hp8 => ?_⟩
        have kS8 : L2.Same HC (upd HC p8 (.lst [.ref t, .ref p7, .ref DM])) := sm_new sm_refl hp8
        have kE : Kp Ps H (upd HC p8 (.lst [.ref t, .ref p7, .ref DM])) := kC.upd hT (kC.free hT hp8)
        have e8 : (upd HC p8 (.lst [.ref t, .ref p7, .ref DM])) p8 = some (.lst [.ref t, .ref p7, .ref DM]) := upd_same
        have np8 : p8 ≠ s0 := (ne_of_none sC hp8).symm
        generalize upd HC p8 (.lst [.ref t, .ref p7, .ref DM]) = HE at kS8 kE e8 ⊢
        have sE := kS8 _ _ sC
        have tE := kS8 _ _ tC
        have pE := kS8 _ _ pC
        have dE := kS8 _ _ hDC
        have evE : EvT HE as es := Paired.imp evC fun _ _ e => kS8 _ _ e
        -- which are bad
        refine ⟨3, rfl, by decide, by decide, fun D2 hD2 => ?_⟩
        have nD2 : D2 ≠ s0 := (ne_of_none sE hD2).symm
        refine lc_range (lo := 0) (n := 3) (fun i' H' => ∃ (l' : List V) (bs : List Bool), Ch s0 HE H' ∧ H' s0 = some (.lst l') ∧ SrcV (1000 * j + 346 + i') l' ∧ H' D2 = some (.lst (bs.map V.bl)) ∧ bs.length = i') ?_ ?_ ?_
        · exact ⟨l8, [], Ch.refl.new hD2, by rw [upd_ne nD2.symm]; exact sE, hl8, upd_same, rfl⟩
        · rintro i' H' hi' ⟨l', bs, ch', hs', hl', hD', hbl⟩
          refine ⟨rfl, ?_⟩
          unfold tYes
          refine iteT ⟨.ref s0, rfl, s0, l', 1000 * j + 346 + i', 3, rfl, hs', hl', by omega, by decide, by decide, fun l2 r hl2 r0 r1 => ⟨rfl, ?_⟩⟩
          refine ⟨bs.map V.bl, by rw [upd_ne nD2]; exact hD', by rw [List.length_map]; exact small1000 (by omega), l2, bs ++ [decide (V.int r = V.int 0)], (ch'.trans Ch.src).new hD2, by rw [upd_ne nD2.symm, upd_same], hl2, by rw [upd_same, List.map_append]; rfl, by rw [List.length_append, hbl]; rfl⟩
        rintro HG ⟨l9, bs, chG, sG, hl9, hDG, hbl⟩
        have kG : Kp Ps H HG := kE.ch hT hs00 sE chG
        obtain ⟨b0, b1, b2, rfl⟩ : ∃ b0 b1 b2, bs = [b0, b1, b2] := by
          match bs, hbl with
          | [b0, b1, b2], _ => exact ⟨b0, b1, b2, rfl⟩
        have tG := chG _ _ tE nts
        have pG := chG _ _ pE np7
        have dG := chG _ _ dE nDM
        have e8 := chG _ _ e8 np8
        have evG : EvT HG as es := chG.evT evE sE
        -- the bad ones
        refine ⟨3, rfl, by decide, by decide, fun D3 hD3 => ?_⟩
        have nD3 : D3 ≠ s0 := (ne_of_none sG hD3).symm
        have oA : ∀ {b : Addr} {o : HO}, HG b = some o → b ≠ s0 → offB HG (sA s0) b = some o := fun {b o} e n => by
          rw [offB_at (sA_no n)]
          exact e
        have cT : Bt2 K (sA s0) HG (.ref t) (.tuple (strD xs)) := .of (.tup (SqT.of (oA tG nts)) (dv_strs xs fun x hx => by have := carLen (hxc x hx); rw [sizeLine_eq]; omega)) fun _ z => nomatch z
        have cE : DvAll K (offB HG (sA s0)) (as.map V.ref) (es.map Ev.dat) := dv_evs (evt_offA sG evG) fun c hc => by have := carLen (hec c hc); rw [sizeLine_eq]; omega
        have cL : Bt2 K (sA s0) HG (.ref p7) (.list (es.map Ev.dat)) := ⟨.lst (SqL.of (oA pG np7)) cE, fun ds e => by cases e; exact ⟨p7, _, rfl, pG, sA_no np7, cE⟩⟩
        have cS : DvAll K (offB HG (sA s0)) (ms.map V.str) (strD ms) := dv_strs ms fun x hx => by rcases side_of (hms x hx) with e | e <;> rw [e, sizeLine_eq] <;> decide
        have cM : Bt2 K (sA s0) HG (.ref DM) (.list (strD ms)) := ⟨.lst (SqL.of (oA dG nDM)) cS, fun ds e => by cases e; exact ⟨DM, _, rfl, dG, sA_no nDM, cS⟩⟩
        have hz : ∀ k, k < 3 → SzA ([PyData.tuple (strD xs), .list (es.map Ev.dat), .list (strD ms)].getD k .none) ∧ Rp ([PyData.tuple (strD xs), .list (es.map Ev.dat), .list (strD ms)].getD k .none) 4 100000 := fun k hk => by
          match k, hk with
          | 0, _ => exact ⟨szT (by rw [lenS]; omega), (RpA.tuple (rpS hxc hxk)).mono (by decide) (by decide)⟩
          | 1, _ => exact ⟨szL (by rw [lenE]; omega), (RpA.list (rpE hec he60)).mono (by decide) (by decide)⟩
          | 2, _ => exact ⟨szL (by rw [lenS]; omega), (RpA.list (rpM hms (by omega))).mono (by decide) (by decide)⟩
        refine lc_range (lo := 0) (n := 3) (fun i' H' => ∃ (l' vs : List V) (ds : List PyData) (n' : Nat), Ch s0 HG H' ∧ H' s0 = some (.lst l') ∧ n' ≤ 1000 * j + 350 + 4 * i' ∧ SrcV n' l' ∧ H' D3 = some (.lst vs) ∧ vs.length = i' ∧ DvAll K (offB H' (addS (sA s0) D3)) vs ds ∧ ∀ k, k < i' → ∃ d, ds[k]? = some d ∧ partOk xs es.length k ([b0, b1, b2].getD k false) ([PyData.tuple (strD xs), .list (es.map Ev.dat), .list (strD ms)].getD k .none) d) ?_ ?_ ?_
        · exact ⟨l9, [], [], _, Ch.refl.new hD3, by rw [upd_ne nD3.symm]; exact sG, by omega, hl9, upd_same, rfl, .nil, fun k h => absurd h (Nat.not_lt_zero k)⟩
        · rintro i' H' hi' ⟨l', vs, ds, n', ch', hs', hn', hl', hD', hvl, dvs, hok⟩
          refine ⟨rfl, ?_⟩
          unfold tYes
          have hdl : ds.length = i' := by rw [← dvs.len, hvl]
          have chK : ∀ b o, HG b = some o → b ≠ s0 → H' b = some o := ch'
          have hST : addS (sA s0) D3 s0 = true := by unfold addS; rw [sAs]; rfl
          have hF : Full (addS (sA s0) D3) H' := fun b hb z => by
            unfold addS at hb
            rcases Bool.or_eq_true_iff.mp hb with hb | hb
            · rw [sA_at.mp hb, hs'] at z
              cases z
            · rw [of_decide_eq_true hb, hD'] at z
              cases z
          have gT := cT.grow hD3 sAs chK
          have gL := cL.grow hD3 sAs chK
          have gM := cM.grow hD3 sAs chK
          have upD : ∀ {H4 : Hp} {o : HO}, L2.Same (offB H4 (addS (sA s0) D3)) (offB (upd H4 D3 o) (addS (sA s0) D3)) := fun {H4 o} => off_mv (fun b o e z => by rw [upd_ne (addS_no.mp z).2]; exact e) fun _ h => h
          have hb3 : ([V.bl b0, .bl b1, .bl b2] : List V)[i']? = some (.bl ([b0, b1, b2].getD i' false)) := by
            match i', hi' with
            | 0, _ => rfl
            | 1, _ => rfl
            | 2, _ => rfl
          have step : ∀ (H4 : Hp) (v : V) (d : PyData) (l4 : List V) (n4 : Nat), Ch s0 H' H4 → H4 s0 = some (.lst l4) → SrcV n4 l4 → n4 ≤ n' + 4 → Dv K (offB H4 (addS (sA s0) D3)) v d → partOk xs es.length i' ([b0, b1, b2].getD i' false) ([PyData.tuple (strD xs), .list (es.map Ev.dat), .list (strD ms)].getD i' .none) d →
              ∃ acc, H4 D3 = some (.lst acc) ∧ acc.length < sizeLine ∧ ∃ (l' vs : List V) (ds : List PyData) (n' : Nat), Ch s0 HG (upd H4 D3 (.lst (acc ++ [v]))) ∧ (upd H4 D3 (.lst (acc ++ [v]))) s0 = some (.lst l') ∧ n' ≤ 1000 * j + 350 + 4 * (i' + 1) ∧ SrcV n' l' ∧ (upd H4 D3 (.lst (acc ++ [v]))) D3 = some (.lst vs) ∧ vs.length = i' + 1 ∧ DvAll K (offB (upd H4 D3 (.lst (acc ++ [v]))) (addS (sA s0) D3)) vs ds ∧ ∀ k, k < i' + 1 → ∃ d, ds[k]? = some d ∧ partOk xs es.length k ([b0, b1, b2].getD k false) ([PyData.tuple (strD xs), .list (es.map Ev.dat), .list (strD ms)].getD k .none) d := fun H4 v d l4 n4 c4 hs4 hl4 hn4 dv4 ok4 => by
            refine ⟨vs, c4 _ _ hD' nD3, small1000 (by omega), l4, vs ++ [v], ds ++ [d], n4, (ch'.trans c4).new hD3, by rw [upd_ne nD3.symm]; exact hs4, by omega, hl4, upd_same, by rw [List.length_append, hvl]; rfl, ?_, fun k hk => ?_⟩
            · exact DvAll.app ((dvs.same (offB_ch c4 hST)).same upD) (.cons (dv4.same upD) .nil)
            · by_cases hk2 : k < i'
              · obtain ⟨d', e', o'⟩ := hok k hk2
                exact ⟨d', by rw [List.getElem?_append_left (by omega)]; exact e', o'⟩
              · obtain rfl : k = i' := by omega
                exact ⟨d, by rw [← hdl, List.getElem?_concat_length], ok4⟩
          refine iteT ⟨.ref D2, rfl, _, rfl, D2, _, (i' : Nat), _, rfl, by rw [Int.zero_add], SqL.of (ch' _ _ hDG nD2), atI_nat hb3, _, rfl, ?_⟩
          cases hbb : ([b0, b1, b2].getD i' false) with
          | true =>
            refine iteT ⟨.ref s0, rfl, _, rfl, .ref p8, rfl, s0, p8, l', n', i', addS (sA s0) D3, .ref t, .ref p7, .ref DM, xs, ms, es, by rw [Int.zero_add]; rfl, hs', hl', by omega, hi', hST, hF, ch' _ _ e8 np8, gT, gL, gM, hxc, hec, hms, hk40, he60, hml, fun H4 v d l4 n4 c4 hs4 hl4 hn4 dv4 ok4 => ?_⟩
            exact step H4 v d l4 n4 c4 hs4 hl4 hn4 dv4 (by unfold partOk; rw [hbb, if_pos rfl]; exact ok4)
          | false =>
            obtain ⟨v, hv, dv⟩ : ∃ v, ([.ref t, .ref p7, .ref DM] : List V)[i']? = some v ∧ Dv K (offB H' (addS (sA s0) D3)) v ([PyData.tuple (strD xs), .list (es.map Ev.dat), .list (strD ms)].getD i' .none) := by
              match i', hi' with
              | 0, _ => exact ⟨_, rfl, gT.dv⟩
              | 1, _ => exact ⟨_, rfl, gL.dv⟩
              | 2, _ => exact ⟨_, rfl, gM.dv⟩
            refine iteF ⟨.ref p8, rfl, _, rfl, p8, _, (i' : Nat), v, rfl, by rw [Int.zero_add], SqL.of (ch' _ _ e8 np8), atI_nat hv, ?_⟩
            exact step H' v _ l' n' Ch.refl hs' hl' (by omega) dv (by unfold partOk; rw [hbb, if_neg Bool.false_ne_true])
        rintro HI ⟨l10, vs, ds, n10, chI, sI, hn10, hl10, hDI, hvl, dvs, hok⟩
        have kI : Kp Ps H HI := kG.ch hT hs00 sG chI
        have dvs : DvAll K HI vs ds := dvs.same offB_sub
        obtain ⟨u0, u1, u2, rfl⟩ : ∃ u0 u1 u2, vs = [u0, u1, u2] := by
          match vs, hvl with
          | [u0, u1, u2], _ => exact ⟨u0, u1, u2, rfl⟩
        obtain ⟨d0, d1, d2, rfl⟩ : ∃ d0 d1 d2, ds = [d0, d1, d2] := by
          have := dvs.len
          match ds, this with
          | [d0, d1, d2], _ => exact ⟨d0, d1, d2, rfl⟩
        obtain ⟨_, w0, ok0⟩ := hok 0 (by decide)
        obtain ⟨_, w1, ok1⟩ := hok 1 (by decide)
        obtain ⟨_, w2, ok2⟩ := hok 2 (by decide)
        cases w0
        cases w1
        cases w2
        have z0 := ok0.fit (hz 0 (by decide)).1 (hz 0 (by decide)).2
        have z1 := ok1.fit (hz 1 (by decide)).1 (hz 1 (by decide)).2
        have z2 := ok2.fit (hz 2 (by decide)).1 (hz 2 (by decide)).2
        obtain ⟨dv0, dv1, dv2⟩ : Dv K HI u0 d0 ∧ Dv K HI u1 d1 ∧ Dv K HI u2 d2 := by
          cases dvs with
          | cons a t =>
            cases t with
            | cons b t =>
              cases t with
              | cons c t => exact ⟨a, b, c⟩
        have TI := kI.tab
        have hlen3 : lenD3 d1 ≤ 400 := by
          have h := ok1
          unfold partOk at h
          split at h
          · exact (h.g rfl).2
          · rw [h]
            show (es.map Ev.dat).length ≤ 400
            rw [lenE]
            omega
        have hM : sidesD es.length (.list (strD ms)) = true := by
          show (decide ((strD ms).length = es.length) && (strD ms).all sideD) = true
          rw [Bool.and_eq_true]
          refine ⟨decide_eq_true (by rw [lenS, hml]), List.all_eq_true.mpr fun d hd => ?_⟩
          obtain ⟨y, hy, rfl⟩ := List.mem_map.mp hd
          exact hms y hy
        have due : ∀ door < 7, wordO CL CG CS (doorO CL CG CS d0 d1 d2 door) = dueW door b0 b1 b2 := door_due n12 n13 n23 hlaneB (logD_evs hlogB) hM
          (by have h := ok0
              unfold partOk at h
              cases b0 with
              | true => exact (show RBad xs es.length 0 d0 from h).l rfl
              | false => exact h)
          (by have h := ok1
              unfold partOk at h
              cases b1 with
              | true => exact ((show RBad xs es.length 1 d1 from h).g rfl).1
              | false => exact h)
          (by have h := ok2
              unfold partOk at h
              cases b2 with
              | true => exact (show RBad xs es.length 2 d2 from h).m rfl
              | false => exact h)
        have D2I := chI _ _ hDG nD2
        have hdp : Dv K HI (.ref D3) (.list [d0, d1, d2]) := .lst (SqL.of hDI) dvs
        have hrp : Rp (.list [d0, d1, d2]) 5 400000 := (RpA.list (RpA.cons z0.2 (RpA.cons z1.2 (RpA.cons z2.2 .nil)))).mono (by decide) (by decide)
        -- shown
        refine ⟨.ref D3, rfl, .ref D3, _, 5, 400000, rfl, hdp, hrp, by decide, by decide, ?_⟩
        refine ⟨7, rfl, by decide, by decide, for_range (lo := 0) (n := 7) (fun dr σ H' => ∃ v10 v11 v12 : Option V, σ = [some (.ref a), some (.int (0 + (i : Int))), some (.ref s0), some (.int (0 + (j : Int))), some (.ref p2), some (.ref t), some (.ref p7), some (.ref D3), some (.ref D2), some (.str (PyData.list [d0, d1, d2]).shown), v10, v11, v12] ∧ Kp Ps HI H') ?_ ?_ ?_⟩
        · exact ⟨_, _, _, rfl, Kp.refl TI⟩
        · rintro dr σ H' hdr ⟨v10', v11', v12', rfl, kk'⟩
          have q3 := kk'.lst TI hDI
          refine ⟨_, rfl, .ref D3, rfl, D3, _, 0, u0, rfl, rfl, SqL.of q3, rfl, .ref D3, rfl, D3, _, 1, u1, rfl, rfl, SqL.of q3, rfl, .ref D3, rfl, D3, _, 2, u2, rfl, rfl, SqL.of q3, rfl, ?_⟩
          refine ⟨dr, u0, u1, u2, d0, d1, d2, by rw [Int.zero_add]; rfl, hdr, dv0.kp kk' TI, dv1.kp kk' TI, dv2.kp kk' TI, z0.1, ⟨z1.1, hlen3⟩, z2.1, kk'.tab, fun HX kx => ?_⟩
          refine ⟨_, rfl, .ref D2, rfl, dr, D2, b0, b1, b2, by rw [Int.zero_add]; rfl, SqL.of ((kk'.trans kx).lst TI D2I), fun HY ky => ⟨rfl, false, ?_, iteF ⟨_, _, _, rfl, (kk'.trans kx).smL ky⟩⟩⟩
          rw [due dr hdr, decide_eq_true rfl]
          rfl
        · rintro σ H' ⟨v10', v11', v12', rfl, kk'⟩
          refine ⟨.ref D3, rfl, .ref D3, _, 5, 400000, rfl, hdp.kp kk' TI, hrp, by decide, by decide, _, rfl, rfl, false, ?_, iteF ⟨_, _, _, _, _, _, _, _, _, _, l10, rfl, kI.trans kk', kk'.lst TI sI, hl10.mono (by omega)⟩⟩
          rw [decide_eq_true rfl]
          rfl
      · rintro σ H' ⟨v3', v4', v5', v6', v7', v8', v9', v10', v11', v12', l', rfl, kk', _, _⟩
        exact ⟨_, _, _, _, _, _, _, _, _, _, _, _, rfl, kk'⟩
    · rintro σ H' ⟨v1, v2, v3, v4, v5, v6, v7, v8, v9, v10, v11, v12, rfl, k1⟩
      exact ⟨rfl, fun H' _ => q H'⟩
end
end Ln


set_option Elab.async false
set_option linter.all false
set_option maxRecDepth 100000
set_option maxHeartbeats 2000000
namespace Ln
open PySem PySem.Spec PyProof.Rows L2 GxR LamX
/-! ### the law's call -/
/-- what is tracked as the law is called: the tables, and the script where the heap's written part has it not -/
def topH (K : PySem.W.Frag) (cs : List (Addr × Addr)) (a : Addr) (vs : List Value) (ns : List Int) : Hp := fun b =>
  if b ∈ cs.map (·.2) then some (.tbl #[]) else if b = a ∧ K.lookup a = none then some (.frz { cls := .type "list", data := .seq vs.toArray } (.lst (ns.map V.int))) else none
section
variable {P : Program} {w : World} {K : PySem.W.Frag} {cs : List (Addr × Addr)} {a b : Addr} {vs : List Value} {ns : List Int} {h : Heap} {o : HO}
theorem topH_of (e : topH K cs a vs ns b = some o) : (b ∈ cs.map (·.2) ∧ o = .tbl #[]) ∨ (b = a ∧ K.lookup a = none ∧ o = .frz { cls := .type "list", data := .seq vs.toArray } (.lst (ns.map V.int))) := by
  unfold topH at e
  by_cases q : b ∈ cs.map (·.2)
  · rw [if_pos q] at e
    exact .inl ⟨q, (Option.some.inj e).symm⟩
  · rw [if_neg q] at e
    by_cases r : b = a ∧ K.lookup a = none
    · rw [if_pos r] at e
      exact .inr ⟨r.1, r.2, (Option.some.inj e).symm⟩
    · rw [if_neg r] at e
      cases e
theorem topH_tab {p : Addr × Addr} (hp : p ∈ cs) : topH K cs a vs ns p.2 = some (.tbl #[]) := by
  unfold topH
  exact if_pos (List.mem_map.mpr ⟨p, hp, rfl⟩)
theorem tab_at (hT : ∀ p ∈ cs, h.get? p.2 = some { cls := .none, data := .fields #[] }) (hb : b ∈ cs.map (·.2)) : h.get? b = some { cls := .none, data := .fields #[] } := by
  obtain ⟨p, hp, rfl⟩ := List.mem_map.mp hb
  exact hT p hp
theorem scr_tab (hT : ∀ p ∈ cs, h.get? p.2 = some { cls := .none, data := .fields #[] }) (ha : h.get? a = some { cls := .type "list", data := .seq vs.toArray }) : a ∉ cs.map (·.2) := fun q => by
  have := tab_at hT q
  rw [ha] at this
  have := congrArg Obj.data (Option.some.inj this)
  cases this
theorem topH_sq (hT : ∀ p ∈ cs, h.get? p.2 = some { cls := .none, data := .fields #[] }) (ha : h.get? a = some { cls := .type "list", data := .seq vs.toArray }) (KX : K.In h) (hi : IntsAre vs ns) (hl : ns.length ≤ sizeLine) : SqL K (topH K cs a vs ns) a (ns.map V.int) := by
  cases hk : K.lookup a with
  | none =>
    refine .inl (.inr ⟨{ cls := .type "list", data := .seq vs.toArray }, ?_⟩)
    unfold topH
    rw [if_neg (scr_tab hT ha), if_pos ⟨rfl, hk⟩]
  | some ob =>
    have e := KX a ob hk
    rw [ha] at e
    obtain rfl := Option.some.inj e
    exact .inr ⟨_, vs.toArray, _, hk, rfl, rfl, rfl, by rw [List.size_toArray, hi.length]; exact hl, by simpa using vals_ints hi⟩
theorem topH_ok (hT : ∀ p ∈ cs, h.get? p.2 = some { cls := .none, data := .fields #[] }) (ha : h.get? a = some { cls := .type "list", data := .seq vs.toArray }) (hi : IntsAre vs ns) (hl : ns.length ≤ sizeLine) : HOk P w (topH K cs a vs ns) h := fun b o e => by
  rcases topH_of e with ⟨q, rfl⟩ | ⟨rfl, _, rfl⟩
  · exact tab_at hT q
  · exact ⟨ha, by rw [List.length_map]; exact hl, vs, _, vals_ints hi, ha⟩
/-- an object that is no list and no table is not tracked -/
theorem topH_non (hT : ∀ p ∈ cs, h.get? p.2 = some { cls := .none, data := .fields #[] }) (ha : h.get? a = some { cls := .type "list", data := .seq vs.toArray }) {ob : Obj} (e : h.get? b = some ob) (h1 : ∀ us n, ob.data ≠ .seq us n) (h2 : ob.data ≠ .fields #[]) : topH K cs a vs ns b = none := by
  cases q : topH K cs a vs ns b with
  | none => rfl
  | some u =>
    rcases topH_of q with ⟨z, _⟩ | ⟨rfl, _, _⟩
    · rw [tab_at hT z] at e
      exact absurd (congrArg Obj.data (Option.some.inj e)).symm h2
    · rw [ha] at e
      exact absurd (congrArg Obj.data (Option.some.inj e)).symm (h1 _ _)
theorem topH_K (hT : ∀ p ∈ cs, h.get? p.2 = some { cls := .none, data := .fields #[] }) (nT : ∀ p ∈ cs, K.lookup p.2 = none) {ob : Obj} (e : K.lookup b = some ob) : topH K cs a vs ns b = none := by
  cases q : topH K cs a vs ns b with
  | none => rfl
  | some u =>
    rcases topH_of q with ⟨z, _⟩ | ⟨rfl, z, _⟩
    · obtain ⟨p, hp, rfl⟩ := List.mem_map.mp z
      rw [nT p hp] at e
      cases e
    · rw [z] at e
      cases e
theorem Ns.top (hT : ∀ p ∈ cs, h.get? p.2 = some { cls := .none, data := .fields #[] }) (ha : h.get? a = some { cls := .type "list", data := .seq vs.toArray }) {d : Addr} {m : Str → Option Value} (e : h.Ns d m) : (hidT h (topH K cs a vs ns)).Ns d m := by
  obtain ⟨ob, es, ep, e1, e2, r⟩ := e
  exact ⟨ob, es, ep, hidT_get e1 (topH_non hT ha e1 (fun us n z => by rw [e2] at z; cases z) fun z => by rw [e2] at z; cases z), e2, r⟩
end
/-- the law is called on a script, nothing being shown -/
theorem law_callG {P : Program} {w : World} {K : PySem.W.Frag} {mg mb : Str → Option Value} {k : Nat} {fa a : Addr} {cs : List (Addr × Addr)} {fd : FuncData} {x : Str} {sp : Sp} {s : Shared} {vs : List Value} {ns : List Int} (KX : K.In s.heap) (hns : s.heap.Ns mainGlobals mg) (hb : s.heap.Ns builtinsNs mb) (hbb : ∀ x : Str, x ≠ "__name__" → mb x = bootBuiltins x) (hlim : s.heap.NoLimit) (hg : s.gens = #[])
    (hT : ∀ p ∈ cs, s.heap.get? p.2 = some { cls := .none, data := .fields #[] }) (nT : ∀ p ∈ cs, K.lookup p.2 = none) (C : ∀ p ∈ cs, PySem.W.CodeHd s.heap p.1 p.2)
    (hbm : ∃ (bm : Addr) (ob : Obj), mg "__builtins__" = some (.ref bm) ∧ bm ≠ builtinsNs ∧ s.heap.get? bm = some ob ∧ ob.cls = .type "module" ∧ ob.dict = some builtinsNs ∧ ob.data = .plain)
    (ha : s.heap.get? a = some { cls := .type "list", data := .seq vs.toArray }) (hi : IntsAre vs ns) (hl : ns.length ≤ sizeLine) (hr : Room k callerA)
    (F : ∀ base : Heap, K.In base → base.Ns mainGlobals mg → (∀ p ∈ cs, GxR.TabB base mg p.1 p.2) → FnG P w K mg base k fa fd [x] sp) (hbind : ∀ (s : Shared) (u : Value), BindsTo s fd ⟨[u], []⟩ [(x, u)])
    (hsp : ∀ H : Hp, (∀ p ∈ cs, H p.2 = some (.tbl #[])) → SqL K H a (ns.map V.int) → sp [.ref a] H (fun v _ => v = .bl true) E0) :
    codeAny (model P w) callerA (.call (.ref fa) ⟨[.ref a], []⟩) (fun r s' => r = .ok (.ret (.bool true)) ∧ OldK s.heap s'.heap ∧ s'.os = s.os ∧ AllBare s'.gens) s := by
  have hH : ∀ p ∈ cs, topH K cs a vs ns p.2 = some (.tbl #[]) := fun p hp => topH_tab hp
  have hok : HOk P w (topH K cs a vs ns) s.heap := topH_ok hT ha hi hl
  have hKb : K.In (hidT s.heap (topH K cs a vs ns)) := fun b ob e => hidT_get (KX b ob e) (topH_K hT nT e)
  have gG := Ns.top (K := K) (ns := ns) hT ha hns
  have TB : ∀ p ∈ cs, GxR.TabB (hidT s.heap (topH K cs a vs ns)) mg p.1 p.2 := fun p hp => by
    have hTp := hT p hp
    obtain ⟨bm, ob, b1, b2, b3, b4, b5, b6⟩ := hbm
    obtain ⟨og, eg, epg, q1, q2, _⟩ := hns
    refine ⟨?_, ⟨bm, ob, b1, b2, fun z => ?_, fun z => ?_, hidT_get b3 (topH_non hT ha b3 (fun us n z => by rw [b6] at z; cases z) fun z => by rw [b6] at z; cases z), b4, b5, b6⟩, fun z => ?_⟩
    · obtain ⟨o, us, file, tf, flags, tg, inF, text, tt, e1, r1, r2, r3, r⟩ := C p hp
      refine ⟨o, us, file, tf, flags, tg, inF, text, tt, hidT_get e1 (topH_non hT ha e1 (fun us n z => by rw [r2] at z; cases z) fun z => ?_), r1, r2, r3, r⟩
      rw [r2] at z
      cases z
      simp at r3
    · rw [z, q1] at b3
      cases b3
      rw [q2] at b6
      cases b6
    · rw [z, hTp] at b3
      cases b3
      cases b6
    · rw [z, hTp] at q1
      cases q1
      cases q2
  have e0 : Env0 P w K mg (hidT s.heap (topH K cs a vs ns)) callerA [] s (topH K cs a vs ns) :=
    ⟨rfl, ⟨hKb, gG, ⟨mb, Ns.top hT ha hb, hbb⟩, hlim.imp fun mc h1 => ⟨Ns.top hT ha h1.1, h1.2⟩⟩, fun b o e => of_hidT e, Nat.le_of_eq (hidT_size _ _), trivial, fun b hb => absurd (show b ∈ ([] : List Addr) from hb) (by simp), hok, .of_eq hg⟩
  refine codeAny_mono ((F _ hKb gG TB).run callerA [] s (topH K cs a vs ns) ⟨[.ref a], []⟩ [.ref a] [.ref a] _ _ hr rfl e0 (hbind s (.ref a)) (.cons rfl .nil) (hsp _ hH (topH_sq hT ha KX hi hl))) fun r s' h => ?_
  match r, h with
  | .error e, h => exact False.elim h
  | .ok .next, h => exact False.elim h
  | .ok .brk, h => exact False.elim h
  | .ok .cont, h => exact False.elim h
  | .ok (.ret u), ⟨v, H', os, bare, un, hok', r', q⟩ =>
    obtain rfl : v = .bl true := q
    obtain rfl : u = Value.bool true := r'
    have old : ∀ b o, b ∉ cs.map (·.2) → s.heap.get? b = some o → s'.heap.get? b = some o := fun b o nb e => by
      cases q : topH K cs a vs ns b with
      | none => exact un.keep b o e q (fun z => absurd (show b ∈ ([] : List Addr) from z) (by simp)) (by simp)
      | some u =>
        rcases topH_of q with ⟨z, _⟩ | ⟨rfl, _, rfl⟩
        · exact absurd z nb
        · rw [ha] at e
          obtain rfl := Option.some.inj e
          exact (hok' _ _ (un.frzs _ _ _ q)).1
    have tabs : ∀ p ∈ cs, ∃ more : Array Value, s'.heap.get? p.2 = some { cls := .none, data := .fields more } := fun p hp => let ⟨more, z⟩ := un.tbls p.2 #[] (hH p hp); ⟨_, hok' p.2 _ z⟩
    refine ⟨rfl, ⟨fun b o e => ?_, fun b o e => ?_⟩, os, bare⟩
    all_goals by_cases hb : b ∈ cs.map (·.2)
    · obtain ⟨p, hp, rfl⟩ := List.mem_map.mp hb
      obtain ⟨more, hm⟩ := tabs p hp
      obtain rfl := Option.some.inj ((hT p hp).symm.trans e)
      exact .inr (.inl ⟨((C p hp).tab (hT p hp)).isCodeTable, rfl, #[], more, rfl, by rw [Array.empty_append]; exact hm⟩)
    · exact .inl (old b o hb e)
    · obtain ⟨p, hp, rfl⟩ := List.mem_map.mp hb
      obtain ⟨more, hm⟩ := tabs p hp
      exact ⟨_, hm⟩
    · exact ⟨o, old b o hb e⟩
end Ln


set_option Elab.async false
set_option linter.all false
set_option maxRecDepth 100000
set_option maxHeartbeats 2000000
namespace Ln
open PySem PySem.Spec PyProof.Rows L2 GxR LamX
/-! ### what the top has written -/
theorem kbx0 {K : PySem.W.Frag} {x : Str} {st : Stmt} {f : Addr} {fd : FuncData} (F : Fun K x x st f fd)
    (h : ∀ (kV doc pm : Value) (an : Option Addr) (cdv ct u v : Value), bindArgs (PySem.W.fnOf x x (defArgs st) (defBody st) (defScope st) .none kV doc pm an cdv ct) ⟨[], [("log", u), ("start", v)]⟩ = (pure [("start", v), ("log", u)] : Sem (List (Str × Value)))) : KBinds K fd ["start", "log"] ["log", "start"] rev2 rev2 := by
  obtain ⟨oc, od, kV, doc, pm, an, cdv, ct, osl, rfl, lk, hcd⟩ := F.ex
  refine ⟨fun s us ws hK hl => ?_, fun {vs us zs ws} r1 r2 => ?_⟩
  · match us, ws, hl with
    | [], [u, v], _ => exact .of_eq (h kV doc pm an cdv ct u v)
  · match r1, r2 with
    | .nil, .nil => exact .nil
    | .nil, .cons a .nil => exact .nil
    | .nil, .cons a (.cons b .nil) => exact .cons b (.cons a .nil)
    | .nil, .cons a (.cons b (.cons c e)) => exact .nil
    | .cons a b, _ => exact .nil
theorem kbx1 {K : PySem.W.Frag} {x : Str} {st : Stmt} {f : Addr} {fd : FuncData} (F : Fun K x x st f fd)
    (h : ∀ (kV doc pm : Value) (an : Option Addr) (cdv ct u v y : Value), bindArgs (PySem.W.fnOf x x (defArgs st) (defBody st) (defScope st) .none kV doc pm an cdv ct) ⟨[], [("sides", u), ("log", v), ("start", y)]⟩ = (pure [("start", y), ("log", v), ("sides", u)] : Sem (List (Str × Value)))) : KBinds K fd ["start", "log", "sides"] ["sides", "log", "start"] rev3k rev3k := by
  obtain ⟨oc, od, kV, doc, pm, an, cdv, ct, osl, rfl, lk, hcd⟩ := F.ex
  refine ⟨fun s us ws hK hl => ?_, fun {vs us zs ws} r1 r2 => ?_⟩
  · match us, ws, hl with
    | [], [u, v, y], _ => exact .of_eq (h kV doc pm an cdv ct u v y)
  · match r1, r2 with
    | .nil, .nil => exact .nil
    | .nil, .cons a .nil => exact .nil
    | .nil, .cons a (.cons b .nil) => exact .nil
    | .nil, .cons a (.cons b (.cons c .nil)) => exact .cons c (.cons b (.cons a .nil))
    | .nil, .cons a (.cons b (.cons c (.cons d e))) => exact .nil
    | .cons a b, _ => exact .nil
structure DefR (K : PySem.W.Frag) (x : Str) (st : Stmt) : Prop where
  ex : ∃ (f : Addr) (fd : FuncData), PySem.W.nsIn K mainGlobals x = some (some (.ref f)) ∧ Fun K x x st f fd
structure DefC (K : PySem.W.Frag) (x : Str) (st : Stmt) : Prop where
  ex : ∃ (f c p : Addr) (fd : FuncData), PySem.W.nsIn K mainGlobals x = some (some (.ref f)) ∧ FunC K x x st f fd c ∧ PySem.W.tabIn K x = some (c, p) ∧ K.lookup p = none
theorem def_mk {K : PySem.W.Frag} {x : Str} {st : Stmt} {f : Addr} {oc : Value} {od an : Option Addr} {osl : Array (Option Value)} {kV doc pm cdv ct : Value} (a : PySem.W.nsIn K mainGlobals x = some (some (.ref f)))
    (l : K.lookup f = some ⟨oc, od, .func (PySem.W.fnOf x x (defArgs st) (defBody st) (defScope st) .none kV doc pm an cdv ct), osl⟩) (c : PySem.W.codeIn K cdv x = true) (k : PySem.W.keepIn K (.ref f) = true) : DefR K x st := ⟨⟨_, _, a, fun_mk l c k⟩⟩
theorem defC_mk {K : PySem.W.Frag} {x : Str} {st : Stmt} {f cd p : Addr} {oc o1 : Value} {od an o2 : Option Addr} {osl o3 : Array (Option Value)} {us : Array Value} {kV doc pm ct : Value} (a : PySem.W.nsIn K mainGlobals x = some (some (.ref f)))
    (l : K.lookup f = some ⟨oc, od, .func (PySem.W.fnOf x x (defArgs st) (defBody st) (defScope st) .none kV doc pm an (.ref cd) ct), osl⟩) (c : PySem.W.codeIn K (.ref cd) x = true) (k : PySem.W.keepIn K (.ref f) = true)
    (lc : K.lookup cd = some ⟨o1, o2, .fields us, o3⟩) (hv : us[11]? = some (.ref p)) (hn : K.lookup p = none) : DefC K x st := by
  refine ⟨_, cd, p, _, a, ⟨⟨oc, od, kV, doc, pm, an, ct, osl, rfl, l, c⟩, k⟩, ?_, hn⟩
  unfold PySem.W.tabIn
  rw [a]
  simp only [l, PySem.W.fnOf, lc, hv]
/-- the tables, and the law's own promise -/
structure AllAt (P : Program) (w : World) (K : PySem.W.Frag) (mg : Str → Option Value) (fa : Addr) (cs : List (Addr × Addr)) (fd : FuncData) : Prop where
  bind : ∀ (s : Shared) (u : Value), BindsTo s fd ⟨[u], []⟩ [("script", u)]
  ok : ∀ base : Heap, K.In base → base.Ns mainGlobals mg → (∀ p ∈ cs, GxR.TabB base mg p.1 p.2) → FnG P w K mg base 10 fa fd ["script"] (spLaw K (cs.map (·.2)))
theorem all_mk {P : Program} {w : World} {K : PySem.W.Frag} {h : Heap} {mg : Str → Option Value} {fa : Addr} (X : K.In h) (G : h.Ns mainGlobals mg) (hfa : mg "law" = some (.ref fa))
    (D_is_car : DefC K "is_car" sIsCar)
    (D_is_side : DefR K "is_side" sIsSide)
    (D_is_lane : DefC K "is_lane" sIsLane)
    (D_is_arrival : DefR K "is_arrival" sIsArr)
    (D_is_departure : DefR K "is_departure" sIsDep)
    (D_has_word : DefR K "has_word" sHasW)
    (D_is_log : DefR K "is_log" sIsLog)
    (D_require_lane : DefR K "require_lane" sReqLane)
    (D_require_log : DefR K "require_log" sReqLog)
    (D_require_sides : DefC K "require_sides" sReqSides)
    (D_sizes : DefR K "sizes" sSizes)
    (D_numbers : DefR K "numbers" sNumbers)
    (D_replay : DefR K "replay" sReplay)
    (D_move : DefR K "move" sMove)
    (D_law_source : DefR K "_law_source" sSource)
    (D_law_draw : DefR K "_law_draw" sDraw)
    (D_law_mixed : DefR K "_law_mixed" sMixed)
    (D_law_vehicles : DefR K "_law_vehicles" sVeh)
    (D_law_happened : DefR K "_law_happened" sHap)
    (D_law_kind : DefR K "_law_kind" sKind)
    (D_law_raised : DefR K "_law_raised" sRaised)
    (D_law_due : DefR K "_law_due" sDue)
    (D_law_bad : DefR K "_law_bad" sBad)
    (D_law_made_right : DefR K "_law_made_right" sMade)
    (D_law : DefR K "law" sLaw)
    (z_isinstance : PySem.W.nsIn K mainGlobals "isinstance" = some none)
    (z_len : PySem.W.nsIn K mainGlobals "len" = some none)
    (z_all : PySem.W.nsIn K mainGlobals "all" = some none)
    (z_str : PySem.W.nsIn K mainGlobals "str" = some none)
    (z_tuple : PySem.W.nsIn K mainGlobals "tuple" = some none)
    (z_list : PySem.W.nsIn K mainGlobals "list" = some none)
    (z_set : PySem.W.nsIn K mainGlobals "set" = some none)
    (z_zip : PySem.W.nsIn K mainGlobals "zip" = some none)
    (z_max : PySem.W.nsIn K mainGlobals "max" = some none)
    (z_min : PySem.W.nsIn K mainGlobals "min" = some none)
    (z_abs : PySem.W.nsIn K mainGlobals "abs" = some none)
    (z_range : PySem.W.nsIn K mainGlobals "range" = some none)
    (z_repr : PySem.W.nsIn K mainGlobals "repr" = some none)
    (z_enumerate : PySem.W.nsIn K mainGlobals "enumerate" = some none)
    (z_sorted : PySem.W.nsIn K mainGlobals "sorted" = some none)
    (z_bool : PySem.W.nsIn K mainGlobals "bool" = some none)
    (z_dict : PySem.W.nsIn K mainGlobals "dict" = some none)
    (z_ValueError : PySem.W.nsIn K mainGlobals "ValueError" = some none)
    (z_er : erOk K ["InvalidLane", "InvalidLog", "InvalidCar", "InvalidCars", "InvalidSides", "InvalidPattern", "InvalidSightings", "InvalidIndex", "InvalidText", "UnknownCar", "UsedCar", "EmptyLane", "NotPossible", "NothingToUndo"] = true)
    (z_tl : tlOk K = true)
    (D_init : DefI K)
    : ∃ (c1 p1 c2 p2 c3 p3 : Addr) (fd : FuncData), PySem.W.tabIn K "is_car" = some (c1, p1) ∧ PySem.W.tabIn K "is_lane" = some (c2, p2) ∧ PySem.W.tabIn K "require_sides" = some (c3, p3) ∧ K.lookup p1 = none ∧ K.lookup p2 = none ∧ K.lookup p3 = none ∧ 
      AllAt P w K mg fa [(c1, p1), (c2, p2), (c3, p3)] fd := by
  have nn : ∀ {x : Str}, PySem.W.nsIn K mainGlobals x = some none → mg x = none := fun e => PySem.W.mg_none_of X G e
  have B : Bi mg := ⟨nn z_isinstance, nn z_len, nn z_all, nn z_str, nn z_tuple, nn z_list, nn z_set, nn z_zip⟩
  have B2 : Bl mg := ⟨nn z_max, nn z_min, nn z_abs, nn z_range, nn z_repr⟩
  have B3 : Bn mg := ⟨nn z_enumerate, nn z_range⟩
  obtain ⟨CB, ers⟩ := ers_of X G z_er
  have ernm := ers_names (x := "InvalidLane") X G (by decide +kernel) z_er
  obtain ⟨C_InvalidLane, er_InvalidLane⟩ := ers.all "InvalidLane" (by decide +kernel)
  obtain ⟨C_InvalidLog, er_InvalidLog⟩ := ers.all "InvalidLog" (by decide +kernel)
  obtain ⟨C_InvalidCar, er_InvalidCar⟩ := ers.all "InvalidCar" (by decide +kernel)
  obtain ⟨C_InvalidCars, er_InvalidCars⟩ := ers.all "InvalidCars" (by decide +kernel)
  obtain ⟨C_InvalidSides, er_InvalidSides⟩ := ers.all "InvalidSides" (by decide +kernel)
  obtain ⟨C_InvalidPattern, er_InvalidPattern⟩ := ers.all "InvalidPattern" (by decide +kernel)
  obtain ⟨C_InvalidSightings, er_InvalidSightings⟩ := ers.all "InvalidSightings" (by decide +kernel)
  obtain ⟨C_InvalidIndex, er_InvalidIndex⟩ := ers.all "InvalidIndex" (by decide +kernel)
  obtain ⟨C_InvalidText, er_InvalidText⟩ := ers.all "InvalidText" (by decide +kernel)
  obtain ⟨C_UnknownCar, er_UnknownCar⟩ := ers.all "UnknownCar" (by decide +kernel)
  obtain ⟨C_UsedCar, er_UsedCar⟩ := ers.all "UsedCar" (by decide +kernel)
  obtain ⟨C_EmptyLane, er_EmptyLane⟩ := ers.all "EmptyLane" (by decide +kernel)
  obtain ⟨C_NotPossible, er_NotPossible⟩ := ers.all "NotPossible" (by decide +kernel)
  obtain ⟨C_NothingToUndo, er_NothingToUndo⟩ := ers.all "NothingToUndo" (by decide +kernel)
  obtain ⟨f0, c1, p1, fd0, a0, F0, t1, n1⟩ := D_is_car.ex
  have m0 := PySem.W.mg_of X G a0
  obtain ⟨f1, fd1, a1, F1⟩ := D_is_side.ex
  have m1 := PySem.W.mg_of X G a1
  obtain ⟨f2, c2, p2, fd2, a2, F2, t2, n2⟩ := D_is_lane.ex
  have m2 := PySem.W.mg_of X G a2
  obtain ⟨f3, fd3, a3, F3⟩ := D_is_arrival.ex
  have m3 := PySem.W.mg_of X G a3
  obtain ⟨f4, fd4, a4, F4⟩ := D_is_departure.ex
  have m4 := PySem.W.mg_of X G a4
  obtain ⟨f5, fd5, a5, F5⟩ := D_has_word.ex
  have m5 := PySem.W.mg_of X G a5
  obtain ⟨f6, fd6, a6, F6⟩ := D_is_log.ex
  have m6 := PySem.W.mg_of X G a6
  obtain ⟨f7, fd7, a7, F7⟩ := D_require_lane.ex
  have m7 := PySem.W.mg_of X G a7
  obtain ⟨f8, fd8, a8, F8⟩ := D_require_log.ex
  have m8 := PySem.W.mg_of X G a8
  obtain ⟨f9, c3, p3, fd9, a9, F9, t3, n3⟩ := D_require_sides.ex
  have m9 := PySem.W.mg_of X G a9
  obtain ⟨f10, fd10, a10, F10⟩ := D_sizes.ex
  have m10 := PySem.W.mg_of X G a10
  obtain ⟨f11, fd11, a11, F11⟩ := D_numbers.ex
  have m11 := PySem.W.mg_of X G a11
  obtain ⟨f12, fd12, a12, F12⟩ := D_replay.ex
  have m12 := PySem.W.mg_of X G a12
  obtain ⟨f13, fd13, a13, F13⟩ := D_move.ex
  have m13 := PySem.W.mg_of X G a13
  obtain ⟨f14, fd14, a14, F14⟩ := D_law_source.ex
  have m14 := PySem.W.mg_of X G a14
  obtain ⟨f15, fd15, a15, F15⟩ := D_law_draw.ex
  have m15 := PySem.W.mg_of X G a15
  obtain ⟨f16, fd16, a16, F16⟩ := D_law_mixed.ex
  have m16 := PySem.W.mg_of X G a16
  obtain ⟨f17, fd17, a17, F17⟩ := D_law_vehicles.ex
  have m17 := PySem.W.mg_of X G a17
  obtain ⟨f18, fd18, a18, F18⟩ := D_law_happened.ex
  have m18 := PySem.W.mg_of X G a18
  obtain ⟨f19, fd19, a19, F19⟩ := D_law_kind.ex
  have m19 := PySem.W.mg_of X G a19
  obtain ⟨f20, fd20, a20, F20⟩ := D_law_raised.ex
  have m20 := PySem.W.mg_of X G a20
  obtain ⟨f21, fd21, a21, F21⟩ := D_law_due.ex
  have m21 := PySem.W.mg_of X G a21
  obtain ⟨f22, fd22, a22, F22⟩ := D_law_bad.ex
  have m22 := PySem.W.mg_of X G a22
  obtain ⟨f23, fd23, a23, F23⟩ := D_law_made_right.ex
  have m23 := PySem.W.mg_of X G a23
  obtain ⟨f24, fd24, a24, F24⟩ := D_law.ex
  have m24 := PySem.W.mg_of X G a24
  have b0 : Binds K fd0 ["value"] [] := F0.fn.binds fun _ _ _ _ _ _ us hl => match us, hl with | [_], _ => rfl
  have b1 : Binds K fd1 ["value"] [] := F1.binds fun _ _ _ _ _ _ us hl => match us, hl with | [_], _ => rfl
  have b2 : Binds K fd2 ["value"] [] := F2.fn.binds fun _ _ _ _ _ _ us hl => match us, hl with | [_], _ => rfl
  have b3 : Binds K fd3 ["value"] [] := F3.binds fun _ _ _ _ _ _ us hl => match us, hl with | [_], _ => rfl
  have b4 : Binds K fd4 ["value"] [] := F4.binds fun _ _ _ _ _ _ us hl => match us, hl with | [_], _ => rfl
  have b5 : Binds K fd5 ["value", "word", "length"] [] := F5.binds fun _ _ _ _ _ _ us hl => match us, hl with | [_, _, _], _ => rfl
  have b6 : Binds K fd6 ["start", "value"] [] := F6.binds fun _ _ _ _ _ _ us hl => match us, hl with | [_, _], _ => rfl
  have b7 : Binds K fd7 ["value"] [] := F7.binds fun _ _ _ _ _ _ us hl => match us, hl with | [_], _ => rfl
  have b8 : Binds K fd8 ["start", "log"] [] := F8.binds fun _ _ _ _ _ _ us hl => match us, hl with | [_, _], _ => rfl
  have b9 : Binds K fd9 ["log", "sides"] [] := F9.fn.binds fun _ _ _ _ _ _ us hl => match us, hl with | [_, _], _ => rfl
  have b10 : Binds K fd10 ["start", "log"] [] := F10.binds fun _ _ _ _ _ _ us hl => match us, hl with | [_, _], _ => rfl
  have b11 : Binds K fd11 ["start", "log"] [] := F11.binds fun _ _ _ _ _ _ us hl => match us, hl with | [_, _], _ => rfl
  have b12 : Binds K fd12 ["start", "log", "sides"] [] := F12.binds fun _ _ _ _ _ _ us hl => match us, hl with | [_, _, _], _ => rfl
  have b13 : Binds K fd13 ["present", "event", "side"] [] := F13.binds fun _ _ _ _ _ _ us hl => match us, hl with | [_, _, _], _ => rfl
  have b14 : Binds K fd14 ["script", "k"] [] := F14.binds fun _ _ _ _ _ _ us hl => match us, hl with | [_, _], _ => rfl
  have b15 : Binds K fd15 ["source", "limit"] [] := F15.binds fun _ _ _ _ _ _ us hl => match us, hl with | [_, _], _ => rfl
  have b16 : Binds K fd16 ["source", "things"] [] := F16.binds fun _ _ _ _ _ _ us hl => match us, hl with | [_, _], _ => rfl
  have b17 : Binds K fd17 ["source", "count"] [] := F17.binds fun _ _ _ _ _ _ us hl => match us, hl with | [_, _], _ => rfl
  have b18 : Binds K fd18 ["source", "present", "spare", "most"] [] := F18.binds fun _ _ _ _ _ _ us hl => match us, hl with | [_, _, _, _], _ => rfl
  have b19 : Binds K fd19 ["e"] [] := F19.binds fun _ _ _ _ _ _ us hl => match us, hl with | [_], _ => rfl
  have b20 : Binds K fd20 ["door", "initial", "happened", "moves"] [] := F20.binds fun _ _ _ _ _ _ us hl => match us, hl with | [_, _, _, _], _ => rfl
  have b21 : Binds K fd21 ["door", "bad"] [] := F21.binds fun _ _ _ _ _ _ us hl => match us, hl with | [_, _], _ => rfl
  have b22 : Binds K fd22 ["source", "number", "parts"] [] := F22.binds fun _ _ _ _ _ _ us hl => match us, hl with | [_, _, _], _ => rfl
  have b23 : Binds K fd23 [] [] := F23.binds fun _ _ _ _ _ _ us hl => match us, hl with | [], _ => rfl
  obtain rfl : fa = f24 := by
    have e := hfa.symm.trans m24
    cases e
    rfl
  refine ⟨c1, p1, c2, p2, c3, p3, fd24, t1, t2, t3, n1, n2, n3, ?_, fun base Kb Gb TB => ?_⟩
  · obtain ⟨oc, od, kV, doc, pm, an, cdv, ct, osl, rfl, lk, hcd⟩ := F24.ex
    exact fun s u => .of_eq rfl
  have TB1 := TB (c1, p1) List.mem_cons_self
  have TB2 := TB (c2, p2) (List.mem_cons_of_mem _ List.mem_cons_self)
  have TB3 := TB (c3, p3) (List.mem_cons_of_mem _ (List.mem_cons_of_mem _ List.mem_cons_self))
  have h1 : p1 ∈ [p1, p2, p3] := List.mem_cons_self
  have h2 : p2 ∈ [p1, p2, p3] := (List.mem_cons_of_mem _ List.mem_cons_self)
  have h3 : p3 ∈ [p1, p2, p3] := (List.mem_cons_of_mem _ (List.mem_cons_of_mem _ List.mem_cons_self))
  obtain ⟨DT, hDT, tl⟩ := tl_of X G ers.g z_tl
  obtain ⟨D13, fI, fdI, aI, iI, tI, FI⟩ := D_init.ex
  obtain rfl : DT = D13 := Option.some.inj (hDT.symm.trans (cls_of_ns aI))
  have GI : FnOk P w K mg base CX0 1 fI fdI ["self", "limit"] (spTL K DT) := ok_tli FI tl.ox tl.li
  have bI : Binds K fdI ["self", "limit"] [] := FI.binds fun _ _ _ _ _ _ us hl => match us, hl with | [_, _], _ => rfl
  have hX := have_all ers.all tl.ba
  have G0 : FnOk P w K mg base CX0 2 f0 fd0 ["value"] (spCar [p1, p2, p3]) := ok_car F0 B TB1 h1
  have G2 : FnOk P w K mg base CX0 4 f2 fd2 ["value"] (spLane K [p1, p2, p3]) := ok_lane F2 B TB2 h2 G0 m0 F0.kp b0
  have G5 : FnOk P w K mg base CX0 1 f5 fd5 ["value", "word", "length"] (spHasW K) := ok_hasW F5 B
  have G3 : FnOk P w K mg base CX0 3 f3 fd3 ["value"] (spEv K [p1, p2, p3] arrB) := ok_arr F3 G5 m5 F5.kp b5 G0 m0 F0.kp b0
  have G4 : FnOk P w K mg base CX0 2 f4 fd4 ["value"] (spEv K [p1, p2, p3] depB) := ok_dep F4 G5 m5 F5.kp b5
  have G7 : FnOk P w K mg base CX0 5 f7 fd7 ["value"] (spReqLane K [p1, p2, p3]) := ok_reqLane F7 G2 m2 F2.kp b2
  have G6 : FnOk P w K mg base CX0 6 f6 fd6 ["start", "value"] (spLog K [p1, p2, p3]) := ok_log F6 B G7 m7 F7.kp b7 G3 m3 F3.kp b3 G4 m4 F4.kp b4
  have G8 : FnOk P w K mg base CX0 7 f8 fd8 ["start", "log"] (spReqLog K [p1, p2, p3]) := ok_reqLog F8 G6 m6 F6.kp b6
  have G10 : FnOk P w K mg base CX0 8 f10 fd10 ["start", "log"] (spSizes K [p1, p2, p3]) := ok_sizes F10 B G8 m8 F8.kp b8
  have G11 : FnOk P w K mg base CX0 8 f11 fd11 ["start", "log"] (spNumbers K [p1, p2, p3]) := ok_numbers F11 B G8 m8 F8.kp b8
  have G1 : FnOk P w K mg base CX0 1 f1 fd1 ["value"] (spSide [p1, p2, p3]) := ok_side F1 B
  have G9 : FnOk P w K mg base CX0 3 f9 fd9 ["log", "sides"] (spReqSides K [p1, p2, p3]) := ok_reqSides F9 B TB3 h3 G1 m1 F1.kp b1
  have G13 : FnOk P w K mg base CX0 1 f13 fd13 ["present", "event", "side"] (spMove K) := ok_move F13 B
  have G12 : FnOk P w K mg base CX0 8 f12 fd12 ["start", "log", "sides"] (spReplay K [p1, p2, p3]) := ok_replay F12 B G8 m8 F8.kp b8 G9 m9 F9.kp b9 G13 m13 F13.kp b13
  have G14 : FnOk P w K mg base CX0 1 f14 fd14 ["script", "k"] (spSource K) := ok_source F14 B B2
  have G15 : FnOk P w K mg base CX0 1 f15 fd15 ["source", "limit"] (spDraw) := ok_draw F15
  have G16 : FnOk P w K mg base CX0 2 f16 fd16 ["source", "things"] (spMixed K) := ok_mixed F16 B B2 G15 m15 F15.kp b15
  have G17 : FnOk P w K mg base CX0 3 f17 fd17 ["source", "count"] (spVeh) := ok_veh F17 B B2 G15 m15 F15.kp b15 G16 m16 F16.kp b16
  have G18 : FnOk P w K mg base CX0 2 f18 fd18 ["source", "present", "spare", "most"] (spHap K) := ok_hap F18 B B2 G15 m15 F15.kp b15
  have G19 : FnOk P w K mg base CX0 1 f19 fd19 ["e"] (spKindV K mg CB) := ok_kindV F19 B ernm (nn z_ValueError)
  have G21 : FnOk P w K mg base CX0 1 f21 fd21 ["door", "bad"] (spDue K) := ok_due F21
  have G22 : FnOk P w K mg base CX0 2 f22 fd22 ["source", "number", "parts"] (spBad K) := ok_bad F22 B G15 m15 F15.kp b15
  have G23 : FnOk P w K mg base CX0 3 f23 fd23 [] (spMade) := ok_made F23 B ers.g hX tl.ek tl.ox tl.xf tl.li iI tI GI bI G19 m19 F19.kp b19
  have kb10 : KBinds K fd10 ["start", "log"] ["log", "start"] rev2 rev2 := kbx0 F10 fun _ _ _ _ _ _ _ _ => rfl
  have kb11 : KBinds K fd11 ["start", "log"] ["log", "start"] rev2 rev2 := kbx0 F11 fun _ _ _ _ _ _ _ _ => rfl
  have kb12 : KBinds K fd12 ["start", "log", "sides"] ["sides", "log", "start"] rev3k rev3k := kbx1 F12 fun _ _ _ _ _ _ _ _ _ => rfl
  have GKE : LHot.FnE P w K mg base 1 f19 fd19 "e" (spKindE K mg CB) := ok_kindE F19 B ernm (nn z_ValueError)
  have n12 : C_InvalidLane ≠ C_InvalidLog := er_ne er_InvalidLane er_InvalidLog (List.contains_iff_mem.mp (by decide +kernel)) (by decide +kernel)
  have n13 : C_InvalidLane ≠ C_InvalidSides := er_ne er_InvalidLane er_InvalidSides (List.contains_iff_mem.mp (by decide +kernel)) (by decide +kernel)
  have n23 : C_InvalidLog ≠ C_InvalidSides := er_ne er_InvalidLog er_InvalidSides (List.contains_iff_mem.mp (by decide +kernel)) (by decide +kernel)
  have GcN : FnOk P w K mg base CX0 2 f0 fd0 ["value"] (spCarN K) := ok_carN F0 B TB1 h1
  have GcA : FnOk P w K mg base CX0 2 f0 fd0 ["value"] (spCarA K [p1, p2, p3]) := ok_carA G0 GcN
  have GlN : FnOk P w K mg base CX0 4 f2 fd2 ["value"] (spLaneN K [p1, p2, p3]) := ok_laneN F2 B TB2 h2 GcA m0 F0.kp b0
  have GlA : FnOk P w K mg base CX0 4 f2 fd2 ["value"] (spLaneA K [p1, p2, p3]) := ok_laneA G2 GlN
  have GwA : FnOk P w K mg base CX0 1 f5 fd5 ["value", "word", "length"] (spHasWA K) := ok_hasWA F5 B
  have GaA : FnOk P w K mg base CX0 3 f3 fd3 ["value"] (spEvA K [p1, p2, p3] arrBD) := ok_arrA F3 GwA m5 F5.kp b5 GcA m0 F0.kp b0
  have GdA : FnOk P w K mg base CX0 2 f4 fd4 ["value"] (spEvA K [p1, p2, p3] depBD) := ok_depA F4 GwA m5 F5.kp b5
  have GgA : FnOk P w K mg base CX0 6 f6 fd6 ["start", "value"] (spLogA K [p1, p2, p3]) := ok_logA F6 B G7 m7 F7.kp b7 GaA m3 F3.kp b3 GdA m4 F4.kp b4
  have GrX : FnOk P w K mg base (L2.CX P w) 5 f7 fd7 ["value"] (spReqLaneX K [p1, p2, p3] C_InvalidLane) := ok_reqLaneX F7 er_InvalidLane.xc GlA m2 F2.kp b2
  have GgB : FnOk P w K mg base (L2.CX P w) 6 f6 fd6 ["start", "value"] (spLogXb K [p1, p2, p3] C_InvalidLane) := ok_logXb F6 GrX m7 F7.kp b7
  have GgX : FnOk P w K mg base (L2.CX P w) 6 f6 fd6 ["start", "value"] (spLogX K [p1, p2, p3] C_InvalidLane) := ok_logX GgA GgB
  have GqX : FnOk P w K mg base (L2.CX P w) 7 f8 fd8 ["start", "log"] (spReqLogX K [p1, p2, p3] C_InvalidLane C_InvalidLog) := ok_reqLogX F8 er_InvalidLog.xc GgX m6 F6.kp b6
  have GsA : FnOk P w K mg base CX0 1 f1 fd1 ["value"] (spSideA K [p1, p2, p3]) := ok_sideA F1 B
  have GrN : FnOk P w K mg base (L2N.CX P w) 5 f7 fd7 ["value"] (spReqLaneX K [p1, p2, p3] C_InvalidLane) := ok_reqLaneN F7 er_InvalidLane.xc GlA m2 F2.kp b2
  have GgNb : FnOk P w K mg base (L2N.CX P w) 6 f6 fd6 ["start", "value"] (spLogXb K [p1, p2, p3] C_InvalidLane) := ok_logNb F6 GrN m7 F7.kp b7
  have GgN : FnOk P w K mg base (L2N.CX P w) 6 f6 fd6 ["start", "value"] (spLogX K [p1, p2, p3] C_InvalidLane) := ok_logN GgA GgNb
  have GqN : FnOk P w K mg base (L2N.CX P w) 7 f8 fd8 ["start", "log"] (spReqLogX K [p1, p2, p3] C_InvalidLane C_InvalidLog) := ok_reqLogN F8 er_InvalidLog.xc GgN m6 F6.kp b6
  have GzN : FnOk P w K mg base (L2N.CX P w) 8 f10 fd10 ["start", "log"] (spBad2 K [p1, p2, p3] C_InvalidLane C_InvalidLog) := ok_sizesN F10 GqN m8 F8.kp b8
  have GnN : FnOk P w K mg base (L2N.CX P w) 8 f11 fd11 ["start", "log"] (spBad2 K [p1, p2, p3] C_InvalidLane C_InvalidLog) := ok_numbersN F11 GqN m8 F8.kp b8
  have GmN : FnOk P w K mg base (L2N.CX P w) 3 f9 fd9 ["log", "sides"] (spReqSidesX K [p1, p2, p3] C_InvalidSides) := ok_reqSidesN F9 B TB3 h3 er_InvalidSides.xc GsA m1 F1.kp b1
  have GpN : FnOk P w K mg base (L2N.CX P w) 8 f12 fd12 ["start", "log", "sides"] (spBad3 K [p1, p2, p3] C_InvalidLane C_InvalidLog) := ok_replayN F12 GqN m8 F8.kp b8
  have GpS : FnOk P w K mg base (L2N.CX P w) 8 f12 fd12 ["start", "log", "sides"] (spBadS K [p1, p2, p3] C_InvalidSides) := ok_replayS F12 G8 m8 F8.kp b8 GmN m9 F9.kp b9
  have QgN : FnOk P w K mg base (L2N.CX P w) 6 f6 fd6 ["start", "value"] (spD2 K [p1, p2, p3] fun d _ => laneE C_InvalidLane d) := d_log GgN
  have QzN : FnOk P w K mg base (L2N.CX P w) 8 f10 fd10 ["start", "log"] (spD2 K [p1, p2, p3] fun d e => reqLogO C_InvalidLane C_InvalidLog d e) := d_sizes G10 GzN
  have QnN : FnOk P w K mg base (L2N.CX P w) 8 f11 fd11 ["start", "log"] (spD2 K [p1, p2, p3] fun d e => reqLogO C_InvalidLane C_InvalidLog d e) := d_numbers G11 GnN
  have QpN : FnOk P w K mg base (L2N.CX P w) 8 f12 fd12 ["start", "log", "sides"] (spD3 K [p1, p2, p3] fun d e g => repO C_InvalidLane C_InvalidLog C_InvalidSides d e g) := d_replay (Nat.le_refl 8) G12 GpN GpS
  have GRA : FnOk P w K mg base CX0 9 f20 fd20 ["door", "initial", "happened", "moves"] (spRaised K [p1, p2, p3] C_InvalidLane C_InvalidLog C_InvalidSides) := ok_raised F20 ers.g er_InvalidLane er_InvalidLog er_InvalidSides n12 n13 n23 QgN m6 F6.kp b6 QzN m10 F10.kp b10 kb10 QnN m11 F11.kp b11 kb11 QpN m12 F12.kp b12 kb12 GKE m19 F19.kp b19
  exact ok_law3 F24 B B2 n12.symm n13.symm n23.symm G14 m14 F14.kp b14 G15 m15 F15.kp b15 G17 m17 F17.kp b17 G18 m18 F18.kp b18 G22 m22 F22.kp b22 GRA m20 F20.kp b20 G21 m21 F21.kp b21 G23 m23 F23.kp b23
end Ln


set_option Elab.async false
set_option linter.all false
set_option maxRecDepth 100000
set_option maxHeartbeats 2000000
namespace Ln
open PySem PySem.Spec PyProof.Rows L2 GxR LamX
theorem walk_G {l : PySem.W.OpenLaw} {n : Nat} {q : Program} {loose : List Str} {XP : (Str → Option Value) → Heap → Prop} {YP : World → Heap → Prop} {d d1 d2 d3 : DefRec} {K : Params → PySem.W.Frag} (hn : l.most = some n) (hn2 : n ≤ sizeLine) (hdf : d.params.defaults = []) (hY : ∀ (w : World) (h : Heap), YP w h → (K w.params).In h)
    (r1 : (recsOf q).find? (fun e => e.name == PySem.Str.ofString "is_car") = some d1) (r2 : (recsOf q).find? (fun e => e.name == PySem.Str.ofString "is_lane") = some d2) (r3 : (recsOf q).find? (fun e => e.name == PySem.Str.ofString "require_sides") = some d3)
    (F : ∀ (w : World) (mg : Str → Option Value) (fa : Addr) (h : Heap), (K w.params).In h → h.Ns mainGlobals mg → mg d.name = some (.ref fa) → ∃ (c1 p1 c2 p2 c3 p3 : Addr) (fd : FuncData), PySem.W.tabIn (K w.params) "is_car" = some (c1, p1) ∧ PySem.W.tabIn (K w.params) "is_lane" = some (c2, p2) ∧ PySem.W.tabIn (K w.params) "require_sides" = some (c3, p3) ∧
      (K w.params).lookup p1 = none ∧ (K w.params).lookup p2 = none ∧ (K w.params).lookup p3 = none ∧ AllAt l.prog w (K w.params) mg fa [(c1, p1), (c2, p2), (c3, p3)] fd) :
    PySem.W.WalkO q loose XP YP l.row.toRowW d [] (fun f vs => PySem.call f vs) := by
  refine Att.attach_callB hn hdf fun w s₀ s₁ mg mb fa o pm cd doc a vs ns G Y ho hd hcd hmg hobj hints hlen hbits hg => ?_
  have KX := hY w _ Y
  obtain ⟨c1, p1, c2, p2, c3, p3, fd, t1, t2, t3, n1, n2, n3, all⟩ := F w mg fa _ KX G.T.g hmg
  have T1 := PySem.W.tab_of G.T KX r1 t1
  have T2 := PySem.W.tab_of G.T KX r2 t2
  have T3 := PySem.W.tab_of G.T KX r3 t3
  have three : ∀ {φ : Addr × Addr → Prop}, φ (c1, p1) → φ (c2, p2) → φ (c3, p3) → ∀ p ∈ [(c1, p1), (c2, p2), (c3, p3)], φ p := fun x y z p hp => by
    rcases List.mem_cons.mp hp with rfl | hp
    · exact x
    rcases List.mem_cons.mp hp with rfl | hp
    · exact y
    rcases List.mem_cons.mp hp with rfl | hp
    · exact z
    cases hp
  refine law_callG KX G.T.g G.T.b G.T.builtins G.T.nolimit hg (three T1.2 T2.2 T3.2) (three n1 n2 n3) (three T1.1 T2.1 T3.1) G.T.bmain hobj hints (Nat.le_trans hlen hn2) ⟨rfl, by decide, by decide⟩ all.ok all.bind fun H hH hS => ⟨a, ns, rfl, hS, fun p hp => ?_, fun H' => rfl⟩
  obtain ⟨x, hx, rfl⟩ := List.mem_map.mp hp
  exact ⟨#[], hH x hx, by first | trivial | exact .nil | simp [TriplesOk]⟩
end Ln


set_option maxRecDepth 100000
open PySem PySem.W PyProof.Rows
set_option maxHeartbeats 0 in
theorem PySem.Challenge.cw_openlane_k03_log_errors_holds : PySem.Challenge.rw_openlane_k03_log_errors.Holds := by
  w_on; o_law; k_head; (case hw => w_witness2)
  k_fill
  refine Ln.walk_G (l := PySem.Challenge.rw_openlane_k03_log_errors) (n := 63) rfl (by decide) rfl (fun w h Y => PySem.W.kIn_of Y) rfl rfl rfl ?F
  case F =>
    intro w mg fa h KX G hmg
    refine' Ln.all_mk KX G hmg ?D0 ?D1 ?D2 ?D3 ?D4 ?D5 ?D6 ?D7 ?D8 ?D9 ?D10 ?D11 ?D12 ?D13 ?D14 ?D15 ?D16 ?D17 ?D18 ?D19 ?D20 ?D21 ?D22 ?D23 ?D24 ?z0 ?z1 ?z2 ?z3 ?z4 ?z5 ?z6 ?z7 ?z8 ?z9 ?z10 ?z11 ?z12 ?z13 ?z14 ?z15 ?z16 ?z17 ?zer ?e0 ?e1
    (case D0 => refine' Ln.defC_mk ?a ?l ?c ?k ?lc ?hv ?hn; (case a => k_is); (case l => k_is); (case c => k_is); (case k => k_is); (case lc => k_is); (case hv => rfl); (case hn => kernel_rfl))
    (case D1 => refine' Ln.def_mk ?a ?l ?c ?k; (case a => k_is); (case l => k_is); (case c => k_is); (case k => k_is))
    (case D2 => refine' Ln.defC_mk ?a ?l ?c ?k ?lc ?hv ?hn; (case a => k_is); (case l => k_is); (case c => k_is); (case k => k_is); (case lc => k_is); (case hv => rfl); (case hn => kernel_rfl))
    (case D3 => refine' Ln.def_mk ?a ?l ?c ?k; (case a => k_is); (case l => k_is); (case c => k_is); (case k => k_is))
    (case D4 => refine' Ln.def_mk ?a ?l ?c ?k; (case a => k_is); (case l => k_is); (case c => k_is); (case k => k_is))
    (case D5 => refine' Ln.def_mk ?a ?l ?c ?k; (case a => k_is); (case l => k_is); (case c => k_is); (case k => k_is))
    (case D6 => refine' Ln.def_mk ?a ?l ?c ?k; (case a => k_is); (case l => k_is); (case c => k_is); (case k => k_is))
    (case D7 => refine' Ln.def_mk ?a ?l ?c ?k; (case a => k_is); (case l => k_is); (case c => k_is); (case k => k_is))
    (case D8 => refine' Ln.def_mk ?a ?l ?c ?k; (case a => k_is); (case l => k_is); (case c => k_is); (case k => k_is))
    (case D9 => refine' Ln.defC_mk ?a ?l ?c ?k ?lc ?hv ?hn; (case a => k_is); (case l => k_is); (case c => k_is); (case k => k_is); (case lc => k_is); (case hv => rfl); (case hn => kernel_rfl))
    (case D10 => refine' Ln.def_mk ?a ?l ?c ?k; (case a => k_is); (case l => k_is); (case c => k_is); (case k => k_is))
    (case D11 => refine' Ln.def_mk ?a ?l ?c ?k; (case a => k_is); (case l => k_is); (case c => k_is); (case k => k_is))
    (case D12 => refine' Ln.def_mk ?a ?l ?c ?k; (case a => k_is); (case l => k_is); (case c => k_is); (case k => k_is))
    (case D13 => refine' Ln.def_mk ?a ?l ?c ?k; (case a => k_is); (case l => k_is); (case c => k_is); (case k => k_is))
    (case D14 => refine' Ln.def_mk ?a ?l ?c ?k; (case a => k_is); (case l => k_is); (case c => k_is); (case k => k_is))
    (case D15 => refine' Ln.def_mk ?a ?l ?c ?k; (case a => k_is); (case l => k_is); (case c => k_is); (case k => k_is))
    (case D16 => refine' Ln.def_mk ?a ?l ?c ?k; (case a => k_is); (case l => k_is); (case c => k_is); (case k => k_is))
    (case D17 => refine' Ln.def_mk ?a ?l ?c ?k; (case a => k_is); (case l => k_is); (case c => k_is); (case k => k_is))
    (case D18 => refine' Ln.def_mk ?a ?l ?c ?k; (case a => k_is); (case l => k_is); (case c => k_is); (case k => k_is))
    (case D19 => refine' Ln.def_mk ?a ?l ?c ?k; (case a => k_is); (case l => k_is); (case c => k_is); (case k => k_is))
    (case D20 => refine' Ln.def_mk ?a ?l ?c ?k; (case a => k_is); (case l => k_is); (case c => k_is); (case k => k_is))
    (case D21 => refine' Ln.def_mk ?a ?l ?c ?k; (case a => k_is); (case l => k_is); (case c => k_is); (case k => k_is))
    (case D22 => refine' Ln.def_mk ?a ?l ?c ?k; (case a => k_is); (case l => k_is); (case c => k_is); (case k => k_is))
    (case D23 => refine' Ln.def_mk ?a ?l ?c ?k; (case a => k_is); (case l => k_is); (case c => k_is); (case k => k_is))
    (case D24 => refine' Ln.def_mk ?a ?l ?c ?k; (case a => k_is); (case l => k_is); (case c => k_is); (case k => k_is))
    (case zer => kernel_rfl)
    (case e0 => kernel_rfl)
    (case e1 => refine' Ln.defI_mk ?a ?i ?t ?l ?c ?k; (case a => k_is); (case i => k_is); (case t => k_is); (case l => k_is); (case c => k_is); (case k => k_is))
    (case z0 => k_is); (case z1 => k_is); (case z2 => k_is); (case z3 => k_is); (case z4 => k_is); (case z5 => k_is); (case z6 => k_is); (case z7 => k_is); (case z8 => k_is); (case z9 => k_is); (case z10 => k_is); (case z11 => k_is); (case z12 => k_is); (case z13 => k_is); (case z14 => k_is); (case z15 => k_is); (case z16 => k_is); (case z17 => k_is)
#print axioms PySem.Challenge.cw_openlane_k03_log_errors_holds

