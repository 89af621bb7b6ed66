import PyProof.Rows.All
import Wide.All
import OpenK.AllK
import Wide.FinOn
import HandS.AnyAll
import PyProof.GenQ
import PyProof.GenRules
import HandS.GenOver
import HandS.SetKeys
import HandS.Strs
import PyProof.WalksMore
import HandS.Base
import HandS.ForMost
import HandS.IsInst
import HandS.Wide
import HandS.Defaults
import HandS.Style
import HandS.Zip
import HandS.Flow
import HandS.DeepEq
import HandS.More
import HandS.WordsExc
import HandS.Exc
import HandS.ExcOwn
import HandS.TupAny
import HandS.Walk
import HandS.TupSets
import HandS.Iter
import KE.GoesEnum
import HandS.Conv
import HandS.Dict
import HandS.Words
import PyProof.Rows.RegFStrParts
import PyProof.EqKinds
import PyProof.FactsAll.dict_1
import PyProof.FactsAll.subtypes_3
import HandS.DictEq
import HandS.Text
import HandS.Steps
import HandS.DictComp
import KE.KDictCopyH
import KE.KDictPairs
import HandS.Small
import PyProof.DictMoreH
import HandS.TupLe
import HandS.WideBits
import PyProof.CallFns
import PyProof.ReprRoads
import HandS.EndTab
import KE.KNest
import PySem.Challenge.RW_openlane_k17_histories_by_replay
set_option Elab.async false
set_option linter.all false
set_option maxRecDepth 100000
set_option maxHeartbeats 2000000
namespace Ln
open PySem PySem.Spec PyProof.Rows L2 GxR

theorem bare_set {s : Shared} {g : Nat} {x : GenState} (h : AllBare s.gens) (hx : x.bare = true) : AllBare (s.setGen g x).gens := by
  intro y hy
  obtain ⟨i, hi, e⟩ := Array.mem_iff_getElem.mp hy
  have sz : (s.setGen g x).gens.size = s.gens.size := by simp [Shared.setGen]
  have hi' : i < s.gens.size := by omega
  by_cases z : i = g
  · have q : (s.setGen g x).gens[i]? = some x := by
      show (s.gens.setIfInBounds g x)[i]? = some x
      subst z
      simp [hi']
    rw [Array.getElem?_eq_getElem hi, e] at q
    cases q
    exact hx
  · have q : (s.setGen g x).gens[i]? = s.gens[i]? := by
      show (s.gens.setIfInBounds g x)[i]? = s.gens[i]?
      exact Array.getElem?_setIfInBounds_ne (Ne.symm z)
    rw [Array.getElem?_eq_getElem hi, e] at q
    exact h y (Array.mem_of_getElem? q.symm)

/-- the context of a generator expression's own frame -/
def genCx (X : Cx) (cenv : Env) (A' : Around) (x : Str) (fp : List Addr) (s4 : Shared) (H4 : Hp) (pn : List (Addr × Obj)) : Cx where
  prog := X.prog
  w := X.w
  K := X.K
  mg := X.mg
  base := X.base
  A := A'
  N := [x]
  s_0 := s4
  H_0 := H4
  env := cenv
  outer := X.stack
  stack := cenv :: X.stack
  ex := fp
  fn := fun _ => true
  calm := true
  pn := pn
  xe := fun _ _ => False

structure GSc (scope : Scope) (x : Str) : Prop where
  kind : scope.kind = .function
  co : scope.isCoroutine = false
  cell : ∀ y ∈ scope.names, y.2 ≠ .cell
  free : ∀ y ∈ scope.names, y.2 ≠ .free
  dot : scope.names.lookup (".0" : Str) = some NameKind.local
  loc : scope.names.lookup x = some .local

theorem clo_nil {cells : List (Str × Addr)} : ∀ {names : List (Str × NameKind)} {acc : List (Str × Addr)}, (∀ y ∈ names, y.2 ≠ .free) → cloFrom cells names acc = acc
  | [], _, _ => rfl
  | (n, k) :: r, acc, h => by
    have hk : k ≠ .free := h (n, k) List.mem_cons_self
    unfold cloFrom
    rw [if_neg (by simpa using hk)]
    exact clo_nil fun y hy => h y (List.mem_cons_of_mem _ hy)

theorem over_comp {A : Around} {elt : Expr} {gs : List Comprehension} {scope : Scope} {pos : Pos} {it acc : Value} {env : Env} :
    A.over (.compLoop (.GeneratorExp elt gs scope pos) 0 it acc env) [] = A.deeper env := by
  first
    | rfl
    | (obtain ⟨hd, d, fr, gs, u⟩ := A; simp [Around.over, Around.deeper, marksOver, frameCount, unitsOf, envsOf, guardsOf, pushEnvs, pushGuards, Code.envs, Code.env?, Code.isFrame, Code.guards, Code.isGuard, Code.weight, Code.frames, Code.isCreation, Code.isCaller, Code.cUnits])
theorem over_start {A : Around} {elt : Expr} {gs : List Comprehension} {scope : Scope} {pos : Pos} {it acc : Value} {env : Env} :
    A.over (.compStart (.GeneratorExp elt gs scope pos) 0 it acc env) [] = A.deeper env := by
  first
    | rfl
    | (obtain ⟨hd, d, fr, gs, u⟩ := A; simp [Around.over, Around.deeper, marksOver, frameCount, unitsOf, envsOf, guardsOf, pushEnvs, pushGuards, Code.envs, Code.env?, Code.isFrame, Code.guards, Code.isGuard, Code.weight, Code.frames, Code.isCreation, Code.isCaller, Code.cUnits])


def YA (Y : Cx) (Q : VK) : Protocol := fun _ _ v s kap =>
  ∃ (b : Bool) (H : Hp), v = .bool b ∧ Inv Y [] [none] H s ∧ if b = true then ∀ s', s'.heap = s.heap → s'.os = s.os → AllBare s'.gens → kap (.send .none) s' else Q (.bl false) H
def RA (Y : Cx) (Q : VK) : Nat → Shared → Shared → Prop := fun _ _ s => ∃ H, Inv Y [] [none] H s ∧ Q (.bl true) H
def RestA (Y : Cx) (fp : List Addr) (tn : Nat → Heap → Prop) (W : Nat → Nat → Hp → Prop) (n i : Nat) (s : Shared) : Prop :=
  ∃ m H, m < n ∧ Inv Y [] [none] H s ∧ tn i s.heap ∧ (∀ b ∈ fp, H b = none) ∧ W i m H
/-- what is asked of each turn -/
def TurnA (J : It) (te : TE) (W : Nat → Nat → Hp → Prop) (Q : VK) : Prop := ∀ i m H, W i m H →
  (J.stop i H ∧ Q (.bl true) H) ∨ (J.go i H ∧ ∀ v H', J.yld i H v H' → te [some v] H' fun y H3 => ∃ b, y = .bl b ∧ if b = true then ∃ m', m' < m ∧ W (i + 1) m' H3 else Q (.bl false) H3)
theorem inv_none {Y : Cx} {v : Option V} {pins : List (Addr × Obj)} {H : Hp} {s : Shared} (I : Inv Y pins [v] H s) : Inv Y pins [none] H s :=
  I.weak rfl fun i u e => by
    match i, e with
    | 0, e => cases e
    | i + 1, e => simp at e
theorem inv_same {Y : Cx} {pins : List (Addr × Obj)} {σ : L2.St} {H : Hp} {s s' : Shared} (I : Inv Y pins σ H s) (hh : s'.heap = s.heap) (ho : s'.os = s.os) (hg : AllBare s'.gens) : Inv Y pins σ H s' :=
  I.call' (ch := []) ho (by rw [hh]; exact Un.refl) (by rw [hh]; exact I.hok) hg fun b z => by simp at z

section
variable {X : Cx} {elt iter : Expr} {x : Str} {px pos : Pos} {scope : Scope} {it : Addr} {fp : List Addr} {tn : Nat → Heap → Prop} {J : It} {te : TE} {W : Nat → Nat → Hp → Prop} {Q : VK} {cenv : Env} {s4 : Shared} {H4 : Hp} {pn : List (Addr × Obj)} {A2 : Around}
theorem seg_all (hsc : GSc scope x) (hcs : cenv.scope = scope)
    (hE : PE (genCx X cenv (A2.deeper cenv) x fp s4 H4 pn) elt te) (T : Turn X.prog X.w X.K (.Name x px) J fp it tn)
    (hst : ∀ H : Hp, (∀ b ∈ fp, H b = none) → ∀ b ∈ fp, FpOk (genCx X cenv (A2.deeper cenv) x fp s4 H4 pn) [] H b) (turn : TurnA J te W Q) :
    ∀ (n i : Nat) (s₀ s : Shared), RestA (genCx X cenv (A2.deeper cenv) x fp s4 H4 pn) fp tn W n i s →
      Seg (model X.prog X.w) A2 (fun n s₀ r s₁ => r = .ok .next ∧ RA (genCx X cenv (A2.deeper cenv) x fp s4 H4 pn) Q n s₀ s₁) (YA (genCx X cenv (A2.deeper cenv) x fp s4 H4 pn) Q) n s₀
        (.compLoop (.GeneratorExp elt [⟨.Name x px, iter, [], 0⟩] scope pos) 0 (.ref it) .none cenv)
        ((model X.prog X.w).den (.compLoop (.GeneratorExp elt [⟨.Name x px, iter, [], 0⟩] scope pos) 0 (.ref it) .none cenv)) [] s := by
  intro n
  induction n with
  | zero =>
    intro i s₀ s ⟨m, _, hm, _⟩
    exact absurd hm (Nat.not_lt_zero m)
  | succ n ih =>
    intro i s₀ s ⟨m, H, hm, I, st, fr, w⟩
    have ov : A2.over (.compLoop (.GeneratorExp elt [⟨.Name x px, iter, [], 0⟩] scope pos) 0 (.ref it) .none cenv) [] = A2.deeper cenv := over_comp
    show Seg _ A2 _ _ _ s₀ _ ((compTurn (.GeneratorExp elt [⟨.Name x px, iter, [], 0⟩] scope pos) 0 (.ref it) .none cenv).onRaise (leaving cenv)) [] s
    rw [compTurn_gen, Sem.onRaise_eq_wrap]
    refine seg_bind_wrap (wpAny_standAt (seg_bind_wrap ?_))
    rw [ov]
    rcases turn i m H w with ⟨stop, q⟩ | ⟨go, step⟩
    · refine thn (T.done (genCx X cenv (A2.deeper cenv) x fp s4 H4 pn) rfl rfl rfl rfl i [] s [none] H _ I (hst H fr) st stop) fun r s1 h1 => ?_
      obtain ⟨rfl, I1⟩ := h1
      exact seg_end (.ok .next) ⟨rfl, H, I1, q⟩
    · refine thn (T.item (genCx X cenv (A2.deeper cenv) x fp s4 H4 pn) rfl rfl rfl rfl i [] s [none] H _ I (hst H fr) st go) fun r s1 h1 => ?_
      obtain ⟨u, rfl, h1⟩ := h1
      refine seg_bind_wrap ?_
      rw [ov]
      refine thn h1 fun _ s2 h2 => ?_
      obtain ⟨v, H2, I2, r2, y2, st2, fr2⟩ := h2
      have I2' := I2.pinned (hst H2 fr2) (T.obj _ _ st2)
      refine seg_bind_wrap ?_
      rw [ov]
      have hpg : PG (genCx X cenv (A2.deeper cenv) x fp s4 H4 pn) (.Name x px) (gName 0) := pg_name (X := genCx X cenv (A2.deeper cenv) x fp s4 H4 pn) (List.nodup_cons.mpr ⟨by simp, List.nodup_nil⟩) rfl (.inl (by show cenv.scope.names.lookup x = _; rw [hcs]; exact hsc.loc)) (.inl rfl)
      refine wpAny_mono (hpg.run _ s2 [none] H2 v u (fun σ' H' => σ' = [some v] ∧ H' = H2) I2' r2 ⟨rfl, rfl⟩) (fun _ s3 h3 => ?_) fun _ _ z => False.elim z
      obtain ⟨σ3, H3, I3, e3, e4⟩ := h3
      subst e3
      have e4 := e4.symm
      subst e4
      refine seg_bind_wrap ?_
      refine wpAny_of_eq (a := true) (by simp only [List.forIn_nil]) ?_
      simp only [if_true]
      have hy : ∀ v, yieldOut cenv v = yieldValue v := fun v => by simp only [yieldOut, hcs, hsc.co, Bool.false_eq_true, if_false]
      simp only [hy]
      rw [Sem.bind_eq_wrap', Sem.bind_eq_wrap', Sem.wrap_wrap, Sem.wrap_wrap]
      refine seg_wrap ?_
      rw [ov]
      refine wpAny_mono (hE.run _ s3 [some v] H2 _ I3 (step v H2 y2)) (fun y s5 h5 => ?_) fun _ _ z => False.elim z
      obtain ⟨v5, H5, I5, r5, b, rfl, hb⟩ := h5
      obtain rfl : y = Value.bool b := r5
      have I6 := inv_none I5
      have fr5 : ∀ b ∈ fp, H5 b = none := fun c hc => by
        obtain ⟨o, e, d⟩ := T.obj _ _ st2 c hc
        exact (I5.pin (c, o) (List.mem_append_right _ (List.mem_append_right _ (mem_pinsAt hc e)))).2.1
      have st5 : tn (i + 1) s5.heap := T.keep _ _ _ st2 fun c hc o e => (I5.pin (c, o) (List.mem_append_right _ (List.mem_append_right _ (mem_pinsAt hc e)))).1
      refine seg_at (seg_yield rfl rfl rfl ⟨b, H5, rfl, I6.unpinned, ?_⟩)
      cases b with
      | false => exact hb
      | true =>
        obtain ⟨m', hm', w'⟩ := hb
        intro s6 hh ho hbare
        refine seg_again rfl (ih (i + 1) s6 s6 ⟨m', H5, by omega, inv_same I6.unpinned hh ho hbare, by rw [hh]; exact st5, fr5, w'⟩)
end

section
variable {X : Cx} {elt iter : Expr} {x : Str} {px pos : Pos} {scope : Scope} {it : Addr} {fp : List Addr} {tn : Nat → Heap → Prop} {J : It} {te : TE} {W : Nat → Nat → Hp → Prop} {Q : VK} {cenv : Env} {s4 : Shared} {H4 : Hp} {pn : List (Addr × Obj)} {A2 : Around}
theorem seg_all0 (hsc : GSc scope x) (hcs : cenv.scope = scope)
    (hE : PE (genCx X cenv (A2.deeper cenv) x fp s4 H4 pn) elt te) (T : Turn X.prog X.w X.K (.Name x px) J fp it tn)
    (hst : ∀ H : Hp, (∀ b ∈ fp, H b = none) → ∀ b ∈ fp, FpOk (genCx X cenv (A2.deeper cenv) x fp s4 H4 pn) [] H b) (turn : TurnA J te W Q)
    (n : Nat) (s₀ s : Shared) (h : RestA (genCx X cenv (A2.deeper cenv) x fp s4 H4 pn) fp tn W n 0 s) :
      Seg (model X.prog X.w) A2 (fun n s₀ r s₁ => r = .ok .next ∧ RA (genCx X cenv (A2.deeper cenv) x fp s4 H4 pn) Q n s₀ s₁) (YA (genCx X cenv (A2.deeper cenv) x fp s4 H4 pn) Q) n s₀
        (.compStart (.GeneratorExp elt [⟨.Name x px, iter, [], 0⟩] scope pos) 0 (.ref it) .none cenv)
        ((model X.prog X.w).den (.compStart (.GeneratorExp elt [⟨.Name x px, iter, [], 0⟩] scope pos) 0 (.ref it) .none cenv)) [] s := by
  have hl := seg_all (iter := iter) (pos := pos) hsc hcs hE T hst turn n 0 s₀ s h
  obtain ⟨m, H, _, I, st, _⟩ := h
  show Seg _ A2 _ _ _ s₀ _ ((compStart (.GeneratorExp elt [⟨.Name x px, iter, [], 0⟩] scope pos) 0 (.ref it) .none cenv).onRaise (leaving cenv)) [] s
  unfold compStart
  rw [Sem.onRaise_eq_wrap]
  show Seg _ A2 _ _ _ s₀ _ (Sem.wrap _ _ _ _ (ask >>= _)) [] s
  refine seg_bind_wrap (wpAny_askSetting ?_)
  split
  · exact seg_again rfl hl
  · first
      | exact seg_bind_wrap (wpAny_rule (seg_bind_wrap (wpAny_standAt (seg_bind_wrap (T.self _ 0 s _ _ st (seg_again rfl hl))))))
      | (refine seg_bind_wrap (wpAny_rule ?_)
         show Seg _ A2 _ _ _ s₀ _ (Sem.wrap _ _ _ _ (standAt iter.pos >>= _)) [] s
         exact seg_bind_wrap (wpAny_standAt (seg_bind_wrap (T.self _ 0 s _ _ st (seg_again rfl hl)))))

theorem loop_all {Y : Cx} {ag : Addr} {go : Obj} {g : Nat} {A : Around} {R : Result → Shared → Prop} (hpn : (ag, go) ∈ Y.pn) (hgo : ∀ h : Heap, h.get? ag = some go → h.IsGen ag g) (hh : A.handled = none) (hd : A.depth < recursionLimit)
    (hR : ∀ (b : Bool) (H : Hp) (s : Shared), Inv Y [] [none] H s → Q (.bl b) H → R (.ok (.ret (.bool b))) s) :
    ∀ (n : Nat) (s : Shared), s.heap.IsGen ag g → s.heap.NoLimit →
      (∃ gs, s.gens[g]? = some gs ∧ gs.Goes (model Y.prog Y.w) A.in1.in1 (fun n s₀ r s₁ => r = .ok .next ∧ RA Y Q n s₀ s₁) (YA Y Q) n (.send .none) (s.setGen g .running)) →
      codeAny (model Y.prog Y.w) A (.builtin "all.loop" ⟨[.ref ag], []⟩) R s := by
  have ends : ∀ (n : Nat) (s s₁ : Shared), RA Y Q n (s.setGen g .running) s₁ → ∀ h', (∀ b o, s₁.heap.get? b = some o → h'.get? b = some o) → R (.ok (.ret (.bool true))) { s₁.setGen g .finished with heap := h' } := by
    intro n s s₁ ⟨H, I, q⟩ h' hk
    refine hR true H _ ?_ q
    exact I.call' (ch := []) rfl (Un.kept hk) (I.hok.kept hk) (bare_set I.bare rfl) fun b z => by simp at z
  intro n
  induction n with
  | zero =>
    intro s hg hl ⟨gs, hgs, hgo'⟩
    refine codeAny_builtin F.entry_all_loop ?_
    rw [Around.under_plainId F.plain_all_loop _]
    show wpAny _ A.in1 (pyNext (.ref ag) >>= fun r => _) _ _ s
    refine wpAny_bind (wpAny_pyNext_genexpQ (A := A.in1) (P := RA Y Q) hh hl hd hg hgs hgo' (fun v s₁ gs' hbare hv => ?_) fun s₁ hp h' hk => ?_)
    · obtain ⟨b, H, rfl, I, hb⟩ := hv
      refine wpAny_bind (wpAny_holding (wpAny_truthy_bool ?_))
      refine wpAny_bind (wpAny_letGo ?_)
      cases b with
      | true => exact False.elim (hb s₁ rfl rfl I.bare)
      | false =>
        simp only [Bool.false_eq_true, if_false]
        exact wpAny_bind (wpAny_rule (wpAny_pure (hR false H _ (inv_same I rfl rfl (bare_set I.bare hbare)) hb)))
    · exact wpAny_bind (wpAny_rule (wpAny_pure (ends _ _ _ hp h' hk)))
  | succ n ih =>
    intro s hg hl ⟨gs, hgs, hgo'⟩
    have hgl : g < s.gens.size := (Array.getElem?_eq_some_iff.mp hgs).1
    refine codeAny_builtin F.entry_all_loop ?_
    rw [Around.under_plainId F.plain_all_loop _]
    show wpAny _ A.in1 (pyNext (.ref ag) >>= fun r => _) _ _ s
    refine wpAny_bind (GenW.wpAny_gsz (n := g + 1) hgl (wpAny_pyNext_genexpQ (A := A.in1) (P := RA Y Q) hh hl hd hg hgs hgo' (fun v s₁ gs' hbare hv => ?_) fun s₁ hp h' hk => ?_))
    · intro hsz
      obtain ⟨b, H, rfl, I, hb⟩ := hv
      refine wpAny_bind (wpAny_holding (wpAny_truthy_bool ?_))
      refine wpAny_bind (wpAny_letGo ?_)
      have sz : (s₁.setGen g gs').gens.size = s₁.gens.size := by simp [Shared.setGen]
      have hsz1 : g < s₁.gens.size := by
        have : g + 1 ≤ (s₁.setGen g gs').gens.size := hsz
        omega
      cases b with
      | true =>
        simp only [if_true]
        refine wpAny_pure ⟨plainId_quiet F.plain_all_loop _, ih _ (hgo _ ?_) I.nolimit ⟨gs', ?_, ?_⟩⟩
        · exact (I.pin (ag, go) (List.mem_append_left _ hpn)).1
        · show (s₁.gens.setIfInBounds g gs')[g]? = some gs'
          simp [hsz1]
        · exact hb _ rfl rfl (bare_set (s := s₁.setGen g gs') (bare_set I.bare hbare) rfl)
      | false =>
        simp only [Bool.false_eq_true, if_false]
        exact wpAny_bind (wpAny_rule (wpAny_pure (hR false H _ (inv_same I rfl rfl (bare_set I.bare hbare)) hb)))
    · intro _
      exact wpAny_bind (wpAny_rule (wpAny_pure (ends _ _ _ hp h' hk)))
end

def tAllG (P : Addr) (wi : TI) (te : TE) : TE := fun σ H Q => wi σ H fun J H1 => TabG H1 P ∧ ∃ W : Nat → Nat → Hp → Prop, (∀ H2, Tabbed P H1 H2 → ∃ m, W 0 m H2) ∧ TurnA J te W Q
section
variable {X : Cx}
theorem boot_all : bootBuiltins "all" = some (.builtin "all") := by decide +kernel
/-- all(elt for x in iter): elt anything that raises nothing -/
theorem pe_allG {c P : Addr} {elt iter : Expr} {x : Str} {px p pos gpos : Pos} {scope : Scope} {wi : TI} {te : TE} {k : Nat}
    (hr : Room (k + 1) X.A) (hc : X.calm = true) (hg : Gl X "all") (hm : X.mg "all" = none) (TB : TabB X.base X.mg c P) (hcode : X.env.code = .ref c) (S : GSc scope x) (hi : PI X (.Name x px) iter wi)
    (hE : ∀ (C : Addr) (code : Value) (bi : Addr) (A' : Around) (fp : List Addr) (s4 : Shared) (H4 : Hp) (pn : List (Addr × Obj)), Room k A' → PE (genCx X (genEnv scope [] C code bi X.env) A' x fp s4 H4 pn) elt te)
    (hs : ∀ v, genFold iter X.env v = pure v := by intro _; rfl)
    (he : starEach [.GeneratorExp elt [⟨.Name x px, iter, [], 0⟩] scope gpos] X.env = (false, eval (.GeneratorExp elt [⟨.Name x px, iter, [], 0⟩] scope gpos) X.env) :: starEach [] X.env := by rfl) :
    PE X (.Call (.Name "all" p) [.GeneratorExp elt [⟨.Name x px, iter, [], 0⟩] scope gpos] [] pos) (tAllG P wi te) := by
  refine ⟨fun pins s σ H Q I h => ?_⟩
  refine wpAny_Call_Name_kw (ld_blt I hg hm boot_all ?_)
  refine PyProof.Rows.callWith_builtin1 ?_ he (by rfl)
  rw [he]
  show wpAny (model X.prog X.w) X.A (spliced ((false, eval (.GeneratorExp elt [⟨.Name x px, iter, [], 0⟩] scope gpos) X.env) :: backTo pos (starEach [] X.env))) _ _ s
  have hclo : closureFor scope X.env = pure [] := by
    rw [closure_ok fun y hy e => absurd e (S.free y hy), clo_nil S.free]
  refine Calls.spliced_cons (wpAny_GeneratorExp_make S.co hclo S.cell S.dot S.kind hr.depth ?_ hs)
  refine thn (hi.run pins s σ H _ I h) fun xv s1 h1 => thn h1 fun itv s2 h2 => ?_
  obtain ⟨it, fp, tn, J, H2, rfl, I2, T, st2, f2, ⟨ps, hP, htr⟩, W, hW, turn⟩ := h2
  refine ⟨I2.nolimit, ?_⟩
  have hPs : s2.heap.get? P = some { cls := .none, data := .fields ps } := I2.hok P _ hP
  have cd : PySem.W.CodeHd s2.heap c P := TB.code.keeps I2.bk
  have fpP : ∀ b ∈ fp, b ≠ P := fun b hb e => by
    have := (f2 b hb).1
    rw [e, hP] at this
    cases this
  have cont : ∀ (code : Value) (h3 : Heap) (tk : Nat) (H3 : Hp), Inv X pins σ H3 { s2 with heap := h3, toks := tk } → Tabbed P H2 H3 → tn 0 h3 →
      wpAny (model X.prog X.w) X.A (builtinsFor X.env.globals X.env.builtins) (fun bi s4 =>
        ∀ h', h'.Ns s4.heap.objs.size (fun y => if y = ".0" then some (.ref it) else none) → Heap.SameBut s4.heap.objs.size (s4.heap.push { cls := .type "frame", data := .dict #[] }) h' →
          wpAny (model X.prog X.w) X.A (call (.builtin "all") [.ref h'.objs.size]) (EP X pins σ Q) X.xe { s4 with
            gens := s4.gens.push (.fresh (.compStart (.GeneratorExp elt [⟨.Name x px, iter, [], 0⟩] scope gpos) 0 (.ref it) .none (genEnv scope [] s4.heap.objs.size code bi X.env))),
            toks := s4.toks + 1 + 1 + 1,
            heap := h'.push { cls := .type "generator", data := .fields #[.int s4.gens.size 0, .str "<genexpr>" (s4.toks + 1), .str (X.env.qual ++ "<genexpr>") (s4.toks + 1 + 1)] } }) X.xe { s2 with heap := h3, toks := tk } := by
    intro code h3 tk H3 I3 hT st3
    have fr3 : ∀ b ∈ fp, H3 b = none := fun b hb => (hT.2 b (fpP b hb)).trans (f2 b hb).1
    obtain ⟨bm, ob, e1, e2, e3, e4, e5, e6, e7, e8⟩ := TB.bm
    refine wpAny_builtinsFor (m := X.mg) (by rw [I3.ok.glob]; exact I3.mod.glob.keeps I3.bk) e1 e2 (I3.bk _ _ e5) e6 e7 e8 ?_
    intro h' hn' hs'
    generalize hs3 : ({ s2 with heap := h3, toks := tk } : Shared) = s3 at *
    generalize hgo : ({ cls := .type "generator", data := .fields #[.int s3.gens.size 0, .str "<genexpr>" (s3.toks + 1), .str (X.env.qual ++ "<genexpr>") (s3.toks + 1 + 1)] } : Obj) = go
    have hgd : ∀ h : Heap, ∀ a, h.get? a = some go → h.IsGen a s3.gens.size := fun h a e => ⟨go, _, _, e, by rw [← hgo], by rw [← hgo], by rw [← hgo]⟩
    have hgp : ∀ h : Heap, (h.push go).get? h.objs.size = some go := fun h => Heap.get?_push_size _ (by rw [← hgo]; rfl)
    have hgc : ∀ v, go.data ≠ .cell v := fun v e => by rw [← hgo] at e; cases e
    have hsz : h'.objs.size = s3.heap.objs.size + 1 := by rw [hs'.1, Heap.size_push]
    have keep' : ∀ b o, s3.heap.get? b = some o → h'.get? b = some o := fun b o e => hs'.extBut b o (Nat.ne_of_lt (Heap.lt_size e)) (Heap.get?_push_of_some _ e)
    have keepG : ∀ b o, s3.heap.get? b = some o → (h'.push go).get? b = some o := fun b o e => Heap.get?_push_of_some _ (keep' b o e)
    have st3' : tn 0 s3.heap := by rw [← hs3]; exact st3
    have nstk : ∀ b, s3.heap.objs.size ≤ b → b ∉ frs X.stack := fun b hb z => by
      rcases List.mem_cons.mp (I3.stkSub b z) with e | e
      · have := I3.lt
        rw [e] at hb
        exact Nat.lt_irrefl _ (Nat.lt_of_lt_of_le this hb)
      · exact I3.nofs hb e
    have fpl : ∀ b ∈ fp, b < s3.heap.objs.size := fun b hb => by
      obtain ⟨o, e, _⟩ := T.obj _ _ st3' b hb
      exact Heap.lt_size e
    have fpS : ∀ b ∈ fp, b ∉ frs X.stack := fun b hb z => by
      obtain ⟨_, g1, g2, _⟩ := f2 b hb
      rcases List.mem_cons.mp (I3.stkSub b z) with e | e
      · exact g1 e
      · exact g2 e
    have hH3 : ∀ b, s3.heap.objs.size ≤ b → H3 b = none := fun b hb => I3.hok.fresh hb
    refine call_function_tree F.kind_all F.plain_all F.entry_all (F.args_all1 _) ?_
    unfold Builtin.«all»
    refine wpAny_bind (m := oneArg "all" _) (wpAny_pure ?_)
    refine wpAny_bind (wpAny_pyIter_gen (g := s3.gens.size) (hgd _ _ (hgp h')) ?_)
    refine wpAny_pure ⟨plainId_quiet F.plain_all_loop _, ?_⟩
    have hroomk : Room k (X.A.in1.in1.deeper (genEnv scope [] s3.heap.objs.size code builtinsNs X.env)) :=
      ⟨hr.hd, by have := hr.dp; show X.A.depth + 1 + 3 * k + 5 < _; omega, by have := hr.un; show X.A.units + 1 + 1 + 3 + 16 * k + 200 < _; omega⟩
    have cnil : ∀ {y : Str} {c' : Addr}, (([] : List (Str × Addr)).lookup y) = some c' → False := fun e => by cases e
    have kin : ∀ {y : Str}, ¬ (scope.names.lookup y = some .cell ∨ scope.names.lookup y = some .free) := fun {y} e => by
      rcases e with e | e
      · exact S.cell _ (PySem.mem_of_lookup e) rfl
      · exact S.free _ (PySem.mem_of_lookup e) rfl
    have IY : Inv (genCx X (genEnv scope [] s3.heap.objs.size code builtinsNs X.env) (X.A.in1.in1.deeper (genEnv scope [] s3.heap.objs.size code builtinsNs X.env)) x fp s3 H3 [(h'.objs.size, go)]) [] [none] H3
        { s3 with gens := (s3.gens.push (.fresh (.compStart (.GeneratorExp elt [⟨.Name x px, iter, [], 0⟩] scope gpos) 0 (.ref it) .none (genEnv scope [] s3.heap.objs.size code builtinsNs X.env)))), toks := s3.toks + 1 + 1 + 1, heap := h'.push go } := by
      refine ⟨⟨I3.ok.mod, S.kind, I3.ok.glob, rfl, Nat.le_refl _, fun y z c' e _ => (cnil e).elim, fun y e => (kin e).elim, fun y c' _ e => (cnil e).elim, fun _ => hr.hd, Around.frames_deeper I3.ok.frames, .inr ⟨rfl, rfl⟩,
        fun b hb => ⟨Nat.ne_of_lt (fpl b hb), fun y c' e => (cnil e).elim⟩, I3.bs, Nat.le_trans I3.ok.bsz I3.sz, fun b o e hb => ?_, fpS, I3.stack, I3.stkFree⟩,
        rfl, I3.bare.push rfl, Un.kept keepG, ⟨_, hn'.keeps fun b o e => Heap.get?_push_of_some _ e, fun i y v e1 e2 _ => ?_⟩, fun y c' e => (cnil e).elim, hH3 _ (Nat.le_refl _), fun y c' e => (cnil e).elim, fun p hp => ?_, I3.hok.kept keepG, rfl⟩
      · obtain ⟨_, _, _, g3, _⟩ := f2 b hb
        rcases g3 with g3 | g3
        · exact I2.ok.noex b o e g3
        · have h1 := Heap.lt_size e
          have h2 := I2.ok.bsz
          exact Nat.lt_irrefl _ (Nat.lt_of_lt_of_le h1 (Nat.le_trans h2 g3))
      · match i, e2 with
        | 0, e2 => cases e2
        | i + 1, e2 => simp at e2
      · have hp2 : p ∈ ([(h'.objs.size, go)] ++ [] : List (Addr × Obj)) := hp
        have hp' : p = (h'.objs.size, go) := by simpa using hp2
        subst hp'
        exact ⟨hgp h', hH3 _ (by rw [hsz]; exact Nat.le_succ _), by show h'.objs.size ≠ s3.heap.objs.size; rw [hsz]; exact Nat.succ_ne_self _, nstk _ (by rw [hsz]; exact Nat.le_succ _), hgc⟩
    have hst : ∀ H' : Hp, (∀ b ∈ fp, H' b = none) → ∀ b ∈ fp, FpOk (genCx X (genEnv scope [] s3.heap.objs.size code builtinsNs X.env) (X.A.in1.in1.deeper (genEnv scope [] s3.heap.objs.size code builtinsNs X.env)) x fp s3 H3 [(h'.objs.size, go)]) [] H' b :=
      fun H' hf b hb => ⟨hf b hb, Nat.ne_of_lt (fpl b hb), fpS b hb, .inl hb, fun y c' e => (cnil e).elim, fun p hp => by
        have hp2 : p ∈ ([(h'.objs.size, go)] ++ [] : List (Addr × Obj)) := hp
        have hp' : p = (h'.objs.size, go) := by simpa using hp2
        subst hp'
        show h'.objs.size ≠ b
        rw [hsz]
        exact Nat.ne_of_gt (Nat.lt_succ_of_lt (fpl b hb))⟩
    obtain ⟨m, w0⟩ := hW H3 hT
    refine loop_all (Q := Q) (go := go) (g := s3.gens.size) (A := X.A) (Y := genCx X (genEnv scope [] s3.heap.objs.size code builtinsNs X.env) (X.A.in1.in1.deeper (genEnv scope [] s3.heap.objs.size code builtinsNs X.env)) x fp s3 H3 [(h'.objs.size, go)])
      (by exact List.mem_singleton.mpr rfl) (fun h e => hgd h _ e) hr.hd hr.depth (fun b H' s' I' q' => ?_) (m + 1) _ (hgd _ _ (hgp h')) IY.nolimit ⟨_, Array.getElem?_push_size .., rfl, ?_⟩
    · refine ⟨.bl b, H', ?_, rfl, q'⟩
      refine I3.call' (ch := fp) I'.os I'.base I'.hok I'.bare fun b hb => ?_
      obtain ⟨_, g1, _, g3, g4, g5⟩ := f2 b hb
      exact ⟨g3, g1, g4, g5⟩
    · exact seg_all0 S rfl (hE _ _ _ _ _ _ _ _ hroomk) T hst turn (m + 1) _ _ ⟨m, H3, Nat.lt_succ_self m, inv_same IY rfl rfl (bare_set IY.bare rfl), T.keep _ _ _ st3' fun b _ o e => keepG b o e, fr3, w0⟩
  cases hf : codeAmong gpos ps.toList with
  | none =>
    refine wpAny_genexprCodeX hcode (cd.code hPs htr) (cd.tab hPs) hf fun c' h' tk hx hge hlt hco' _ htab' _ => ?_
    obtain ⟨o1, vs, f1, tf, fl, tg, inF, tx, tt, op, _, _, _, _, _, _, _, _, _, htr', _⟩ := hco'
    have J3 := inv_tab (h' := h') (g' := s2.gens) (d' := s2.drawn) (t' := tk) I2 hP (fun b u hb e => hx b u hb e) htab'.2 I2.bare
    exact thn (cont _ h' tk _ J3 ⟨⟨_, upd_same, htr'⟩, fun b hb => upd_ne hb⟩ (T.keep _ _ _ st2 fun b hb o e => hx b o (fpP b hb) e)) fun bi s4 h4 h'' a1 a2 => Calls.spliced_nil (h4 h'' a1 a2)
  | some cv =>
    refine wpAny_genexprCode_hit hcode (cd.code hPs htr) hf ?_
    exact thn (cont cv s2.heap s2.toks H2 I2 ⟨⟨ps, hP, htr⟩, fun _ _ => rfl⟩ st2) fun bi s4 h4 h'' a1 a2 => Calls.spliced_nil (h4 h'' a1 a2)
end
end Ln


set_option Elab.async false
set_option linter.all false
set_option maxRecDepth 100000
set_option maxHeartbeats 4000000
namespace Ln
open PySem PySem.Spec PyProof.Rows L2

theorem keyIs_scan {k : Key} {v : Value} (h : keyIs k v = true) : v.scannable = true := by
  rcases keyIs_shape h with ⟨i, t, _, rfl⟩ | ⟨x, t, _, rfl⟩ <;> rfl

/-- whether k is among the keys l -/
def memK (l : List Key) (k : Key) : Bool := l.any fun j => decide (j = k)
theorem memK_iff {l : List Key} {k : Key} : memK l k = true ↔ k ∈ l := by
  unfold memK
  rw [List.any_eq_true]
  constructor
  · intro ⟨j, hj, e⟩
    rw [← of_decide_eq_true e]
    exact hj
  · intro h
    exact ⟨k, h, decide_eq_true rfl⟩
theorem memK_app {l : List Key} {k k' : Key} : memK (l ++ [k]) k' = (memK l k' || decide (k' = k)) := by
  unfold memK
  rw [List.any_append]
  congr 1
  show (decide (k = k') || false) = _
  rw [Bool.or_false]
  by_cases e : k = k'
  · rw [e]
  · rw [decide_eq_false e, decide_eq_false fun q => e q.symm]
theorem setOf_eq {P : Program} {w : World} {h : Heap} {a : Addr} {S S' : Key → Bool} {n : Nat} (hS : h.SetOf (mixKind P w) a S n) (e : ∀ k, S k = S' k) : h.SetOf (mixKind P w) a S' n := by
  have : S = S' := funext e
  subst this
  exact hS
/-- the set of the first i keys stands at a: m members -/
def SetUp (P : Program) (w : World) (h : Heap) (a : Addr) (ks : List Key) (i : Nat) : Prop :=
  ∃ m, h.SetOf (mixKind P w) a (memK (ks.take i)) m ∧ m ≤ i ∧ (m = i ↔ (ks.take i).Nodup)
theorem nodup_snoc {α : Type} {l : List α} {x : α} : (l ++ [x]).Nodup ↔ l.Nodup ∧ x ∉ l := by
  rw [List.nodup_append]
  constructor
  · intro ⟨a, _, c⟩
    exact ⟨a, fun hx => c x hx x List.mem_cons_self rfl⟩
  · intro ⟨a, b⟩
    refine ⟨a, List.nodup_cons.mpr ⟨by simp, List.nodup_nil⟩, fun y hy z hz e => ?_⟩
    rw [List.mem_singleton] at hz
    exact b (by rw [← hz, ← e]; exact hy)
theorem setUp_step {P : Program} {w : World} {h' : Heap} {a : Addr} {ks : List Key} {i m : Nat} {k : Key} (hk : ks[i]? = some k) (hm : m ≤ i) (hn : m = i ↔ (ks.take i).Nodup)
    (hs : h'.SetOf (mixKind P w) a (fun k' => memK (ks.take i) k' || decide (k' = k)) (if memK (ks.take i) k then m else m + 1)) : SetUp P w h' a ks (i + 1) := by
  have ht : ks.take (i + 1) = ks.take i ++ [k] := by rw [List.take_add_one, hk]; rfl
  refine ⟨if memK (ks.take i) k then m else m + 1, setOf_eq hs (fun k' => by rw [ht, memK_app]), ?_, ?_⟩
  · split <;> omega
  · rw [ht, nodup_snoc]
    by_cases e : k ∈ ks.take i
    · rw [if_pos (memK_iff.mpr e)]
      exact ⟨fun q => by omega, fun q => absurd e q.2⟩
    · rw [if_neg fun q => e (memK_iff.mp q)]
      exact ⟨fun q => ⟨hn.mp (by omega), e⟩, fun q => by have := hn.mpr q.1; omega⟩

section
variable {P : Program} {w : World} {A : Around} {R : Result → Shared → Prop} {it : Addr} {fp wr : List Addr} {G : Array GenState → Array GenState → Prop} {n : Nat} {Pv : Nat → Value → Prop} {St : Nat → Shared → Prop}
theorem loop_keys (W : WalksS P w A.in1 it fp wr G n Pv St) (S : Addr) (hSf : S ∉ fp) (ks : List Key) (hval : ∀ (i : Nat) (v : Value), Pv i v → ∃ k : Key, ks[i]? = some k ∧ keyIs k v = true) (hb : n + 1 < scanBound) :
    ∀ (d i : Nat) (s : Shared), n - i = d → i ≤ n → St i s → SetUp P w s.heap S ks i →
      (∀ s', Moved (S :: wr) G s s' → SetUp P w s'.heap S ks n → R (.ok (.ret .none)) s') →
      codeAny (model P w) A (.builtin "set.update.loop" ⟨[.ref S, .ref it], []⟩) R s := by
  have nwr : S ∉ wr := fun z => hSf (W.sub _ z)
  have more : ∀ b ∈ wr, b ∈ S :: wr := fun b z => List.mem_cons_of_mem S z
  intro d
  induction d with
  | zero =>
    intro i s hd hi st ⟨m, hS, hm, hn⟩ hR
    obtain rfl : i = n := by omega
    refine codeAny_builtin PyProof.Rows.F.entry_set_update_loop ?_
    rw [Around.under_plainId (PyProof.Rows.F.plain_set_update_loop) _]
    show wpAny (model P w) A.in1 (pyNext (.ref it) >>= _) _ _ s
    refine wpAny_bind (W.done s _ _ st fun s1 hmv => ?_)
    exact wpAny_pure (hR s1 (hmv.mono more) ⟨m, setOf_at hS fun o e => hmv.heap S o nwr e, hm, hn⟩)
  | succ d ih =>
    intro i s hd hi st ⟨m, hS, hm, hn⟩ hR
    have hlt : i < n := by omega
    refine codeAny_builtin PyProof.Rows.F.entry_set_update_loop ?_
    rw [Around.under_plainId (PyProof.Rows.F.plain_set_update_loop) _]
    show wpAny (model P w) A.in1 (pyNext (.ref it) >>= _) _ _ s
    refine wpAny_bind (W.item i s _ _ hlt st fun v s1 hv st1 hmv => ?_)
    obtain ⟨k, hk, kv⟩ := hval i v hv
    have hS1 := setOf_at hS fun o e => hmv.heap S o nwr e
    show wpAny (model P w) A.in1 (holding [v] (setAdd S v) >>= _) _ _ s1
    refine wpAny_bind (wpAny_holding ?_)
    unfold setAdd
    refine wpAny_holding (wpAny_bind ((mixKind P w).pyHash (k := k) kv ?_))
    refine wpAny_setAddHashed_of (knd := mixKind P w) (s := { s1 with toks := s1.toks + 1 }) kv (keyIs_scan kv) hS1 (by omega) fun h2 sb hS2 => ?_
    refine wpAny_pure ⟨plainId_quiet (PyProof.Rows.F.plain_set_update_loop) _, ih (i + 1) _ (by omega) hlt (W.frame _ s1 _ _ st1 (Nat.le_succ _) fun b hbf o e => ?_) (setUp_step hk hm hn hS2) fun s3 hm3 hS3 => ?_⟩
    · exact (sb.2 b fun z => hSf (z ▸ hbf)).trans e
    · refine hR s3 (Moved.trans W.gtrans ((hmv.mono more).then_heap (Nat.le_succ _) fun b o hbw e => ?_) hm3) hS3
      exact (sb.2 b fun z => hbw (by rw [z]; exact List.mem_cons_self)).trans e
end

abbrev sObj (led : Bool) : Obj := { cls := .type "set", dict := none, data := .set #[] 0 (.fresh 0 0 led) }
section
variable {P : Program} {w : World} {A : Around} {E : Value → Shared → Prop} {s : Shared}
theorem call_set_keys {l : Addr} {items : Array Value} {ks : List Key} {Q : Value → Shared → Prop}
    (hh : A.handled = none) (hl : s.heap.IsTuple l items) (hk : ks.length = items.size) (hi : ∀ (i : Nat) (v : Value), items[i]? = some v → ∃ k : Key, ks[i]? = some k ∧ keyIs k v = true) (hb : items.size + 1 < scanBound)
    (h : ∀ (h' : Heap) (tk : Nat), SetUp P w h' s.heap.objs.size ks items.size → (∀ b o, b < s.heap.objs.size → s.heap.get? b = some o → h'.get? b = some o) → Q (.ref s.heap.objs.size) { s with heap := h', toks := tk }) :
    wpAny (model P w) A (call (.type "set") [.ref l]) Q E s := by
  obtain ⟨mro1, mro2, hmro⟩ := PySem.F.called_set.mro
  have made := PySem.F.called_set.made
  have subs := PySem.F.called_set.sub
  refine wpAny_call (codeAny_of_tree ?_)
  show wpAny (model P w) _ (callAny (.type "set") _) _ _ _
  refine wpAny_pure ⟨Code.quiet_builtin _ (by decide +kernel), codeAny_builtin (PySem.F.entry_type_call) ?_⟩
  rw [Around.under_plain (weight_type_call_type "set" [Value.ref l] []) rfl]
  have notT := PySem.F.called_set.notType
  have canC := PySem.F.called_set.canCreate
  have chk := PySem.F.typeCall_set_1 (Value.ref l)
  repeat (any_goals (first | assumption | wp_step))
  refine codeAny_mono (code_set_new_1 (.ref l) (E := E) (Q₁ := fun ob s1 => ∃ led, ob = .ref s.heap.objs.size ∧ s1 = { s with heap := s.heap.push (sObj led) }) fun led => ⟨led, rfl, rfl⟩) fun r s1 hr => ?_
  match r, hr with
  | .error e, hr => exact hr
  | .ok .next, hr => exact hr.elim
  | .ok .brk, hr => exact hr.elim
  | .ok .cont, hr => exact hr.elim
  | .ok (.ret ob), hr =>
    obtain ⟨led, rfl, rfl⟩ := hr
    have hS : (s.heap.push (sObj led)).get? s.heap.objs.size = some (sObj led) := Heap.get?_push_size _ rfl
    have tyS : Shared.TypeIs { s with heap := s.heap.push (sObj led) } (.ref s.heap.objs.size) "set" := ⟨_, hS, rfl⟩
    have lkI := PySem.F.called_set.init.lookup
    have bdI := PySem.F.called_set.init.bind (.ref s.heap.objs.size)
    repeat (any_goals (first | assumption | wp_step))
    refine codeAny_mono (codeAny_call_builtin (R := wants (fun r s2 => r = .none ∧ ∃ h' tk, s2 = { s with heap := h', toks := tk } ∧ SetUp P w h' s.heap.objs.size ks items.size ∧ (∀ b o, b < s.heap.objs.size → s.heap.get? b = some o → h'.get? b = some o)) E)
      (PySem.F.called_set.init.plain) (PySem.F.entry_set_init) (check_set_init_1 tyS ?_)) fun r2 s2 hr2 => ?_
    · obtain ⟨ob, hob, hcl, nl, hdl⟩ := hl
      obtain ⟨oc, od, oda, osl⟩ := ob
      simp only at hcl hdl
      subst hcl
      subst hdl
      have hob1 : (s.heap.push (sObj led)).get? l = some { cls := .type "tuple", dict := od, data := .seq items nl, slots := osl } := Heap.get?_push_of_some _ hob
      have n1 := PySem.F.sub_tuple_set
      have n2 := PySem.F.sub_tuple_frozenset
      have n3 : (Value.type "tuple" == Value.type "dict") = false := by decide
      have tup1 : (s.heap.push (sObj led)).IsTuple l items := ⟨_, hob1, rfl, nl, rfl⟩
      unfold Builtin.«set.__init__» noKeywords Builtin.Frozenset.updateFrom
      generalize hPI : pyIter = PI
      wp_walk
      subst hPI
      refine wpAny_pyIter_tuple tup1 (wpAny_bind (wpAny_runValue ?_))
      have lS : l < s.heap.objs.size := Heap.lt_size hob
      have hne : l ≠ (s.heap.push (sObj led)).objs.size := by
        rw [Heap.size_push]
        exact Nat.ne_of_lt (Nat.lt_succ_of_lt lS)
      have nS : s.heap.objs.size ∉ [(s.heap.push (sObj led)).objs.size, l] := by
        rw [Heap.size_push]
        intro z
        rcases List.mem_cons.mp z with z | z
        · exact absurd z (Nat.ne_of_lt (Nat.lt_succ_self _))
        · exact absurd (List.mem_singleton.mp z) (Nat.ne_of_gt lS)
      refine loop_keys ((Walks.tuple (show A.in1.in1.in1.handled = none by simp [hh]) _ l hne items).toS) s.heap.objs.size nS ks hi hb (items.size - 0) 0 _ (by omega) (Nat.zero_le _) ⟨⟨_, Heap.get?_push_size _ rfl, rfl, rfl⟩, tup1.push _⟩ ?hS0 ?hR
      case hS0 =>
        have got : ((s.heap.push (sObj led)).push { cls := .type "tuple_iterator", data := .fields #[.ref l, .int 0 0] }).get? s.heap.objs.size = some (sObj led) := Heap.get?_push_of_some _ hS
        have e0 : ((s.heap.push (sObj led)).push { cls := .type "tuple_iterator", data := .fields #[.ref l, .int 0 0] }).SetOf (mixKind P w) s.heap.objs.size (memK (ks.take 0)) 0 :=
          ⟨_, #[], 0, _, got, ⟨rfl, rfl, rfl⟩, rfl, (fun e he => by simp at he), (fun k => by simp [memK]), (by decide), (by rfl), rfl⟩
        exact ⟨0, e0, Nat.le_refl _, by simp⟩
      case hR =>
        intro s3 hmv hS3
        obtain ⟨h3, g3, d3, t3, o3⟩ := s3
        have eg : g3 = s.gens := hmv.gens
        have ed : d3 = s.drawn := hmv.drawn
        have eo : o3 = s.os := hmv.os
        subst eg ed eo
        show wpAny (model P w) _ _ _ _ _
        refine wpAny_pure ?_
        show wpAny (model P w) _ (ret Value.none) _ _ _
        refine wpAny_pure ⟨rfl, h3, t3, rfl, hS3, fun b o hb2 e => ?_⟩
        refine hmv.heap b o (fun z => ?_) (Heap.get?_push_of_some _ (Heap.get?_push_of_some _ e))
        rcases List.mem_cons.mp z with z | z
        · exact Nat.ne_of_lt hb2 z
        · have z := List.mem_singleton.mp z
          rw [Heap.size_push] at z
          exact Nat.ne_of_lt (Nat.lt_succ_of_lt hb2) z
    · match r2, hr2 with
      | .error e, hr2 => exact hr2
      | .ok .next, hr2 => exact hr2.elim
      | .ok .brk, hr2 => exact hr2.elim
      | .ok .cont, hr2 => exact hr2.elim
      | .ok (.ret r), hr2 =>
        obtain ⟨rfl, h3, t3, rfl, hS3, hk3⟩ := hr2
        repeat (any_goals (first | assumption | wp_step))
        exact h _ _ hS3 hk3
end
end Ln


set_option maxRecDepth 100000
namespace Ln
open PySem
/-! ### the text -/
def topS (i : Nat) : Stmt := PySem.Challenge.pw_openlane_k17_histories_by_replay.main.body.getD i (.Pass ⟨0, 0, 0, 0⟩)
abbrev sIsCar : Stmt := topS 5
abbrev sIsLane : Stmt := topS 6
abbrev sIsArr : Stmt := topS 7
abbrev sIsDep : Stmt := topS 8
abbrev sHasW : Stmt := topS 9
abbrev sIsLog : Stmt := topS 10
abbrev sReqLane : Stmt := topS 11
abbrev sReqLog : Stmt := topS 12
abbrev sSizes : Stmt := topS 13
abbrev sNumbers : Stmt := topS 14
abbrev sSource : Stmt := topS 41
abbrev sDraw : Stmt := topS 42
abbrev sRight : Stmt := topS 54
abbrev sNames : Stmt := topS 44
abbrev sOpp : Stmt := topS 16
abbrev sMove : Stmt := topS 15
abbrev sDepC : Stmt := topS 17
abbrev sExtras : Stmt := topS 19
abbrev sFirstNeg : Stmt := topS 20
abbrev sBlockR : Stmt := topS 21
abbrev sIsPoss : Stmt := topS 23
abbrev sWhyNot : Stmt := topS 24
abbrev sReqFin : Stmt := topS 25
abbrev sHasRC : Stmt := topS 26
abbrev sHasBlk : Stmt := topS 27
abbrev sFirstPk : Stmt := topS 28
abbrev sArrSt : Stmt := topS 29
abbrev sSwitch : Stmt := topS 30
abbrev sLaw : Stmt := topS 55
abbrev sCounts : Stmt := topS 46
abbrev sHist : Stmt := topS 32
abbrev sWant : Stmt := topS 33
abbrev sSideEv : Stmt := topS 34
abbrev sCntH : Stmt := topS 35
abbrev sKinds : Stmt := topS 36
abbrev sWays : Stmt := topS 37
abbrev sWaysB : Stmt := topS 38
abbrev sCell2 : Stmt := topS 40
abbrev sShuf : Stmt := topS 43
abbrev sEvents : Stmt := topS 45
abbrev sPlay : Stmt := topS 47
abbrev sAllEnds : Stmt := topS 48
abbrev sTable : Stmt := topS 49
abbrev sSmall2 : Stmt := topS 50
abbrev sEvery : Stmt := topS 51
abbrev sOthers : Stmt := topS 52
abbrev sAlike : Stmt := topS 53
end Ln


set_option Elab.async false
set_option linter.all false
set_option maxRecDepth 100000
set_option maxHeartbeats 2000000
namespace Ln
open PySem PySem.Spec PyProof.Rows L2 GxR
/-! ### the text -/
/-- a def of the text, its code object known -/
structure FunC (K : PySem.W.Frag) (x qual : Str) (st : Stmt) (f : Addr) (fd : FuncData) (c : Addr) : Prop where
  ex : ∃ (oc : Value) (od : Option Addr) (kV doc pm : Value) (an : Option Addr) (ct : Value) (osl : Array (Option Value)),
    fd = PySem.W.fnOf x qual (defArgs st) (defBody st) (defScope st) .none kV doc pm an (.ref c) ct ∧ K.lookup f = some ⟨oc, od, .func fd, osl⟩ ∧ PySem.W.codeIn K (.ref c) qual = true
  kp : PySem.W.keepIn K (.ref f) = true
theorem FunC.fn {K : PySem.W.Frag} {x qual : Str} {st : Stmt} {f : Addr} {fd : FuncData} {c : Addr} (F : FunC K x qual st f fd c) : Fun K x qual st f fd := by
  obtain ⟨oc, od, kV, doc, pm, an, ct, osl, e, lk, hc⟩ := F.ex
  exact ⟨⟨oc, od, kV, doc, pm, an, .ref c, ct, osl, e, lk, hc⟩, F.kp⟩
theorem FunC.ok {P : Program} {w : World} {K : PySem.W.Frag} {mg : Str → Option Value} {base : Heap} {x qual : Str} {st : Stmt} {f : Addr} {fd : FuncData} {c : Addr} {N ps : List Str} {k : Nat} {sp : Sp} (F : FunC K x qual st f fd c) (S : FnScope N ps (defScope st))
    (len : ∀ vs H Q E, sp vs H Q E → vs.length = ps.length)
    (hbody : ∀ (A : Around) (outer : List Env) (s : Shared) (H : Hp) (vs : List V) (Q : VK) (E : XK), Room k (A.deeper (envOfC qual (defScope st) s.heap.objs.size f (.ref c))) → sp vs H Q E →
      ∃ t, PSs (cxOf CX0 P w K mg base N qual (defScope st) f (.ref c) A outer s H E).nox (defBody st) t ∧ t { nx := fun _ H' => Q .non H', rt := Q } (start N vs) H) : FnOk P w K mg base CX0 (k + 1) f fd ps sp := by
  obtain ⟨oc, od, kV, doc, pm, an, ct, osl, rfl, lk, hcd⟩ := F.ex
  refine fn_of lk hcd S len fun A outer s H vs Q E hr hsp => ?_
  obtain ⟨t, h, q⟩ := hbody A outer s H vs Q E hr hsp
  exact ⟨t, h.nox, q⟩

/-! ### heaps -/
/-- what stood stands, but for the tables Ps, which may have grown -/
structure Kp (Ps : List Addr) (H H' : Hp) : Prop where
  at_ : ∀ b o, H b = some o → b ∉ Ps → H' b = some o
  tab : ∀ p ∈ Ps, TabG H' p
def Tabs (Ps : List Addr) (H : Hp) : Prop := ∀ p ∈ Ps, TabG H p
section
variable {Ps : List Addr} {H H1 H2 : Hp} {a p : Addr} {o : HO} {K : PySem.W.Frag} {xs : List V}
theorem Kp.refl (h : Tabs Ps H) : Kp Ps H H := ⟨fun _ _ e _ => e, h⟩
theorem Kp.tabs (h : Kp Ps H H1) : Tabs Ps H1 := h.tab
theorem Kp.trans (h : Kp Ps H H1) (k : Kp Ps H1 H2) : Kp Ps H H2 := ⟨fun b o e n => k.at_ b o (h.at_ b o e n) n, k.tab⟩
theorem tab_ne (h : Tabs Ps H) (e : H a = some o) (hn : ∀ q, o ≠ .tbl q) : a ∉ Ps := fun z => by
  obtain ⟨ps, e2, _⟩ := h a z
  rw [e2] at e
  exact hn ps (Option.some.inj e).symm
theorem tab_free (h : Tabs Ps H) (e : H a = none) : a ∉ Ps := fun z => by
  obtain ⟨ps, e2, _⟩ := h a z
  rw [e2] at e
  cases e
theorem Kp.new (h : Tabs Ps H) (e : H p = none) : Kp Ps H (upd H p o) :=
  ⟨fun b u q _ => by rw [upd_ne (ne_of_none q e)]; exact q, fun q hq => by
    obtain ⟨ps, e2, t⟩ := h q hq
    exact ⟨ps, by rw [upd_ne (ne_of_none e2 e)]; exact e2, t⟩⟩
theorem Kp.tabbed (h : Tabs Ps H) (hp : p ∈ Ps) (t : Tabbed p H H1) : Kp Ps H H1 :=
  ⟨fun b u q n => (t.2 b fun z => n (z ▸ hp)).trans q, fun q hq => by
    by_cases e : q = p
    · rw [e]
      exact t.1
    · obtain ⟨ps, e2, r⟩ := h q hq
      exact ⟨ps, (t.2 q e).trans e2, r⟩⟩
theorem Kp.lst (k : Kp Ps H H1) (h : Tabs Ps H) (e : H a = some (.lst xs)) : H1 a = some (.lst xs) := k.at_ a _ e (tab_ne h e fun q z => by cases z)
theorem Kp.tup (k : Kp Ps H H1) (h : Tabs Ps H) (e : H a = some (.tup xs)) : H1 a = some (.tup xs) := k.at_ a _ e (tab_ne h e fun q z => by cases z)
theorem Kp.ext {φ : Heap → Prop} (k : Kp Ps H H1) (h : Tabs Ps H) (e : H a = some (.ext φ)) : H1 a = some (.ext φ) := k.at_ a _ e (tab_ne h e fun q z => by cases z)
theorem Kp.seqL (k : Kp Ps H H1) (h : Tabs Ps H) (e : SqL K H a xs) : SqL K H1 a xs := by
  rcases e with (e | ⟨ob, e⟩) | e
  · exact .inl (.inl (k.lst h e))
  · exact .inl (.inr ⟨ob, k.at_ a _ e (tab_ne h e fun q z => by cases z)⟩)
  · exact .inr e
theorem Kp.seqT (k : Kp Ps H H1) (h : Tabs Ps H) (e : SqT K H a xs) : SqT K H1 a xs := by
  rcases e with (e | ⟨ob, e⟩) | e
  · exact .inl (.inl (k.tup h e))
  · exact .inl (.inr ⟨ob, k.at_ a _ e (tab_ne h e fun q z => by cases z)⟩)
  · exact .inr e
/-- what is free behind was free before, tables apart -/
theorem Kp.free (k : Kp Ps H H1) (h : Tabs Ps H) (e : H1 p = none) : H p = none := by
  cases q : H p with
  | none => rfl
  | some u =>
    by_cases z : p ∈ Ps
    · exact absurd e (by
        obtain ⟨ps, e2, _⟩ := k.tab p z
        rw [e2]
        exact fun y => by cases y)
    · rw [k.at_ p u q z] at e
      cases e
end
end Ln


set_option Elab.async false
set_option linter.all false
set_option maxRecDepth 100000
set_option maxHeartbeats 2000000
namespace Ln
open PySem PySem.Spec PyProof.Rows L2 GxR
/-- the program's text as it stands: what its defs lean on -/
structure Bi (mg : Str → Option Value) : Prop where
  isi : mg "isinstance" = none
  len : mg "len" = none
  all : mg "all" = none
  str : mg "str" = none
  tup : mg "tuple" = none
  lst : mg "list" = none
  set : mg "set" = none
  zip : mg "zip" = none
def lowB (c : Nat) : Bool := decide (97 ≤ c) && decide (c ≤ 122)
def carB (x : Str) : Bool := decide (1 ≤ x.length) && decide (x.length ≤ 4) && x.cps.toList.all lowB
theorem scIsCar : FnScope ["value"] ["value"] (defScope sIsCar) := ⟨rfl, rfl, rfl, by decide +kernel, rfl, by decide +kernel, by decide +kernel⟩
section
variable {P : Program} {w : World} {K : PySem.W.Frag} {mg : Str → Option Value} {base : Heap} {Ps : List Addr}
def spCar (Ps : List Addr) : Sp := fun vs H Q _ => ∃ c : Str, vs = [.str c] ∧ c.length ≤ sizeLine ∧ Tabs Ps H ∧ ∀ H', Kp Ps H H' → Q (.bl (carB c)) H'
theorem ok_car {f c P1 : Addr} {fd : FuncData} (F : FunC K "is_car" "is_car" sIsCar f fd c) (B : Bi mg) (TB : TabB base mg c P1) (hP : P1 ∈ Ps) : FnOk P w K mg base CX0 2 f fd ["value"] (spCar Ps) := by
  refine F.ok scIsCar (fun vs H Q E h => ?_) (fun A outer s H vs Q E hr h => ?_)
  · obtain ⟨z, rfl, _⟩ := h
    rfl
  · obtain ⟨z, rfl, hz, hT, q⟩ := h
    refine ⟨_, pss_cons (ps_if (PW.pt (pw_or (pt_not (pt_val (pe_callB call_isi (by rfl) B.isi (by decide +kernel) (pa_cons (pv 0) (pa_cons (pe_bltn (by rfl) B.str (by decide +kernel) (v := .ty "str") rfl) pa_nil)))))
        (pw_or1 (pt_not (pt_chain op_le op_le pe_int (pe_callB call_len_str (by rfl) B.len PySem.boot_len (pa_cons (pv 0) pa_nil)) pe_int)))))
        (pss_one (ps_ret pe_bl)) pss_nil)
      (pss_one (ps_ret (pe_allG (k := 0) hr rfl (by rfl) B.all TB rfl ⟨rfl, rfl, by decide +kernel, by decide +kernel, rfl, rfl⟩ (pi_str (pv 0))
        (fun _ _ _ _ _ _ _ _ _ => pe_chain op_le_str op_le_str pe_str (pv 0) pe_str)))), ?_⟩
    refine ⟨_, rfl, .str z, .ty "str", .type "str", .type "str", true, rfl, .ty _, .base (.str z), kit_ty (by decide +kernel), true, rfl, ?_⟩
    refine iteF ?_
    refine ⟨.str z, rfl, z, rfl, hz, 1, (z.length : Int), rfl, rfl, _, rfl, ?_⟩
    have out : ¬ (1 ≤ z.length ∧ z.length ≤ 4) → Q (.bl false) H := fun hn => by
      have e : carB z = false := by
        unfold carB
        by_cases a : 1 ≤ z.length
        · by_cases b : z.length ≤ 4
          · exact absurd ⟨a, b⟩ hn
          · simp [b]
        · simp [a]
      have := q H (Kp.refl hT)
      rw [e] at this
      exact this
    refine ite2 (fun h1 => ?_) (fun h1 => ?_)
    · have h1 : (1 : Int) ≤ z.length := of_decide_eq_true h1
      refine ⟨_, _, rfl, rfl, _, rfl, ?_⟩
      by_cases h4 : z.length ≤ 4
      · rw [decide_eq_true (show (z.length : Int) ≤ 4 by omega)]
        refine iteF ?_
        -- all('a' <= letter <= 'z' ..)
        refine ⟨.str z, rfl, z, rfl, hT P1 hP, fun i m H' => m = z.length - i ∧ Kp Ps H H' ∧ i ≤ z.length ∧ (z.cps.toList.take i).all lowB = true, fun H2 hH => ⟨z.length, by omega, Kp.tabbed hT hP hH, Nat.zero_le _, rfl⟩, fun i m H' hW => ?_⟩
        obtain ⟨rfl, kp, hi, hall⟩ := hW
        by_cases hlt : i < z.length
        · refine .inr ⟨hlt, fun v H3 hy => ?_⟩
          obtain ⟨rfl, c, hc, rfl⟩ := hy
          have cl : ∀ y : Nat, (⟨#[y]⟩ : Str).cps.toList = [y] := fun y => rfl
          have ca : ("a" : Str).cps.toList = [97] := by decide +kernel
          have cz : ("z" : Str).cps.toList = [122] := by decide +kernel
          have lt1 : ∀ x y : Nat, ([x] < [y]) ↔ x < y := fun x y => by rw [List.cons_lt_cons_iff]; simp
          refine ⟨.str ⟨#[c]⟩, rfl, _, _, rfl, rfl, _, rfl, ?_⟩
          have hcl : z.cps.toList[i]? = some c := by rw [Array.getElem?_toList]; exact hc
          have fin : lowB c = false → Q (.bl false) H3 := fun e => by
            have e2 : carB z = false := by
              unfold carB
              have : z.cps.toList.all lowB = false := by
                rw [List.all_eq_false]
                exact ⟨c, List.mem_of_getElem? hcl, by rw [e]; simp⟩
              rw [this, Bool.and_false]
            have := q H3 kp
            rw [e2] at this
            exact this
          by_cases h97 : 97 ≤ c
          · have e1 : (!decide ((⟨#[c]⟩ : Str).cps.toList < ("a" : Str).cps.toList)) = true := by rw [ca, cl, decide_eq_false (by rw [lt1]; omega)]; rfl
            rw [e1]
            refine iteT ⟨_, _, rfl, rfl, _, rfl, ?_⟩
            by_cases h122 : c ≤ 122
            · have e2 : (!decide (("z" : Str).cps.toList < (⟨#[c]⟩ : Str).cps.toList)) = true := by rw [cz, cl, decide_eq_false (by rw [lt1]; omega)]; rfl
              rw [e2]
              refine iteT ⟨z.length - (i + 1), by omega, rfl, kp, hlt, ?_⟩
              rw [List.take_add_one, hcl, List.all_append, hall]
              simp [lowB, h97, h122]
            · have e2 : (!decide (("z" : Str).cps.toList < (⟨#[c]⟩ : Str).cps.toList)) = false := by rw [cz, cl, decide_eq_true (by rw [lt1]; omega)]; rfl
              rw [e2]
              exact iteF (fin (by simp [lowB, h122]))
          · have e1 : (!decide ((⟨#[c]⟩ : Str).cps.toList < ("a" : Str).cps.toList)) = false := by rw [ca, cl, decide_eq_true (by rw [lt1]; omega)]; rfl
            rw [e1]
            exact iteF ⟨_, rfl, iteF (fin (by simp [lowB, h97]))⟩
        · refine .inl ⟨by show z.cps.size ≤ i; exact Nat.le_of_not_lt hlt, ?_⟩
          have e : carB z = true := by
            have : i = z.length := by omega
            rw [this, List.take_of_length_le (Nat.le_of_eq (by show z.cps.toList.length = z.cps.size; simp))] at hall
            have a : 1 ≤ z.length := by omega
            simp [carB, a, h4, hall]
          have := q H' kp
          rw [e] at this
          exact this
      · rw [decide_eq_false (show ¬ (z.length : Int) ≤ 4 by omega)]
        exact iteT (out (by omega))
    · have h1 : ¬ (1 : Int) ≤ z.length := fun z => h1 (decide_eq_true z)
      exact ⟨_, rfl, iteT (out (by omega))⟩
end
end Ln


set_option Elab.async false
set_option linter.all false
set_option maxRecDepth 100000
set_option maxHeartbeats 2000000
namespace Ln
open PySem PySem.Spec PyProof.Rows L2 GxR
section
variable {X : Cx}
/-- set(t), t a tuple of texts -/
def rSetT (K : PySem.W.Frag) (P : Program) (w : World) : List V → Hp → VK → Prop := fun vs H Q => ∃ (a : Addr) (xs : List Str), vs = [.ref a] ∧ SqT K H a (xs.map V.str) ∧ xs.length ≤ 1000 ∧
  ∀ p n, H p = none → n ≤ xs.length → (n = xs.length ↔ xs.Nodup) → Q (.ref p) (upd H p (SetK P w p (memK (xs.map Sum.inr)) n))
theorem nodup_inr {xs : List Str} : (xs.map (Sum.inr : Str → Key)).Nodup ↔ xs.Nodup := by
  constructor
  · intro h
    exact (List.pairwise_map.mp h).imp fun hne e => hne (by rw [e])
  · intro h
    exact List.pairwise_map.mpr (h.imp fun hne e => hne (Sum.inr.inj e))
theorem cr_setT (hc : X.calm = true) : CallR X (.type "set") (rSetT X.K X.prog X.w) := by
  intro pins s σ H vs us Q I r h
  obtain ⟨a, xs, rfl, hS, hlen, q⟩ := h
  obtain ⟨u, rfl, r1⟩ := vals1 r
  obtain rfl : u = Value.ref a := r1
  obtain ⟨its, rv, p, _⟩ := I.tuple hS
  have hl : its.toArray.size = xs.length := by rw [List.size_toArray, ← rv.length, List.length_map]
  refine call_set_keys (ks := xs.map Sum.inr) (I.ok.hd hc) (show s.heap.IsTuple a its.toArray from p) (by rw [hl, List.length_map]) (fun i v hv => ?_) (by rw [hl]; unfold scanBound; omega) fun h' tk hS' hk => ?_
  · have hv' : its[i]? = some v := by simpa using hv
    have hi : i < xs.length := by
      rw [← hl]
      exact (Array.getElem?_eq_some_iff.mp hv).1
    have hx : (xs.map V.str)[i]? = some (V.str xs[i]) := by rw [List.getElem?_map, List.getElem?_eq_getElem hi]; rfl
    obtain ⟨u, hu, ru⟩ := rv.get hx
    rw [hv'] at hu
    obtain rfl : v = u := Option.some.inj hu
    obtain ⟨t, rfl⟩ := ru
    exact ⟨Sum.inr xs[i], by rw [List.getElem?_map, List.getElem?_eq_getElem hi]; rfl, keyIs_str _ _⟩
  · rw [hl] at hS'
    obtain ⟨m, hm, hle, hn⟩ := hS'
    rw [List.take_of_length_le (by rw [List.length_map]; exact Nat.le_refl _)] at hm hn
    have hf : H s.heap.objs.size = none := I.hok.fresh (Nat.le_refl _)
    exact ⟨.ref s.heap.objs.size, _, I.laid (t' := tk) (fun b u e => hk b u (Heap.lt_size e) e) (Nat.le_refl _) (setK_new hm), rfl, q _ m hf hle (hn.trans nodup_inr)⟩
theorem call_len_setK : CallR X (.builtin "len") (fun vs H Q => ∃ a S n, vs = [.ref a] ∧ H a = some (SetK X.prog X.w a S n) ∧ n ≤ 1000 ∧ Q (.int (n : Nat)) H) := by
  intro pins s σ H vs us Q I r h
  obtain ⟨a, S, n, rfl, ha, hn, q⟩ := h
  obtain ⟨u, rfl, r1⟩ := vals1 r
  obtain rfl : u = Value.ref a := r1
  obtain ⟨o, es, ep, t, ho, hex, hd, _, _, _, hf, hsz⟩ := setK_get I ha
  subst hsz
  exact call_len_set ho hex hd hf (by omega) ⟨.int es.size, H, I.tok _, ⟨_, rfl⟩, q⟩
end
theorem tyx_tup {K : PySem.W.Frag} {H : Hp} {a : Addr} {xs : List V} (h : SqT K H a xs) : TyX K H (.ref a) (.type "tuple") := by
  rcases h with (h | ⟨o, h⟩) | ⟨o, its, n, hk, hc, _⟩
  · exact .base (.tup h)
  · exact .fTuple h
  · exact .kTuple hk hc
theorem tyx_lst {K : PySem.W.Frag} {H : Hp} {a : Addr} {xs : List V} (h : SqL K H a xs) : TyX K H (.ref a) (.type "list") := by
  rcases h with (h | ⟨o, h⟩) | ⟨o, its, n, hk, hc, _⟩
  · exact .base (.lst h)
  · exact .base (.frz h)
  · exact .kList hk hc
def laneB (xs : List Str) : Bool := xs.all carB && decide xs.Nodup
theorem scIsLane : FnScope ["value"] ["value"] (defScope sIsLane) := ⟨rfl, rfl, rfl, by decide +kernel, rfl, by decide +kernel, by decide +kernel⟩
section
variable {P : Program} {w : World} {K : PySem.W.Frag} {mg : Str → Option Value} {base : Heap} {Ps : List Addr}
def spLane (K : PySem.W.Frag) (Ps : List Addr) : Sp := fun vs H Q _ => ∃ (a : Addr) (xs : List Str), vs = [.ref a] ∧ SqT K H a (xs.map V.str) ∧ xs.length ≤ 1000 ∧ (∀ x ∈ xs, x.length ≤ sizeLine) ∧ Tabs Ps H ∧ ∀ H', Kp Ps H H' → Q (.bl (laneB xs)) H'
theorem ok_lane {f c P1 fC : Addr} {fd fdC : FuncData} (F : FunC K "is_lane" "is_lane" sIsLane f fd c) (B : Bi mg) (TB : TabB base mg c P1) (hP : P1 ∈ Ps)
    (GC : FnOk P w K mg base CX0 2 fC fdC ["value"] (spCar Ps)) (mgC : mg "is_car" = some (.ref fC)) (kC : PySem.W.keepIn K (.ref fC) = true) (bC : Binds K fdC ["value"] []) : FnOk P w K mg base CX0 4 f fd ["value"] (spLane K Ps) := by
  refine F.ok scIsLane (fun vs H Q E h => ?_) (fun A outer s H vs Q E hr h => ?_)
  · obtain ⟨a, xs, rfl, _⟩ := h
    rfl
  · obtain ⟨a, xs, rfl, hS, hlen, hsz, hT, q⟩ := h
    refine ⟨_, pss_cons (ps_if (PW.pt (pw_or (pt_not (pt_val (pe_callB call_isi (by rfl) B.isi (by decide +kernel) (pa_cons (pv 0) (pa_cons (pe_bltn (by rfl) B.tup (by decide +kernel) (v := .ty "tuple") rfl) pa_nil)))))
        (pw_or1 (pt_not (pt_val (pe_allG (k := 2) hr rfl (by rfl) B.all TB rfl ⟨rfl, rfl, by decide +kernel, by decide +kernel, rfl, rfl⟩ (pi_tup (pv 0))
          (fun _ _ _ _ _ _ _ _ hk => pe_call GC hk rfl mgC kC bC .nil pass0 (pa_cons (pv 0) pa_nil))))))))
        (pss_one (ps_ret pe_bl)) pss_nil)
      (pss_one (ps_ret (pe_cmpR op_eq (pe_callB call_len_setK (by rfl) B.len PySem.boot_len (pa_cons (pe_callTy (cr_setT rfl) (by rfl) B.set (by decide +kernel) (pa_cons (pv 0) pa_nil)) pa_nil))
        (pe_callB call_len_seq (by rfl) B.len PySem.boot_len (pa_cons (pv 0) pa_nil)) (nomark _)))), ?_⟩
    refine ⟨_, rfl, .ref a, .ty "tuple", .type "tuple", .type "tuple", true, rfl, .ty _, tyx_tup hS, kit_ty (by decide +kernel), true, rfl, ?_⟩
    refine iteF ?_
    -- all(is_car(entry) ..)
    refine ⟨.ref a, rfl, a, rfl, ⟨_, hS⟩, hT P1 hP, fun i m H' => m = xs.length - i ∧ Kp Ps H H' ∧ i ≤ xs.length ∧ (xs.take i).all carB = true, fun H2 hH => ⟨xs.length, by omega, Kp.tabbed hT hP hH, Nat.zero_le _, rfl⟩, fun i m H' hW => ?_⟩
    obtain ⟨rfl, kp, hi, hall⟩ := hW
    have hS' := kp.seqT hT hS
    by_cases hlt : i < xs.length
    · have hx : (xs.map V.str)[i]? = some (V.str xs[i]) := by rw [List.getElem?_map, List.getElem?_eq_getElem hlt]; rfl
      refine .inr ⟨⟨_, _, hS', hx⟩, fun v H3 hy => ?_⟩
      obtain ⟨rfl, fv⟩ := hy
      obtain rfl : v = V.str xs[i] := Option.some.inj ((fv _ hS').symm.trans hx)
      refine ⟨_, rfl, xs[i], rfl, hsz _ (List.getElem_mem hlt), kp.tab, fun H4 kp4 => ⟨_, rfl, ?_⟩⟩
      refine ite2 (fun hc => ?_) (fun hc => ?_)
      · refine ⟨_, ?_, rfl, kp.trans kp4, hlt, ?_⟩
        · omega
        · rw [List.take_add_one, List.getElem?_eq_getElem hlt, List.all_append, hall]
          simp [hc]
      · have e : laneB xs = false := by
          unfold laneB
          have : xs.all carB = false := List.all_eq_false.mpr ⟨xs[i], List.getElem_mem hlt, hc⟩
          rw [this, Bool.false_and]
        have := q H4 (kp.trans kp4)
        rw [e] at this
        exact ⟨false, rfl, iteT this⟩
    · refine .inl ⟨⟨_, hS', by rw [List.length_map]; omega⟩, true, rfl, iteF ?_⟩
      have hall' : xs.all carB = true := by
        rw [List.take_of_length_le (by omega)] at hall
        exact hall
      refine ⟨.ref a, rfl, a, xs, rfl, hS', hlen, fun p n hp hn hnd => ?_⟩
      have k2 : Kp Ps H' (upd H' p (SetK P w p (memK (xs.map Sum.inr)) n)) := Kp.new kp.tab hp
      refine ⟨p, _, n, rfl, upd_same, by omega, .ref a, rfl, a, _, rfl, .inr (k2.seqT kp.tab hS'), rfl, ?_⟩
      have e : laneB xs = decide (V.int (n : Nat) = V.int ((xs.map V.str).length : Nat)) := by
        unfold laneB
        rw [hall', Bool.true_and, List.length_map]
        by_cases hh : xs.Nodup
        · rw [decide_eq_true hh, decide_eq_true (by rw [hnd.mpr hh])]
        · rw [decide_eq_false hh, decide_eq_false fun z => hh (hnd.mp (by have := V.int.inj z; omega))]
      have := q _ (kp.trans k2)
      rw [e] at this
      exact this
end
end Ln


set_option Elab.async false
set_option linter.all false
set_option maxRecDepth 100000
set_option maxHeartbeats 2000000
namespace Ln
open PySem PySem.Spec PyProof.Rows L2 GxR
/-- an event -/
inductive Ev where
  | inn (c : Str)
  | out
def Ev.vals : Ev → List V
  | .inn c => [.str "in", .str c]
  | .out => [.str "out"]
/-- a statement that is never reached -/
theorem ps_dead {X : Cx} {st : Stmt} : PS X st (fun _ _ _ => False) := ⟨fun _ _ _ _ _ _ h => h.elim⟩
theorem scHasW : FnScope ["value", "word", "length"] ["value", "word", "length"] (defScope sHasW) := ⟨rfl, rfl, rfl, by decide +kernel, rfl, by decide +kernel, by decide +kernel⟩
theorem scIsArr : FnScope ["value"] ["value"] (defScope sIsArr) := ⟨rfl, rfl, rfl, by decide +kernel, rfl, by decide +kernel, by decide +kernel⟩
theorem scIsDep : FnScope ["value"] ["value"] (defScope sIsDep) := ⟨rfl, rfl, rfl, by decide +kernel, rfl, by decide +kernel, by decide +kernel⟩
theorem scReqLane : FnScope ["value"] ["value"] (defScope sReqLane) := ⟨rfl, rfl, rfl, by decide +kernel, rfl, by decide +kernel, by decide +kernel⟩
section
variable {P : Program} {w : World} {K : PySem.W.Frag} {mg : Str → Option Value} {base : Heap} {Ps : List Addr}
def spHasW (K : PySem.W.Frag) : Sp := fun vs H Q _ => ∃ (a : Addr) (y wd : Str) (ys : List V) (n : Int), vs = [.ref a, .str wd, .int n] ∧ SqT K H a (.str y :: ys) ∧ Q (.bl (decide (((ys.length + 1 : Nat) : Int) = n) && decide (y = wd))) H
theorem ok_hasW {f : Addr} {fd : FuncData} (F : Fun K "has_word" "has_word" sHasW f fd) (B : Bi mg) : FnOk P w K mg base CX0 1 f fd ["value", "word", "length"] (spHasW K) := by
  refine F.ok scHasW (fun vs H Q E h => ?_) (fun cdv A outer s H vs Q E hr h => ?_)
  · obtain ⟨a, y, wd, ys, n, rfl, _⟩ := h
    rfl
  · obtain ⟨a, y, wd, ys, n, rfl, hS, q⟩ := h
    refine ⟨_, pss_one (ps_ret (pe_and (pe_callB call_isi (by rfl) B.isi (by decide +kernel) (pa_cons (pv 0) (pa_cons (pe_bltn (by rfl) B.tup (by decide +kernel) (v := .ty "tuple") rfl) pa_nil)))
      (pe_and (pe_cmpR op_eq (pe_callB call_len_seq (by rfl) B.len PySem.boot_len (pa_cons (pv 0) pa_nil)) (pv 2) (nomark _))
      (pe_and (pe_callB call_isi (by rfl) B.isi (by decide +kernel) (pa_cons (pe_ix ix_tup (pv 0) pe_int (fun _ _ => rfl)) (pa_cons (pe_bltn (by rfl) B.str (by decide +kernel) (v := .ty "str") rfl) pa_nil)))
      (pe_one (pe_cmpR op_eq (pe_ix ix_tup (pv 0) pe_int (fun _ _ => rfl)) (pv 1) (nomark _))))))), ?_⟩
    refine ⟨.ref a, rfl, .ref a, .ty "tuple", .type "tuple", .type "tuple", true, rfl, .ty _, tyx_tup hS, kit_ty (by decide +kernel), true, rfl, iteT ?_⟩
    refine ⟨.ref a, rfl, a, _, rfl, .inr hS, .int n, rfl, rfl, _, rfl, ?_⟩
    have e1 : decide (V.int (((.str y :: ys : List V).length : Nat) : Int) = V.int n) = decide (((ys.length + 1 : Nat) : Int) = n) := by
      by_cases h : ((ys.length + 1 : Nat) : Int) = n
      · rw [decide_eq_true h]
        exact decide_eq_true (by rw [← h]; rfl)
      · rw [decide_eq_false h]
        exact decide_eq_false fun z => h (V.int.inj z)
    rw [e1]
    refine ite2 (fun hn => ?_) (fun hn => ?_)
    · refine ⟨.ref a, rfl, a, _, 0, .str y, rfl, rfl, hS, atI_nat (j := 0) rfl, .str y, .ty "str", .type "str", .type "str", true, rfl, .ty _, .base (.str y), kit_ty (by decide +kernel), true, rfl, iteT ?_⟩
      refine ⟨.ref a, rfl, a, _, 0, .str y, rfl, rfl, hS, atI_nat (j := 0) rfl, .str wd, rfl, rfl, ?_⟩
      have e2 : decide (V.str y = V.str wd) = decide (y = wd) := by
        by_cases h : y = wd
        · rw [decide_eq_true h, decide_eq_true (by rw [h])]
        · rw [decide_eq_false h, decide_eq_false fun z => h (V.str.inj z)]
      rw [e2]
      rw [hn, Bool.true_and] at q
      exact q
    · have hn' : decide (((ys.length + 1 : Nat) : Int) = n) = false := by simpa using hn
      rw [hn', Bool.false_and] at q
      exact q
def spEv (K : PySem.W.Frag) (Ps : List Addr) (g : Ev → Bool) : Sp := fun vs H Q _ => ∃ (a : Addr) (e : Ev), vs = [.ref a] ∧ SqT K H a e.vals ∧ (∀ c, e = .inn c → c.length ≤ sizeLine) ∧ Tabs Ps H ∧ ∀ H', Kp Ps H H' → Q (.bl (g e)) H'
def arrB : Ev → Bool
  | .inn c => carB c
  | .out => false
def depB : Ev → Bool
  | .inn _ => false
  | .out => true
theorem ne_io : ¬ (("in" : Str) = "out") := by decide +kernel
theorem ne_oi : ¬ (("out" : Str) = "in") := by decide +kernel
theorem ok_arr {f fH fC : Addr} {fd fdH fdC : FuncData} (F : Fun K "is_arrival" "is_arrival" sIsArr f fd)
    (GH : FnOk P w K mg base CX0 1 fH fdH ["value", "word", "length"] (spHasW K)) (mgH : mg "has_word" = some (.ref fH)) (kH : PySem.W.keepIn K (.ref fH) = true) (bH : Binds K fdH ["value", "word", "length"] [])
    (GC : FnOk P w K mg base CX0 2 fC fdC ["value"] (spCar Ps)) (mgC : mg "is_car" = some (.ref fC)) (kC : PySem.W.keepIn K (.ref fC) = true) (bC : Binds K fdC ["value"] []) : FnOk P w K mg base CX0 3 f fd ["value"] (spEv K Ps arrB) := by
  refine F.ok scIsArr (fun vs H Q E h => ?_) (fun cdv A outer s H vs Q E hr h => ?_)
  · obtain ⟨a, e, rfl, _⟩ := h
    rfl
  · obtain ⟨a, e, rfl, hS, hsz, hT, q⟩ := h
    refine ⟨_, pss_one (ps_ret (pe_and (pe_call GH (hr.mono (by decide)) (by rfl) mgH kH bH .nil pass0 (pa_cons (pv 0) (pa_cons pe_str (pa_cons pe_int pa_nil))))
      (pe_one (pe_call GC hr (by rfl) mgC kC bC .nil pass0 (pa_cons (pe_ix ix_tup (pv 0) pe_int (fun _ _ => rfl)) pa_nil))))), ?_⟩
    cases e with
    | inn c =>
      refine ⟨.ref a, rfl, a, "in", "in", [.str c], 2, rfl, hS, _, rfl, ?_⟩
      rw [decide_eq_true (show ((([V.str c] : List V).length + 1 : Nat) : Int) = 2 from rfl), decide_eq_true (rfl : ("in" : Str) = "in")]
      refine iteT ⟨.ref a, rfl, a, _, 1, .str c, rfl, rfl, hS, atI_nat (j := 1) rfl, c, rfl, hsz c rfl, hT, fun H' kp => q H' kp⟩
    | out =>
      refine ⟨.ref a, rfl, a, "out", "in", [], 2, rfl, hS, _, rfl, ?_⟩
      rw [decide_eq_false ne_oi, Bool.and_false]
      exact iteF (q H (Kp.refl hT))
theorem ok_dep {f fH : Addr} {fd fdH : FuncData} (F : Fun K "is_departure" "is_departure" sIsDep f fd)
    (GH : FnOk P w K mg base CX0 1 fH fdH ["value", "word", "length"] (spHasW K)) (mgH : mg "has_word" = some (.ref fH)) (kH : PySem.W.keepIn K (.ref fH) = true) (bH : Binds K fdH ["value", "word", "length"] []) : FnOk P w K mg base CX0 2 f fd ["value"] (spEv K Ps depB) := by
  refine F.ok scIsDep (fun vs H Q E h => ?_) (fun cdv A outer s H vs Q E hr h => ?_)
  · obtain ⟨a, e, rfl, _⟩ := h
    rfl
  · obtain ⟨a, e, rfl, hS, hsz, hT, q⟩ := h
    refine ⟨_, pss_one (ps_ret (pe_call GH hr (by rfl) mgH kH bH .nil pass0 (pa_cons (pv 0) (pa_cons pe_str (pa_cons pe_int pa_nil))))), ?_⟩
    cases e with
    | inn c =>
      refine ⟨.ref a, rfl, a, "in", "out", [.str c], 1, rfl, hS, ?_⟩
      rw [decide_eq_false ne_io, Bool.and_false]
      exact q H (Kp.refl hT)
    | out =>
      refine ⟨.ref a, rfl, a, "out", "out", [], 1, rfl, hS, ?_⟩
      rw [decide_eq_true (rfl : ("out" : Str) = "out")]
      exact q H (Kp.refl hT)
/-- nothing is handed back, what stood stands -/
def spReqLane (K : PySem.W.Frag) (Ps : List Addr) : Sp := fun vs H Q _ => ∃ (a : Addr) (xs : List Str), vs = [.ref a] ∧ SqT K H a (xs.map V.str) ∧ xs.length ≤ 1000 ∧ (∀ x ∈ xs, x.length ≤ sizeLine) ∧ laneB xs = true ∧ Tabs Ps H ∧ ∀ H', Kp Ps H H' → Q .non H'
theorem ok_reqLane {f fL : Addr} {fd fdL : FuncData} (F : Fun K "require_lane" "require_lane" sReqLane f fd)
    (GL : FnOk P w K mg base CX0 4 fL fdL ["value"] (spLane K Ps)) (mgL : mg "is_lane" = some (.ref fL)) (kL : PySem.W.keepIn K (.ref fL) = true) (bL : Binds K fdL ["value"] []) : FnOk P w K mg base CX0 5 f fd ["value"] (spReqLane K Ps) := by
  refine F.ok scReqLane (fun vs H Q E h => ?_) (fun cdv A outer s H vs Q E hr h => ?_)
  · obtain ⟨a, xs, rfl, _⟩ := h
    rfl
  · obtain ⟨a, xs, rfl, hS, hlen, hsz, hB, hT, q⟩ := h
    refine ⟨_, pss_one (ps_if (pt_not (pt_val (pe_call GL hr (by rfl) mgL kL bL .nil pass0 (pa_cons (pv 0) pa_nil)))) (pss_one ps_dead) pss_nil), ?_⟩
    refine ⟨.ref a, rfl, a, xs, rfl, hS, hlen, hsz, hT, fun H' kp => ⟨_, rfl, ?_⟩⟩
    rw [hB]
    exact iteF (q H' kp)
end
end Ln


set_option Elab.async false
set_option linter.all false
set_option maxRecDepth 100000
set_option maxHeartbeats 2000000
namespace Ln
open PySem PySem.Spec PyProof.Rows L2 GxR
theorem pair_at {α β : Type} {F : α → β → Prop} : ∀ {as : List α} {bs : List β}, Paired F as bs → ∀ (i : Nat) (b : β), bs[i]? = some b → ∃ a, as[i]? = some a ∧ F a b
  | _, _, .nil, i, b, h => by simp at h
  | _, _, .cons r t, 0, b, h => by
    have e := Option.some.inj h
    exact ⟨_, rfl, e ▸ r⟩
  | _, _, .cons r t, i + 1, b, h => by
    obtain ⟨a, e, q⟩ := pair_at t i b (by simpa using h)
    exact ⟨a, by simpa using e, q⟩
theorem Paired.imp {α β : Type} {F G : α → β → Prop} {as : List α} {bs : List β} (h : Paired F as bs) (f : ∀ a b, F a b → G a b) : Paired G as bs := Paired.mapP h f
/-- may the log es be, the cars used, n present -/
def logB : List Str → Nat → List Ev → Bool
  | _, _, [] => true
  | u, n, .inn c :: r => if carB c = true ∧ ¬ c ∈ u then logB (c :: u) (n + 1) r else false
  | u, n, .out :: r => if 0 < n then logB u (n - 1) r else false
theorem Kp.upd {Ps : List Addr} {H H1 : Hp} {u : Addr} {o : HO} (k : Kp Ps H H1) (hT : Tabs Ps H) (hu : H u = none) : Kp Ps H (upd H1 u o) := by
  have nu := tab_free hT hu
  exact ⟨fun b q e n => by rw [upd_ne (ne_of_none e hu)]; exact k.at_ b q e n, fun q hq => by
    obtain ⟨ps, e, r⟩ := k.tab q hq
    exact ⟨ps, by rw [upd_ne (fun z : q = u => nu (by rw [← z]; exact hq))]; exact e, r⟩⟩
/-- a log's events, each a tuple -/
def EvsAt (K : PySem.W.Frag) (H : Hp) (as : List Addr) (es : List Ev) : Prop := Paired (fun a (e : Ev) => SqT K H a e.vals) as es
theorem EvsAt.kp {K : PySem.W.Frag} {Ps : List Addr} {H H1 : Hp} {as : List Addr} {es : List Ev} (h : EvsAt K H as es) (k : Kp Ps H H1) (hT : Tabs Ps H) : EvsAt K H1 as es := Paired.imp h fun _ _ q => k.seqT hT q
theorem scIsLog : FnScope ["start", "value", "used", "present", "event"] ["start", "value"] (defScope sIsLog) := ⟨rfl, rfl, rfl, by decide +kernel, rfl, by decide +kernel, by decide +kernel⟩
/-- a lane and a log of modest size -/
structure LaneAt (K : PySem.W.Frag) (H : Hp) (a : Addr) (xs : List Str) : Prop where
  at_ : SqT K H a (xs.map V.str)
  few : xs.length ≤ 400
  sz : ∀ x ∈ xs, x.length ≤ sizeLine
structure LogAt (K : PySem.W.Frag) (H : Hp) (l : Addr) (as : List Addr) (es : List Ev) : Prop where
  at_ : SqL K H l (as.map V.ref)
  evs : EvsAt K H as es
  few : es.length ≤ 400
  sz : ∀ c, Ev.inn c ∈ es → c.length ≤ sizeLine
theorem LaneAt.kp {K : PySem.W.Frag} {Ps : List Addr} {H H1 : Hp} {a : Addr} {xs : List Str} (h : LaneAt K H a xs) (k : Kp Ps H H1) (hT : Tabs Ps H) : LaneAt K H1 a xs := ⟨k.seqT hT h.at_, h.few, h.sz⟩
theorem LogAt.kp {K : PySem.W.Frag} {Ps : List Addr} {H H1 : Hp} {l : Addr} {as : List Addr} {es : List Ev} (h : LogAt K H l as es) (k : Kp Ps H H1) (hT : Tabs Ps H) : LogAt K H1 l as es := ⟨k.seqL hT h.at_, h.evs.kp k hT, h.few, h.sz⟩
section
variable {P : Program} {w : World} {K : PySem.W.Frag} {mg : Str → Option Value} {base : Heap} {Ps : List Addr}
def spLog (K : PySem.W.Frag) (Ps : List Addr) : Sp := fun vs H Q _ => ∃ (a l : Addr) (xs : List Str) (as : List Addr) (es : List Ev), vs = [.ref a, .ref l] ∧ LaneAt K H a xs ∧ laneB xs = true ∧ LogAt K H l as es ∧ Tabs Ps H ∧ ∀ H', Kp Ps H H' → Q (.bl (logB xs xs.length es)) H'
theorem ok_log {f fR fA fD : Addr} {fd fdR fdA fdD : FuncData} (F : Fun K "is_log" "is_log" sIsLog f fd) (B : Bi mg)
    (GR : FnOk P w K mg base CX0 5 fR fdR ["value"] (spReqLane K Ps)) (mgR : mg "require_lane" = some (.ref fR)) (kR : PySem.W.keepIn K (.ref fR) = true) (bR : Binds K fdR ["value"] [])
    (GA : FnOk P w K mg base CX0 3 fA fdA ["value"] (spEv K Ps arrB)) (mgA : mg "is_arrival" = some (.ref fA)) (kA : PySem.W.keepIn K (.ref fA) = true) (bA : Binds K fdA ["value"] [])
    (GD : FnOk P w K mg base CX0 2 fD fdD ["value"] (spEv K Ps depB)) (mgD : mg "is_departure" = some (.ref fD)) (kD : PySem.W.keepIn K (.ref fD) = true) (bD : Binds K fdD ["value"] []) :
    FnOk P w K mg base CX0 6 f fd ["start", "value"] (spLog K Ps) := by
  refine F.ok scIsLog (fun vs H Q E h => ?_) (fun cdv A outer s H vs Q E hr h => ?_)
  · obtain ⟨a, l, xs, as, es, rfl, _⟩ := h
    rfl
  · obtain ⟨a, l, xs, as, es, rfl, hL, hB, hE, hT, q⟩ := h
    refine ⟨_, pss_cons (ps_expr (pe_call GR hr (by rfl) mgR kR bR .nil pass0 (pa_cons (pv 0) pa_nil)))
      (pss_cons (ps_if (pt_not (pt_val (pe_callB call_isi (by rfl) B.isi (by decide +kernel) (pa_cons (pv 1) (pa_cons (pe_bltn (by rfl) B.lst (by decide +kernel) (v := .ty "list") rfl) pa_nil))))) (pss_one (ps_ret pe_bl)) pss_nil)
      (pss_cons (ps_set (i := 2) scIsLog.nd rfl (.inl rfl) (pe_callTy (cr_setT rfl) (by rfl) B.set (by decide +kernel) (pa_cons (pv 0) pa_nil)))
      (pss_cons (ps_set (i := 3) scIsLog.nd rfl (.inl rfl) (pe_callB call_len_seq (by rfl) B.len PySem.boot_len (pa_cons (pv 0) pa_nil)))
      (pss_cons (ps_for PassesOwn.never rfl (pi_list (pv 1)) (pg_name (i := 4) scIsLog.nd rfl (.inl rfl))
        (pss_one (ps_if (PW.pt (pw_and (pt_val (pe_call GA (hr.mono (by decide)) (by rfl) mgA kA bA .nil pass0 (pa_cons (pv 4) pa_nil))) (pw_and1 (pt_cmpR or_snotinK (pe_ix ix_tup (pv 4) pe_int (fun _ _ => rfl)) (pv 2) (by rfl)))))
          (pss_cons (ps_expr (pe_saddK (pv 2) (pa_cons (pe_ix ix_tup (pv 4) pe_int (fun _ _ => rfl)) pa_nil))) (pss_one (ps_aug (i := 3) scIsLog.nd rfl (.inl rfl) pe_int ip_add)))
          (pss_one (ps_if (PW.pt (pw_and (pt_val (pe_call GD (hr.mono (by decide)) (by rfl) mgD kD bD .nil pass0 (pa_cons (pv 4) pa_nil))) (pw_and1 (pt_cmpR op_gt (pv 3) pe_int (nomark _)))))
            (pss_one (ps_aug (i := 3) scIsLog.nd rfl (.inl rfl) pe_int ip_sub))
            (pss_one (ps_ret pe_bl)))))))
      (pss_one (ps_ret pe_bl)))))), ?_⟩
    -- require_lane(start)
    refine ⟨.ref a, rfl, a, xs, rfl, hL.at_, by have := hL.few; omega, hL.sz, hB, hT, fun H1 k1 => ?_⟩
    have hL1 := hL.kp k1 hT
    have hE1 := hE.kp k1 hT
    refine ⟨.ref l, rfl, .ref l, .ty "list", .type "list", .type "list", true, rfl, .ty _, tyx_lst hE1.at_, kit_ty (by decide +kernel), true, rfl, iteF ?_⟩
    -- used = set(start); present = len(start)
    refine ⟨.ref a, rfl, a, xs, rfl, hL1.at_, by have := hL.few; omega, fun u n hu hn _ => ?_⟩
    have hu0 : H u = none := k1.free hT hu
    have k2 : Kp Ps H (upd H1 u (SetK P w u (memK (xs.map Sum.inr)) n)) := k1.upd hT hu0
    have hL2 := hL.kp k2 hT
    refine ⟨.ref a, rfl, a, _, rfl, .inr hL2.at_, ?_⟩
    have hE2 := hE.kp k2 hT
    refine ⟨.ref l, rfl, l, rfl, ⟨_, hE2.at_⟩, for_list (K := K) (a := l) (xs := as.map V.ref) (fun i σ H' => ∃ (v4 : Option V) (m : Nat) (S : Key → Bool) (us : List Str) (c : Nat), σ = [some (.ref a), some (.ref l), some (.ref u), some (.int (m : Nat)), v4] ∧ Kp Ps H H' ∧
        H' u = some (SetK P w u S c) ∧ c ≤ xs.length + i ∧ (∀ x : Str, S (.inr x) = true ↔ x ∈ us) ∧ i ≤ es.length ∧ logB xs xs.length es = logB us m (es.drop i)) ?_ ?_ ?_ ?_⟩
    · refine ⟨none, xs.length, _, xs, n, ?_, k2, upd_same, by omega, fun x => ?_, Nat.zero_le _, rfl⟩
      · rw [List.length_map]
        rfl
      · rw [memK_iff, List.mem_map]
        constructor
        · intro ⟨y, hy, e⟩
          rw [← Sum.inr.inj e]
          exact hy
        · intro h
          exact ⟨x, h, rfl⟩
    · rintro i σ H' _ ⟨_, _, _, _, _, _, kp, _⟩
      exact (hE.kp kp hT).at_
    · rintro i y σ H' hi ⟨v4, m, S, us, c, rfl, kp, hSet, hc, hS, hie, hlog⟩
      have hlen := Paired.length hE.evs
      have hlt : i < es.length := by
        have h1 := (List.getElem?_eq_some_iff.mp hi).1
        rw [List.length_map] at h1
        omega
      obtain ⟨ev, hev⟩ : ∃ ev, es[i]? = some ev := ⟨es[i], List.getElem?_eq_getElem hlt⟩
      obtain ⟨b, hb, hbt⟩ := pair_at (hE.kp kp hT).evs i ev hev
      have hy : y = .ref b := by
        rw [List.getElem?_map, hb] at hi
        exact (Option.some.inj hi).symm
      subst hy
      have hdrop : es.drop i = ev :: es.drop (i + 1) := by
        rw [List.drop_eq_getElem_cons hlt]
        rw [List.getElem?_eq_getElem hlt] at hev
        rw [Option.some.inj hev]
      rw [hdrop] at hlog
      have hsz : ∀ c', ev = .inn c' → c'.length ≤ sizeLine := fun c' e => hE.sz c' (e ▸ List.mem_of_getElem? hev)
      have few1 := hL.few
      have few2 := hE.few
      -- is_arrival(event)
      refine ⟨.ref b, rfl, b, ev, rfl, hbt, hsz, kp.tab, fun H3 k3 => ⟨_, rfl, ?_⟩⟩
      have kp3 := kp.trans k3
      have hSet3 := k3.ext kp.tab hSet
      have hbt3 := k3.seqT kp.tab hbt
      -- elif is_departure(event) and present > 0
      have dep : ∀ H4, Kp Ps H3 H4 → (depB ev && decide (0 < m)) = false → logB us m (ev :: es.drop (i + 1)) = false → Q (.bl false) H4 := fun H4 k4 _ hf => by
        have := q H4 (kp3.trans k4)
        rw [hlog, hf] at this
        exact this
      cases ev with
      | out =>
        refine iteF (iteF ?_)
        refine ⟨.ref b, rfl, b, .out, rfl, hbt3, fun _ e => (by cases e), kp3.tab, fun H4 k4 => ⟨_, rfl, iteT ?_⟩⟩
        refine ⟨_, rfl, _, _, rfl, rfl, _, rfl, ite2 (fun hm => ?_) (fun hm => ?_)⟩
        · have hm : (0 : Int) < (m : Nat) := of_decide_eq_true hm
          refine ⟨_, rfl, _, _, rfl, rfl, some (.ref b), m - 1, S, us, c, ?_, kp3.trans k4, k4.ext kp3.tab hSet3, by omega, hS, hlt, ?_⟩
          · show [some (V.ref a), some (V.ref l), some (V.ref u), some (V.int ((m : Nat) - 1)), some (V.ref b)] = _
            rw [show ((m : Nat) : Int) - 1 = ((m - 1 : Nat) : Int) by omega]
          · rw [hlog]
            show (if 0 < m then _ else _) = _
            rw [if_pos (by omega)]
        · have hm : ¬ 0 < m := fun z => hm (decide_eq_true (by omega))
          exact dep H4 k4 (by simp [hm]) (by show (if 0 < m then _ else _) = _; rw [if_neg hm])
      | inn x =>
        refine ite2 (fun hx => ?_) (fun hx => ?_)
        · have hx : carB x = true := hx
          refine ⟨.ref b, rfl, b, _, 1, .str x, rfl, rfl, hbt3, atI_nat (j := 1) rfl, .ref u, rfl, .inr x, u, S, c, rfl, rfl, hSet3, _, rfl, ?_⟩
          show if (!S (.inr x)) = true then _ else _
          cases hin : S (.inr x) with
          | false =>
            have hxu : ¬ x ∈ us := fun z => by
              rw [(hS x).mpr z] at hin
              cases hin
            refine iteT ⟨.ref u, rfl, ⟨u, S, c, rfl, hSet3⟩, .ref b, rfl, b, _, 1, .str x, rfl, rfl, hbt3, atI_nat (j := 1) rfl, u, .inr x, S, c, rfl, rfl, hSet3, by unfold scanBound; omega, ?_⟩
            refine ⟨_, rfl, _, _, rfl, rfl, some (.ref b), m + 1, _, x :: us, _, rfl, kp3.upd hT hu0, upd_same, ?_, fun z => ?_, hlt, ?_⟩
            · rw [hin, if_neg Bool.false_ne_true]
              omega
            · show (S (.inr z) || decide ((Sum.inr z : Key) = Sum.inr x)) = true ↔ _
              rw [Bool.or_eq_true, hS z, decide_eq_true_iff, List.mem_cons]
              constructor
              · rintro (h | h)
                · exact .inr h
                · exact .inl (Sum.inr.inj h)
              · rintro (h | h)
                · exact .inr (by rw [h])
                · exact .inl h
            · rw [hlog]
              show (if carB x = true ∧ ¬ x ∈ us then _ else _) = _
              rw [if_pos ⟨hx, hxu⟩]
          | true =>
            have hxu : x ∈ us := (hS x).mp hin
            refine iteF ?_
            refine ⟨.ref b, rfl, b, .inn x, rfl, hbt3, hsz, kp3.tab, fun H4 k4 => ⟨_, rfl, iteF (iteF ?_)⟩⟩
            exact dep H4 k4 rfl (by show (if carB x = true ∧ ¬ x ∈ us then _ else _) = _; rw [if_neg fun z => z.2 hxu])
        · have hx : ¬ carB x = true := hx
          refine iteF ?_
          refine ⟨.ref b, rfl, b, .inn x, rfl, hbt3, hsz, kp3.tab, fun H4 k4 => ⟨_, rfl, iteF (iteF ?_)⟩⟩
          exact dep H4 k4 rfl (by show (if carB x = true ∧ ¬ x ∈ us then _ else _) = _; rw [if_neg fun z => hx z.1])
    · rintro σ H' ⟨v4, m, S, us, c, rfl, kp, hSet, hc, hS, hie, hlog⟩
      have := q H' kp
      rw [hlog, List.length_map, Paired.length hE.evs, List.drop_length] at this
      exact this
end
end Ln


set_option Elab.async false
set_option linter.all false
set_option maxRecDepth 100000
set_option maxHeartbeats 2000000
namespace Ln
open PySem PySem.Spec PyProof.Rows L2 GxR
theorem scReqLog : FnScope ["start", "log"] ["start", "log"] (defScope sReqLog) := ⟨rfl, rfl, rfl, by decide +kernel, rfl, by decide +kernel, by decide +kernel⟩
theorem scSizes : FnScope ["start", "log", "counts", "event", "change"] ["start", "log"] (defScope sSizes) := ⟨rfl, rfl, rfl, by decide +kernel, rfl, by decide +kernel, by decide +kernel⟩
def szs : Int → List Ev → List Int
  | n, [] => [n]
  | n, .inn _ :: r => n :: szs (n + 1) r
  | n, .out :: r => n :: szs (n - 1) r
def Ev.dn : Ev → Int
  | .inn _ => 1
  | .out => -1
theorem szs_head (n : Int) (es : List Ev) : (szs n es)[0]? = some n := by
  cases es with
  | nil => rfl
  | cons e r => cases e <;> rfl
theorem szs_len : ∀ (n : Int) (es : List Ev), (szs n es).length = es.length + 1
  | _, [] => rfl
  | n, .inn _ :: r => by show (szs (n + 1) r).length + 1 = _; rw [szs_len]; rfl
  | n, .out :: r => by show (szs (n - 1) r).length + 1 = _; rw [szs_len]; rfl
theorem szs_step : ∀ (n : Int) (es : List Ev) (i : Nat) (e : Ev) (k : Int), es[i]? = some e → (szs n es)[i]? = some k → (szs n es)[i + 1]? = some (k + e.dn)
  | n, [], i, e, k, h, _ => by simp at h
  | n, .inn c :: r, 0, e, k, h, h2 => by
    have e1 := Option.some.inj h
    have e2 := Option.some.inj h2
    subst e1 e2
    show (szs (n + 1) r)[0]? = _
    rw [szs_head]
    rfl
  | n, .out :: r, 0, e, k, h, h2 => by
    have e1 := Option.some.inj h
    have e2 := Option.some.inj h2
    subst e1 e2
    show (szs (n - 1) r)[0]? = _
    rw [szs_head]
    rfl
  | n, .inn c :: r, i + 1, e, k, h, h2 => szs_step (n + 1) r i e k (by simpa using h) h2
  | n, .out :: r, i + 1, e, k, h, h2 => szs_step (n - 1) r i e k (by simpa using h) h2
def sideB (x : Str) : Bool := decide (x = "L") || decide (x = "R")
section
variable {P : Program} {w : World} {K : PySem.W.Frag} {mg : Str → Option Value} {base : Heap} {Ps : List Addr}
def spReqLog (K : PySem.W.Frag) (Ps : List Addr) : Sp := fun vs H Q _ => ∃ (a l : Addr) (xs : List Str) (as : List Addr) (es : List Ev), vs = [.ref a, .ref l] ∧ LaneAt K H a xs ∧ laneB xs = true ∧ LogAt K H l as es ∧ logB xs xs.length es = true ∧ Tabs Ps H ∧ ∀ H', Kp Ps H H' → Q .non H'
theorem ok_reqLog {f fL : Addr} {fd fdL : FuncData} (F : Fun K "require_log" "require_log" sReqLog f fd)
    (GL : FnOk P w K mg base CX0 6 fL fdL ["start", "value"] (spLog K Ps)) (mgL : mg "is_log" = some (.ref fL)) (kL : PySem.W.keepIn K (.ref fL) = true) (bL : Binds K fdL ["start", "value"] []) : FnOk P w K mg base CX0 7 f fd ["start", "log"] (spReqLog K Ps) := by
  refine F.ok scReqLog (fun vs H Q E h => ?_) (fun cdv A outer s H vs Q E hr h => ?_)
  · obtain ⟨a, l, xs, as, es, rfl, _⟩ := h
    rfl
  · obtain ⟨a, l, xs, as, es, rfl, hL, hB, hE, hB2, hT, q⟩ := h
    refine ⟨_, pss_one (ps_if (pt_not (pt_val (pe_call GL hr (by rfl) mgL kL bL .nil pass0 (pa_cons (pv 0) (pa_cons (pv 1) pa_nil))))) (pss_one ps_dead) pss_nil), ?_⟩
    refine ⟨.ref a, rfl, .ref l, rfl, a, l, xs, as, es, rfl, hL, hB, hE, hT, fun H' kp => ⟨_, rfl, ?_⟩⟩
    rw [hB2]
    exact iteF (q H' kp)
def spSide (Ps : List Addr) : Sp := fun vs H Q _ => ∃ x : Str, vs = [.str x] ∧ Tabs Ps H ∧ ∀ H', Kp Ps H H' → Q (.bl (sideB x)) H'
end
end Ln


set_option Elab.async false
set_option linter.all false
set_option maxRecDepth 100000
set_option maxHeartbeats 2000000
namespace Ln
open PySem PySem.Spec PyProof.Rows L2 GxR
section
variable {P : Program} {w : World} {K : PySem.W.Frag} {mg : Str → Option Value} {base : Heap} {Ps : List Addr}
def spReqSides (K : PySem.W.Frag) (Ps : List Addr) : Sp := fun vs H Q _ => ∃ (l m : Addr) (as : List V) (sd : List Str), vs = [.ref l, .ref m] ∧ SqL K H l as ∧ SqL K H m (sd.map V.str) ∧ sd.length = as.length ∧ sd.all sideB = true ∧ Tabs Ps H ∧ ∀ H', Kp Ps H H' → Q .non H'
def spSizes (K : PySem.W.Frag) (Ps : List Addr) : Sp := fun vs H Q _ => ∃ (a l : Addr) (xs : List Str) (as : List Addr) (es : List Ev), vs = [.ref a, .ref l] ∧ LaneAt K H a xs ∧ laneB xs = true ∧ LogAt K H l as es ∧ logB xs xs.length es = true ∧ Tabs Ps H ∧
  ∀ H' p, Kp Ps H H' → H p = none → H' p = some (.lst ((szs xs.length es).map V.int)) → Q (.ref p) H'
theorem Kp.setNew {H H1 : Hp} {u : Addr} {o : HO} (k : Kp Ps H H1) (hT : Tabs Ps H) (hu : H u = none) : Kp Ps H (L2.upd H1 u o) := k.upd hT hu
theorem ok_sizes {f fL : Addr} {fd fdL : FuncData} (F : Fun K "sizes" "sizes" sSizes f fd) (B : Bi mg)
    (GL : FnOk P w K mg base CX0 7 fL fdL ["start", "log"] (spReqLog K Ps)) (mgL : mg "require_log" = some (.ref fL)) (kL : PySem.W.keepIn K (.ref fL) = true) (bL : Binds K fdL ["start", "log"] []) : FnOk P w K mg base CX0 8 f fd ["start", "log"] (spSizes K Ps) := by
  refine F.ok scSizes (fun vs H Q E h => ?_) (fun cdv A outer s H vs Q E hr h => ?_)
  · obtain ⟨a, l, xs, as, es, rfl, _⟩ := h
    rfl
  · obtain ⟨a, l, xs, as, es, rfl, hL, hB, hE, hB2, hT, q⟩ := h
    refine ⟨_, pss_cons (ps_expr (pe_call GL hr (by rfl) mgL kL bL .nil pass0 (pa_cons (pv 0) (pa_cons (pv 1) pa_nil))))
      (pss_cons (ps_set (i := 2) scSizes.nd rfl (.inl rfl) (pe_lst (pa_cons (pe_callB call_len_seq (by rfl) B.len PySem.boot_len (pa_cons (pv 0) pa_nil)) pa_nil)))
      (pss_cons (ps_for PassesOwn.never rfl (pi_list (pv 1)) (pg_name (i := 3) scSizes.nd rfl (.inl rfl))
        (pss_cons (ps_set (i := 4) scSizes.nd rfl (.inl rfl) (pe_ifExp (pt_cmpR op_eq (pe_ix ix_tup (pv 3) pe_int (fun _ _ => rfl)) pe_str (nomark _)) pe_int (pe_un un_neg pe_int)))
        (pss_one (ps_expr (pe_bm PySem.F.plainAttrs_list PySem.F.slot_list_append PySem.F.type_list_append mt_append (pv 2) (pa_cons (pe_op op_add (pe_ix ix_list (pv 2) (pe_un un_neg pe_int) (fun _ _ => rfl)) (pv 4)) pa_nil))))))
      (pss_one (ps_ret (pv 2))))), ?_⟩
    refine ⟨.ref a, rfl, .ref l, rfl, a, l, xs, as, es, rfl, hL, hB, hE, hB2, hT, fun H1 k1 => ?_⟩
    have hL1 := hL.kp k1 hT
    have hE1 := hE.kp k1 hT
    refine ⟨.ref a, rfl, a, _, rfl, .inr hL1.at_, by show 1 ≤ sizeLine; decide, fun o ho => ?_⟩
    have hoo : H o = none := k1.free hT ho
    have k2 : Kp Ps H (L2.upd H1 o (.lst [V.int ((xs.map V.str).length : Nat)])) := k1.upd hT hoo
    have hlen := Paired.length hE.evs
    refine ⟨.ref l, rfl, l, rfl, ⟨_, (hE.kp k2 hT).at_⟩, for_list (K := K) (a := l) (xs := as.map V.ref) (fun i σ H' => ∃ v3 v4 : Option V, σ = [some (.ref a), some (.ref l), some (.ref o), v3, v4] ∧ Kp Ps H H' ∧ i ≤ es.length ∧ H' o = some (.lst (((szs xs.length es).take (i + 1)).map V.int))) ?_ ?_ ?_ ?_⟩
    · refine ⟨none, none, rfl, k2, Nat.zero_le _, ?_⟩
      rw [upd_same, List.take_add_one, szs_head, List.length_map]
      rfl
    · rintro i σ H' _ ⟨_, _, _, kp, _⟩
      exact (hE.kp kp hT).at_
    · rintro i y σ H' hi ⟨v3, v4, rfl, kp, hie, ho'⟩
      have hlt : i < es.length := by
        have h1 := (List.getElem?_eq_some_iff.mp hi).1
        rw [List.length_map] at h1
        omega
      have hev : es[i]? = some es[i] := List.getElem?_eq_getElem hlt
      obtain ⟨b, hb, hbt⟩ := pair_at (hE.kp kp hT).evs i _ hev
      have hy : y = .ref b := by
        rw [List.getElem?_map, hb] at hi
        exact (Option.some.inj hi).symm
      subst hy
      have hz : i < (szs xs.length es).length := by rw [szs_len]; omega
      have few2 := hE.few
      have hk : (szs xs.length es)[i]? = some (szs xs.length es)[i] := List.getElem?_eq_getElem hz
      have hlast : ((szs xs.length es).take (i + 1)).map V.int = ((szs xs.length es).take i).map V.int ++ [V.int (szs xs.length es)[i]] := by
        rw [List.take_add_one, hk, List.map_append]
        rfl
      have hstep := szs_step _ es i _ _ hev hk
      have fin : ∀ d : Int, d = (es[i]).dn → L2.upd H' o (.lst (((szs xs.length es).take (i + 1)).map V.int ++ [V.int ((szs xs.length es)[i] + d)])) o = some (.lst (((szs xs.length es).take (i + 1 + 1)).map V.int)) := fun d e => by
        rw [upd_same, List.take_add_one (i := i + 1), hstep, List.map_append, e]
        rfl
      have room : (((szs xs.length es).take (i + 1)).map V.int).length < sizeLine := by
        rw [List.length_map, List.length_take]
        exact Nat.lt_of_le_of_lt (Nat.min_le_left _ _) (small1000 (by omega))
      have lastAt : atI (((szs xs.length es).take (i + 1)).map V.int) (-1) = some (V.int (szs xs.length es)[i]) := by
        rw [hlast]
        exact atI_last _ _
      cases hE2 : es[i] with
      | inn c =>
        rw [hE2] at hbt
        refine ⟨.ref b, rfl, b, _, 0, .str "in", rfl, rfl, hbt, atI_nat (j := 0) rfl, rfl, _, rfl, ?_⟩
        rw [decide_eq_true (rfl : V.str "in" = V.str "in")]
        refine iteT ?_
        refine ⟨.ref o, rfl, .inl ⟨rfl, _, .inl (.inl ho')⟩, .ref o, rfl, 1, rfl, o, _, -1, _, rfl, rfl, .inl (.inl ho'), lastAt, .int 1, rfl, _, _, rfl, rfl, o, _, _, rfl, rfl, ho', room, ?_⟩
        exact ⟨some (.ref b), some (.int 1), rfl, kp.upd hT hoo, hlt, fin 1 (by rw [hE2]; rfl)⟩
      | out =>
        rw [hE2] at hbt
        refine ⟨.ref b, rfl, b, _, 0, .str "out", rfl, rfl, hbt, atI_nat (j := 0) rfl, rfl, _, rfl, ?_⟩
        rw [decide_eq_false (fun z => ne_oi (V.str.inj z))]
        refine iteF ⟨1, rfl, ?_⟩
        refine ⟨.ref o, rfl, .inl ⟨rfl, _, .inl (.inl ho')⟩, .ref o, rfl, 1, rfl, o, _, -1, _, rfl, rfl, .inl (.inl ho'), lastAt, .int (-1), rfl, _, _, rfl, rfl, o, _, _, rfl, rfl, ho', room, ?_⟩
        exact ⟨some (.ref b), some (.int (-1)), rfl, kp.upd hT hoo, hlt, fin (-1) (by rw [hE2]; rfl)⟩
    · rintro σ H' ⟨v3, v4, rfl, kp, hie, ho'⟩
      refine ⟨.ref o, rfl, q H' o kp hoo ?_⟩
      rw [ho', List.length_map, hlen, List.take_of_length_le (by rw [szs_len]; exact Nat.le_refl _)]
end
end Ln


set_option Elab.async false
set_option linter.all false
set_option maxRecDepth 100000
set_option maxHeartbeats 2000000
namespace Ln
open PySem PySem.Spec PyProof.Rows L2 GxR
theorem scNumbers : FnScope ["start", "log", "event"] ["start", "log"] (defScope sNumbers) := ⟨rfl, rfl, rfl, by decide +kernel, rfl, by decide +kernel, by decide +kernel⟩
theorem scMove : FnScope ["present", "event", "side"] ["present", "event", "side"] (defScope sMove) := ⟨rfl, rfl, rfl, by decide +kernel, rfl, by decide +kernel, by decide +kernel⟩
/-- the cars that arrive -/
def arrs : List Ev → List Str
  | [] => []
  | .inn c :: r => c :: arrs r
  | .out :: r => arrs r
theorem arrs_app : ∀ (a b : List Ev), arrs (a ++ b) = arrs a ++ arrs b
  | [], b => rfl
  | .inn c :: r, b => by show c :: arrs (r ++ b) = _; rw [arrs_app]; rfl
  | .out :: r, b => arrs_app r b
theorem arrs_len : ∀ (a : List Ev), (arrs a).length ≤ a.length
  | [] => Nat.le_refl _
  | .inn c :: r => Nat.succ_le_succ (arrs_len r)
  | .out :: r => Nat.le_succ_of_le (arrs_len r)
section
variable {P : Program} {w : World} {K : PySem.W.Frag} {mg : Str → Option Value} {base : Heap} {Ps : List Addr}
def spNumbers (K : PySem.W.Frag) (Ps : List Addr) : Sp := fun vs H Q _ => ∃ (a l : Addr) (xs : List Str) (as : List Addr) (es : List Ev), vs = [.ref a, .ref l] ∧ LaneAt K H a xs ∧ laneB xs = true ∧ LogAt K H l as es ∧ logB xs xs.length es = true ∧ Tabs Ps H ∧
  ∀ H' p, Kp Ps H H' → H p = none → H' p = some (.lst ((xs ++ arrs es).map V.str)) → Q (.ref p) H'
theorem ok_numbers {f fL : Addr} {fd fdL : FuncData} (F : Fun K "numbers" "numbers" sNumbers f fd) (B : Bi mg)
    (GL : FnOk P w K mg base CX0 7 fL fdL ["start", "log"] (spReqLog K Ps)) (mgL : mg "require_log" = some (.ref fL)) (kL : PySem.W.keepIn K (.ref fL) = true) (bL : Binds K fdL ["start", "log"] []) : FnOk P w K mg base CX0 8 f fd ["start", "log"] (spNumbers K Ps) := by
  refine F.ok scNumbers (fun vs H Q E h => ?_) (fun cdv A outer s H vs Q E hr h => ?_)
  · obtain ⟨a, l, xs, as, es, rfl, _⟩ := h
    rfl
  · obtain ⟨a, l, xs, as, es, rfl, hL, hB, hE, hB2, hT, q⟩ := h
    refine ⟨_, pss_cons (ps_expr (pe_call GL hr (by rfl) mgL kL bL .nil pass0 (pa_cons (pv 0) (pa_cons (pv 1) pa_nil))))
      (pss_one (ps_ret (pe_op op_cat (pe_callTy call_list_of (by rfl) B.lst (by decide +kernel) (pa_cons (pv 0) pa_nil))
        (pe_lc (own := [("event", 2)]) (g := gName 2) (by rfl) scNumbers.nd (pi_list (pv 1)) (blkOk_by (own := [("event", 2)]) (N := ["start", "log", "event"]) (sc := defScope sNumbers) (by decide +kernel))
          (fun _ _ _ _ _ => pg_name (i := 2) scNumbers.nd rfl (Or.inl rfl)) (fun _ _ _ _ _ => pts_one (pt_cmpR op_eq (pe_ix (r := rIxT K) ix_tup (pv 2) pe_int (fun _ _ => rfl)) pe_str (nomark _))) (fun _ _ _ _ _ => pe_ix (r := rIxT K) ix_tup (pv 2) pe_int (fun _ _ => rfl)))))), ?_⟩
    refine ⟨.ref a, rfl, .ref l, rfl, a, l, xs, as, es, rfl, hL, hB, hE, hB2, hT, fun H1 k1 => ?_⟩
    have hL1 := hL.kp k1 hT
    refine ⟨.ref a, rfl, a, _, rfl, .inr hL1.at_, fun o ho => ?_⟩
    have hoo : H o = none := k1.free hT ho
    have k2 : Kp Ps H (L2.upd H1 o (.lst (xs.map V.str))) := k1.upd hT hoo
    have hlen := Paired.length hE.evs
    refine ⟨.ref l, rfl, l, rfl, ⟨_, (hE.kp k2 hT).at_⟩, fun D hD => ?_⟩
    have hDD : H D = none := k2.free hT hD
    have hDo : D ≠ o := fun z => by
      rw [z, upd_same] at hD
      cases hD
    refine lc_list (K := K) (a := l) (xs := as.map V.ref) (fun i H' => Kp Ps H H' ∧ i ≤ es.length ∧ H' o = some (.lst (xs.map V.str)) ∧ H' D = some (.lst ((arrs (es.take i)).map V.str))) ?_ ?_ ?_ ?_
    · exact ⟨k2.upd hT hDD, Nat.zero_le _, by rw [upd_ne hDo.symm, upd_same], upd_same⟩
    · rintro i H' _ ⟨kp, _⟩
      exact (hE.kp kp hT).at_
    · rintro i y H' hi ⟨kp, hie, ho', hD'⟩
      have hlt : i < es.length := by
        have h1 := (List.getElem?_eq_some_iff.mp hi).1
        rw [List.length_map] at h1
        omega
      have hev : es[i]? = some es[i] := List.getElem?_eq_getElem hlt
      obtain ⟨b, hb, hbt⟩ := pair_at (hE.kp kp hT).evs i _ hev
      have hy : y = .ref b := by
        rw [List.getElem?_map, hb] at hi
        exact (Option.some.inj hi).symm
      subst hy
      have few2 := hE.few
      have htake : es.take (i + 1) = es.take i ++ [es[i]] := by rw [List.take_add_one, hev]; rfl
      refine ⟨rfl, ?_⟩
      cases hE2 : es[i] with
      | inn c =>
        rw [hE2] at hbt htake
        refine ⟨.ref b, rfl, b, _, 0, .str "in", rfl, rfl, hbt, atI_nat (j := 0) rfl, rfl, _, rfl, ?_⟩
        rw [decide_eq_true (rfl : V.str "in" = V.str "in")]
        refine iteT ⟨.ref b, rfl, b, _, 1, .str c, rfl, rfl, hbt, atI_nat (j := 1) rfl, _, hD', ?_, kp.upd hT hDD, hlt, ?_, ?_⟩
        · rw [List.length_map]
          refine small1000 ?_
          have := arrs_len (es.take i)
          rw [List.length_take] at this
          omega
        · rw [upd_ne hDo.symm]
          exact ho'
        · rw [upd_same, htake, arrs_app, List.map_append]
          rfl
      | out =>
        rw [hE2] at hbt htake
        refine ⟨.ref b, rfl, b, _, 0, .str "out", rfl, rfl, hbt, atI_nat (j := 0) rfl, rfl, _, rfl, ?_⟩
        rw [decide_eq_false (fun z => ne_oi (V.str.inj z))]
        refine iteF ⟨kp, hlt, ho', ?_⟩
        rw [hD', htake, arrs_app]
        show _ = some (HO.lst ((arrs (es.take i) ++ []).map V.str))
        rw [List.append_nil]
    · rintro H' ⟨kp, hie, ho', hD'⟩
      rw [List.length_map, hlen, List.take_length] at hD'
      refine ⟨o, D, _, _, rfl, rfl, ho', hD', ?_, fun p hp => ?_⟩
      · have h1 := hL.few
        have h2 := hE.few
        have h3 := arrs_len es
        rw [List.length_map, List.length_map]
        exact Nat.le_of_lt (small1000 (by omega))
      · have hpp : H p = none := kp.free hT hp
        refine q _ p (kp.upd hT hpp) hpp ?_
        rw [upd_same, List.map_append]
end
end Ln


set_option Elab.async false
set_option linter.all false
set_option maxRecDepth 100000
set_option maxHeartbeats 4000000
namespace Ln
open PySem
/-! ### what the conditions of a possible lane say, and that a replayed lane keeps them -/
/-- extra(t) from now on, x now -/
def extL (S : List Str) : Int → List Ev → List Int
  | x, [] => [x]
  | x, .inn c :: r => x :: extL S (if c ∈ S then x else x + 1) r
  | x, .out :: r => x :: extL S (x - 1) r
/-- departures until each moment, d now -/
def depL : Int → List Ev → List Int
  | d, [] => [d]
  | d, .inn _ :: r => d :: depL d r
  | d, .out :: r => d :: depL (d + 1) r
/-- how many are present at the end, n now -/
def endI : Int → List Ev → Int
  | n, [] => n
  | n, .inn _ :: r => endI (n + 1) r
  | n, .out :: r => endI (n - 1) r
def fneg (l : List Int) : Option Nat := l.findIdx? fun x => decide (x < 0)
def plcs (S : List Str) : Nat → List Str → List Nat
  | _, [] => []
  | i, c :: r => if c ∈ S then i :: plcs S (i + 1) r else plcs S (i + 1) r
def brgL : List Nat → Nat × Nat
  | [] => (0, 0)
  | a :: r => (a, (a :: r).getLast (List.cons_ne_nil a r) + 1)
abbrev brg (xs S : List Str) : Nat × Nat := brgL (plcs S 0 xs)
def cutN (xs : List Str) (p : Nat × Nat) : List Str := (xs.take p.2).drop p.1
def hasBlk (xs F : List Str) : Bool := decide (cutN xs (brg xs F) = cutN F (brg F xs))
def isPk (o : List Nat) (i : Nat) : Bool := decide (o.getD (i - 1) 0 < o.getD i 0) && decide (o.getD (i + 1) 0 < o.getD i 0)
def fpk (o : List Nat) : Option Nat := (List.range' 1 (o.length - 2)).find? (isPk o)
/-- the stayers that arrive: the car, the moment, left or right of the first ones -/
def arrSt (F : List Str) : Option Nat → Nat → List Ev → List (Str × Nat × Option Bool)
  | _, _, [] => []
  | lo, m, .out :: r => arrSt F lo (m + 1) r
  | lo, m, .inn c :: r => if c ∈ F then
      match lo with
      | none => (c, m, none) :: arrSt F (some (F.idxOf c)) (m + 1) r
      | some l => (c, m, some (decide (F.idxOf c < l))) :: arrSt F (some l) (m + 1) r
    else arrSt F lo (m + 1) r
def tooFew (nL nR g : Int) : Option Bool → Bool
  | none => false
  | some true => decide (g < nL)
  | some false => decide (g < nR)
def needL (x : Int) : Option Bool → Int
  | some false => x
  | _ => 0
def needR (x : Int) : Option Bool → Int
  | some true => x
  | _ => 0
def swF (dep ext : List Int) : Int → Int → Option Str → Nat → List (Str × Nat × Option Bool) → Option (Option Str × Str)
  | _, _, _, _, [] => none
  | nL, nR, b, s, (c, m, sd) :: r => if tooFew nL nR (dep.getD m 0 - dep.getD s 0) sd = true then some (b, c) else swF dep ext (needL (ext.getD m 0) sd) (needR (ext.getD m 0) sd) (some c) m r
inductive Why where
  | ok
  | cars
  | block
  | order (i : Nat)
  | moment (t : Nat)
  | switch (b : Option Str) (c : Str)
def stayN (xs S : List Str) : Nat := (xs.filter fun c => decide (c ∈ S)).length
abbrev ext0 (xs S : List Str) (es : List Ev) : List Int := extL S ((xs.length : Int) - stayN xs S) es
def lo0 (p : Nat × Nat) : Option Nat := if p.2 = 0 then none else some p.1
def carsOk (xs : List Str) (es : List Ev) (F : List Str) : Bool := decide ((F.length : Int) = endI xs.length es) && F.all fun c => decide (c ∈ xs ++ arrs es)
def swC (xs : List Str) (es : List Ev) (F : List Str) : Option (Option Str × Str) :=
  swF (depL 0 es) (ext0 xs F es) (brg xs F).1 ((xs.length : Int) - (brg xs F).2) none 0 (arrSt F (lo0 (brg F xs)) 1 es)
def why (xs : List Str) (es : List Ev) (F : List Str) : Why :=
  if carsOk xs es F = false then .cars else if hasBlk xs F = false then .block else
    match fpk (F.map fun c => (xs ++ arrs es).idxOf c) with
    | some i => .order i
    | none => match fneg (ext0 xs F es) with
      | some t => .moment t
      | none => match swC xs es F with
        | some (b, c) => .switch b c
        | none => .ok
/-! ### histories -/
inductive Mv : List Str → Ev → List Str → Prop
  | inL (c : Str) (L : List Str) : Mv L (.inn c) (c :: L)
  | inR (c : Str) (L : List Str) : Mv L (.inn c) (L ++ [c])
  | outL (x : Str) (L : List Str) : Mv (x :: L) .out L
  | outR (x : Str) (L : List Str) : Mv (L ++ [x]) .out L
inductive Run : List Str → List Ev → List Str → Prop
  | nil (L : List Str) : Run L [] L
  | cons {L L1 F : List Str} {e : Ev} {r : List Ev} : Mv L e L1 → Run L1 r F → Run L (e :: r) F
theorem Run.snoc {L F F' : List Str} {es : List Ev} {e : Ev} (h : Run L es F) (m : Mv F e F') : Run L (es ++ [e]) F' := by
  induction h with
  | nil L => exact .cons m (.nil _)
  | cons m1 _ ih => exact .cons m1 (ih m)
theorem Mv.rev {L L1 : List Str} {e : Ev} (m : Mv L e L1) : Mv L.reverse e L1.reverse := by
  cases m with
  | inL c L => rw [List.reverse_cons]; exact .inR c _
  | inR c L => rw [List.reverse_append]; exact .inL c _
  | outL x L => rw [List.reverse_cons]; exact .outR x _
  | outR x L => rw [List.reverse_append]; exact .outL x _
theorem Run.rev {L F : List Str} {es : List Ev} (h : Run L es F) : Run L.reverse es F.reverse := by
  induction h with
  | nil L => exact .nil _
  | cons m _ ih => exact .cons m.rev ih
theorem Mv.len {L L1 : List Str} {e : Ev} (m : Mv L e L1) : (L1.length : Int) = endI L.length [e] := by
  cases m with
  | inL c L => show ((L.length + 1 : Nat) : Int) = (L.length : Int) + 1; omega
  | inR c L => rw [List.length_append]; show ((L.length + 1 : Nat) : Int) = (L.length : Int) + 1; omega
  | outL x L => show (L1.length : Int) = ((L1.length + 1 : Nat) : Int) - 1; omega
  | outR x L => rw [List.length_append]; show (L1.length : Int) = ((L1.length + 1 : Nat) : Int) - 1; omega
theorem endI_cons (n : Int) (e : Ev) (r : List Ev) : endI n (e :: r) = endI (endI n [e]) r := by cases e <;> rfl
theorem endI_app : ∀ (n : Int) (a b : List Ev), endI n (a ++ b) = endI (endI n a) b
  | _, [], _ => rfl
  | n, e :: r, b => by
    rw [List.cons_append, endI_cons, endI_app, ← endI_cons]
theorem Run.len {L F : List Str} {es : List Ev} (h : Run L es F) : (F.length : Int) = endI L.length es := by
  induction h with
  | nil L => rfl
  | cons m _ ih => rw [ih, m.len, ← endI_cons]
theorem Mv.mem {L L1 : List Str} {e : Ev} (m : Mv L e L1) : ∀ x ∈ L1, x ∈ L ++ arrs [e] := by
  intro x hx
  cases m with
  | inL c L => exact List.mem_append.mpr ((List.mem_cons.mp hx).elim (fun e => .inr (by rw [e]; exact List.mem_cons_self)) .inl)
  | inR c L => exact hx
  | outL y L => exact List.mem_append_left _ (List.mem_cons_of_mem _ hx)
  | outR y L => exact List.mem_append_left _ (List.mem_append_left _ hx)
theorem arrs_cons (e : Ev) (r : List Ev) : arrs (e :: r) = arrs [e] ++ arrs r := by rw [← arrs_app]; rfl
theorem Run.mem {L F : List Str} {es : List Ev} (h : Run L es F) : ∀ x ∈ F, x ∈ L ++ arrs es := by
  induction h with
  | nil L => exact fun x hx => List.mem_append_left _ hx
  | cons m _ ih =>
    intro x hx
    rw [arrs_cons, ← List.append_assoc]
    rcases List.mem_append.mp (ih x hx) with h | h
    · exact List.mem_append_left _ (m.mem x h)
    · exact List.mem_append_right _ h
theorem Mv.nodup {L L1 : List Str} {e : Ev} {r : List Str} (m : Mv L e L1) (h : (L ++ (arrs [e] ++ r)).Nodup) : (L1 ++ r).Nodup := by
  cases m with
  | inL c L =>
    have : (L ++ ([c] ++ r)).Perm (c :: L ++ r) := by
      show (L ++ c :: r).Perm _
      exact List.perm_middle
    exact this.nodup_iff.mp h
  | inR c L => rw [List.append_assoc]; exact h
  | outL x L => exact (List.nodup_cons.mp h).2
  | outR x L =>
    refine h.sublist ?_
    rw [List.append_assoc]
    exact (List.Sublist.refl _).append (List.sublist_append_right _ _)
theorem Run.nodup {L F : List Str} {es : List Ev} (h : Run L es F) (hn : (L ++ arrs es).Nodup) : F.Nodup := by
  induction h with
  | nil L => exact (List.nodup_append.mp hn).1
  | cons m _ ih =>
    rw [arrs_cons] at hn
    exact ih (m.nodup hn)
/-- how a lane is made of leavers A, stayers B, leavers C; D and E are still to arrive on the left and the right -/
inductive Spl (F : List Str) : List Str → List Str → List Str → List Str → List Str → List Ev → Prop
  | nil : Spl F [] F [] [] [] []
  | mid {A C A' C' D E : List Str} {r : List Ev} : A' ++ C' = A ++ C → Spl F A [] C D E r → Spl F A' [] C' D E r
  | stL {B C D E : List Str} {r : List Ev} (c : Str) : Spl F [] (c :: B) C D E r → Spl F [] B C (D ++ [c]) E (.inn c :: r)
  | stR {A B D E : List Str} {r : List Ev} (c : Str) : Spl F A (B ++ [c]) [] D E r → Spl F A B [] D (c :: E) (.inn c :: r)
  | lvL {A B C D E : List Str} {r : List Ev} (c : Str) : c ∉ F → Spl F (c :: A) B C D E r → Spl F A B C D E (.inn c :: r)
  | lvR {A B C D E : List Str} {r : List Ev} (c : Str) : c ∉ F → Spl F A B (C ++ [c]) D E r → Spl F A B C D E (.inn c :: r)
  | outL {A B C D E : List Str} {r : List Ev} (x : Str) : Spl F A B C D E r → Spl F (x :: A) B C D E (.out :: r)
  | outR {A B C D E : List Str} {r : List Ev} (x : Str) : Spl F A B C D E r → Spl F A B (C ++ [x]) D E (.out :: r)
theorem Spl.eqF {F A B C D E : List Str} {r : List Ev} (h : Spl F A B C D E r) : F = D ++ B ++ E := by
  induction h with
  | nil => rw [List.append_nil]; rfl
  | mid _ _ ih => exact ih
  | stL c _ ih => rw [ih]; simp
  | stR c _ ih => rw [ih]; simp
  | lvL c _ _ ih => exact ih
  | lvR c _ _ ih => exact ih
  | outL x _ ih => exact ih
  | outR x _ ih => exact ih
theorem Spl.late {F A B C D E : List Str} {r : List Ev} (h : Spl F A B C D E r) : ∀ x ∈ D ++ E, x ∈ arrs r := by
  induction h with
  | nil => exact fun x hx => hx
  | mid _ _ ih => exact ih
  | stL c _ ih =>
    intro x hx
    rw [List.append_assoc] at hx
    rcases List.mem_append.mp hx with h | h
    · exact List.mem_cons_of_mem _ (ih x (List.mem_append_left _ h))
    · rcases List.mem_cons.mp h with e | h
      · rw [e]; exact List.mem_cons_self
      · exact List.mem_cons_of_mem _ (ih x (List.mem_append_right _ h))
  | stR c _ ih =>
    intro x hx
    rcases List.mem_append.mp hx with h | h
    · exact List.mem_cons_of_mem _ (ih x (List.mem_append_left _ h))
    · rcases List.mem_cons.mp h with e | h
      · rw [e]; exact List.mem_cons_self
      · exact List.mem_cons_of_mem _ (ih x (List.mem_append_right _ h))
  | lvL c _ _ ih => exact fun x hx => List.mem_cons_of_mem _ (ih x hx)
  | lvR c _ _ ih => exact fun x hx => List.mem_cons_of_mem _ (ih x hx)
  | outL x _ ih => exact ih
  | outR x _ ih => exact ih
theorem split {L F : List Str} {es : List Ev} (h : Run L es F) : (L ++ arrs es).Nodup → ∃ A B C D E, L = A ++ B ++ C ∧ Spl F A B C D E es ∧ ∀ x ∈ A ++ C, x ∉ F := by
  induction h with
  | nil L => exact fun _ => ⟨[], L, [], [], [], by simp, .nil, fun x hx => by cases hx⟩
  | @cons L L1 F e r m hr ih =>
    intro hn
    have hn0 := hn
    rw [arrs_cons] at hn
    obtain ⟨A, B, C, D, E, hL, hS, hA⟩ := ih (m.nodup hn)
    cases m with
    | inL c L =>
      match A, B, hL, hS, hA with
      | a :: A, B, hL, hS, hA =>
        have hL : c :: L = a :: (A ++ B ++ C) := hL
        obtain ⟨rfl, rfl⟩ := List.cons.inj hL
        exact ⟨A, B, C, D, E, rfl, .lvL c (hA c List.mem_cons_self) hS, fun x hx => hA x (List.mem_cons_of_mem _ hx)⟩
      | [], b :: B, hL, hS, hA =>
        have hL : c :: L = b :: (B ++ C) := hL
        obtain ⟨rfl, rfl⟩ := List.cons.inj hL
        exact ⟨[], B, C, D ++ [c], E, rfl, .stL c hS, hA⟩
      | [], [], hL, hS, hA =>
        have hL : c :: L = C := hL
        subst hL
        exact ⟨L, [], [], D, E, by simp, .lvL c (hA c List.mem_cons_self) (.mid (by simp) hS), fun x hx => hA x (List.mem_cons_of_mem _ (by simpa using hx))⟩
    | inR c L =>
      rcases List.eq_nil_or_concat C with rfl | ⟨C, a, rfl⟩
      · rcases List.eq_nil_or_concat B with rfl | ⟨B, b, rfl⟩
        · have hL : L ++ [c] = A := by simpa using hL
          subst hL
          exact ⟨[], [], L, D, E, by simp, .lvR c (hA c (by simp)) (.mid (by simp) hS), fun x hx => hA x (by simp at hx; simp [hx])⟩
        · have hL : L ++ [c] = (A ++ B) ++ [b] := by simpa [List.append_assoc] using hL
          obtain ⟨rfl, e⟩ := List.append_inj' hL rfl
          obtain rfl : c = b := by simpa using e
          refine ⟨A, B, [], D, c :: E, by simp, .stR c (by simpa using hS), hA⟩
      · have hL : L ++ [c] = (A ++ B ++ C) ++ [a] := by simpa [List.append_assoc] using hL
        obtain ⟨rfl, e⟩ := List.append_inj' hL rfl
        obtain rfl : c = a := by simpa using e
        exact ⟨A, B, C, D, E, rfl, .lvR c (hA c (by simp)) (by simpa using hS), fun x hx => hA x (by simp at hx ⊢; exact hx.elim .inl fun h => .inr (.inl h))⟩
    | outL x L =>
      have hx : x ∉ F := fun hx => by
        rcases List.mem_append.mp (hr.mem x hx) with h | h
        · have := (List.nodup_cons.mp hn).1
          exact this (List.mem_append_left _ h)
        · have := (List.nodup_cons.mp hn).1
          exact this (List.mem_append_right _ h)
      subst hL
      refine ⟨x :: A, B, C, D, E, rfl, .outL x hS, fun y hy => ?_⟩
      rcases List.mem_cons.mp hy with e | h
      · rw [e]; exact hx
      · exact hA y h
    | outR x L =>
      have hx : x ∉ F := fun hx => by
        have hd := (List.nodup_append.mp hn).2.2
        have h1 := (List.nodup_append.mp (List.nodup_append.mp hn).1).2.2
        rcases List.mem_append.mp (hr.mem x hx) with h | h
        · exact h1 x h x List.mem_cons_self rfl
        · exact hd x (List.mem_append_right _ List.mem_cons_self) x h rfl
      subst hL
      refine ⟨A, B, C ++ [x], D, E, by simp, .outR x hS, fun y hy => ?_⟩
      rw [← List.append_assoc] at hy
      rcases List.mem_append.mp hy with h | h
      · exact hA y h
      · rw [List.mem_singleton.mp h]; exact hx
end Ln


set_option Elab.async false
set_option linter.all false
set_option maxRecDepth 100000
set_option maxHeartbeats 4000000
namespace Ln
open PySem
theorem idx_mid {P S : List Str} {c : Str} (h : (P ++ c :: S).Nodup) : (P ++ c :: S).idxOf c = P.length := by
  have hc : c ∉ P := fun z => (List.nodup_append.mp h).2.2 c z c List.mem_cons_self rfl
  rw [List.idxOf_append, if_neg hc, List.idxOf_cons_self]
  omega
/-- who arrives later has the greater number -/
theorem Spl.asc {F A B C D E : List Str} {r : List Ev} (h : Spl F A B C D E r) : ∀ (P : List Str) (kn : List Str), kn = P ++ arrs r → kn.Nodup →
    D.Pairwise (fun a b => kn.idxOf b < kn.idxOf a) ∧ E.Pairwise (fun a b => kn.idxOf a < kn.idxOf b) ∧ ∀ d ∈ D ++ E, P.length ≤ kn.idxOf d := by
  induction h with
  | nil => exact fun _ _ _ _ => ⟨.nil, .nil, fun d hd => by cases hd⟩
  | mid _ _ ih => exact ih
  | @stL B C D E r c _ ih =>
    intro P kn hk hn
    have hk2 : kn = (P ++ [c]) ++ arrs r := by rw [hk]; simp [arrs]
    obtain ⟨h1, h2, h3⟩ := ih (P ++ [c]) kn hk2 hn
    have hc : kn.idxOf c = P.length := by
      have hk' : kn = P ++ c :: arrs r := hk
      rw [hk'] at hn ⊢
      exact idx_mid hn
    rw [List.length_append] at h3
    refine ⟨?_, h2, fun d hd => ?_⟩
    · refine List.pairwise_append.mpr ⟨h1, List.pairwise_singleton _ _, fun a ha b hb => ?_⟩
      rw [List.mem_singleton.mp hb, hc]
      exact h3 a (List.mem_append_left _ ha)
    · have : d = c ∨ d ∈ D ++ E := by simp at hd ⊢; rcases hd with h | h | h <;> simp [h]
      rcases this with e | h
      · rw [e, hc]; exact Nat.le_refl _
      · exact Nat.le_of_succ_le (h3 d h)
  | @stR A B D E r c _ ih =>
    intro P kn hk hn
    have hk2 : kn = (P ++ [c]) ++ arrs r := by rw [hk]; simp [arrs]
    obtain ⟨h1, h2, h3⟩ := ih (P ++ [c]) kn hk2 hn
    have hc : kn.idxOf c = P.length := by
      have hk' : kn = P ++ c :: arrs r := hk
      rw [hk'] at hn ⊢
      exact idx_mid hn
    rw [List.length_append] at h3
    refine ⟨h1, ?_, fun d hd => ?_⟩
    · refine List.pairwise_cons.mpr ⟨fun a ha => ?_, h2⟩
      rw [hc]
      exact h3 a (List.mem_append_right _ ha)
    · have : d = c ∨ d ∈ D ++ E := by simp at hd ⊢; rcases hd with h | h | h <;> simp [h]
      rcases this with e | h
      · rw [e, hc]; exact Nat.le_refl _
      · exact Nat.le_of_succ_le (h3 d h)
  | lvL c _ _ ih =>
    intro P kn hk hn
    obtain ⟨h1, h2, h3⟩ := ih (P ++ [c]) kn (by rw [hk]; simp [arrs]) hn
    rw [List.length_append] at h3
    exact ⟨h1, h2, fun d hd => Nat.le_of_succ_le (h3 d hd)⟩
  | lvR c _ _ ih =>
    intro P kn hk hn
    obtain ⟨h1, h2, h3⟩ := ih (P ++ [c]) kn (by rw [hk]; simp [arrs]) hn
    rw [List.length_append] at h3
    exact ⟨h1, h2, fun d hd => Nat.le_of_succ_le (h3 d hd)⟩
  | outL x _ ih => exact ih
  | outR x _ ih => exact ih
theorem fpk_valley {d u : List Nat} (hd : d.Pairwise (fun a b => b < a)) (hu : u.Pairwise (fun a b => a < b)) : fpk (d ++ u) = none := by
  unfold fpk
  rw [List.find?_eq_none]
  intro i hi
  rw [List.mem_range'_1] at hi
  obtain ⟨h1, h2⟩ := hi
  unfold isPk
  intro z
  rw [Bool.and_eq_true] at z
  have z1 := of_decide_eq_true z.1
  have z2 := of_decide_eq_true z.2
  have hl : i + 1 < (d ++ u).length := by omega
  rw [List.getD_eq_getElem?_getD, List.getD_eq_getElem?_getD, List.getElem?_eq_getElem (show i - 1 < (d ++ u).length by omega), List.getElem?_eq_getElem (show i < (d ++ u).length by omega)] at z1
  rw [List.getD_eq_getElem?_getD, List.getD_eq_getElem?_getD, List.getElem?_eq_getElem hl, List.getElem?_eq_getElem (show i < (d ++ u).length by omega)] at z2
  simp only [Option.getD_some] at z1 z2
  rw [List.length_append] at hl
  by_cases q : i < d.length
  · rw [List.getElem_append_left (show i - 1 < d.length by omega), List.getElem_append_left q] at z1
    have := List.pairwise_iff_getElem.mp hd (i - 1) i (by omega) q (by omega)
    omega
  · rw [List.getElem_append_right (show d.length ≤ i by omega), List.getElem_append_right (show d.length ≤ i + 1 by omega)] at z2
    have := List.pairwise_iff_getElem.mp hu (i - d.length) (i + 1 - d.length) (by omega) (by omega) (by omega)
    omega
theorem pw_map {α : Type} {R : α → α → Prop} {S : Nat → Nat → Prop} {f : α → Nat} {l : List α} (h : l.Pairwise R) (g : ∀ a b, R a b → S (f a) (f b)) : (l.map f).Pairwise S := List.pairwise_map.mpr (h.imp fun {a b} q => g a b q)
/-- the slices of the first lane ascend -/
theorem mid_asc {A B C R : List Str} (hn : (A ++ B ++ C ++ R).Nodup) : B.Pairwise (fun a b => (A ++ B ++ C ++ R).idxOf a < (A ++ B ++ C ++ R).idxOf b) ∧ ∀ b ∈ B, (A ++ B ++ C ++ R).idxOf b < (A ++ B ++ C).length := by
  have key : ∀ (i : Nat) (h : i < B.length), (A ++ B ++ C ++ R).idxOf B[i] = A.length + i := fun i h => by
    have h2 : A.length + i < (A ++ B ++ C ++ R).length := by simp; omega
    have e : (A ++ B ++ C ++ R)[A.length + i]'h2 = B[i] := by
      simp [List.getElem_append, h]
    rw [← e]
    exact hn.idxOf_getElem _ h2
  refine ⟨List.pairwise_iff_getElem.mpr fun i j hi hj hij => ?_, fun b hb => ?_⟩
  · rw [key i hi, key j hj]
    omega
  · obtain ⟨i, hi, rfl⟩ := List.mem_iff_getElem.mp hb
    rw [key i hi]
    simp
    omega
theorem Spl.fpk {F A B C D E : List Str} {es : List Ev} (h : Spl F A B C D E es) (hn : (A ++ B ++ C ++ arrs es).Nodup) : Ln.fpk (F.map fun c => (A ++ B ++ C ++ arrs es).idxOf c) = none := by
  obtain ⟨h1, h2, h3⟩ := h.asc (A ++ B ++ C) _ rfl hn
  obtain ⟨h4, h5⟩ := mid_asc hn
  generalize hkn : A ++ B ++ C ++ arrs es = kn at *
  rw [h.eqF, List.append_assoc, List.map_append]
  refine fpk_valley (pw_map h1 fun _ _ q => q) (pw_map (R := fun a b => kn.idxOf a < kn.idxOf b) ?_ fun _ _ q => q)
  exact List.pairwise_append.mpr ⟨h4, h2, fun a ha b hb => Nat.lt_of_lt_of_le (h5 a ha) (h3 b (List.mem_append_right _ hb))⟩
/-! ### moments -/
theorem Spl.ext {F A B C D E : List Str} {r : List Ev} (h : Spl F A B C D E r) : ∀ y ∈ extL F ((A.length + C.length : Nat) : Int) r, 0 ≤ y := by
  induction h with
  | nil => intro y hy; rw [List.mem_singleton.mp hy]; omega
  | @mid A C A' C' D E r e _ ih =>
    have : A'.length + C'.length = A.length + C.length := by rw [← List.length_append, e, List.length_append]
    rw [this]
    exact ih
  | @stL B C D E r c hS ih =>
    have hc : c ∈ F := by rw [hS.eqF]; simp
    intro y hy
    have hy : y ∈ ((([] : List Str).length + C.length : Nat) : Int) :: extL F (if c ∈ F then ((([] : List Str).length + C.length : Nat) : Int) else _) r := hy
    rw [if_pos hc] at hy
    rcases List.mem_cons.mp hy with e | e
    · rw [e]; omega
    · exact ih y e
  | @stR A B D E r c hS ih =>
    have hc : c ∈ F := by rw [hS.eqF]; simp
    intro y hy
    have hy : y ∈ ((A.length + ([] : List Str).length : Nat) : Int) :: extL F (if c ∈ F then ((A.length + ([] : List Str).length : Nat) : Int) else _) r := hy
    rw [if_pos hc] at hy
    rcases List.mem_cons.mp hy with e | e
    · rw [e]; omega
    · exact ih y e
  | @lvL A B C D E r c hc _ ih =>
    intro y hy
    have hy : y ∈ ((A.length + C.length : Nat) : Int) :: extL F (if c ∈ F then _ else ((A.length + C.length : Nat) : Int) + 1) r := hy
    rw [if_neg hc] at hy
    rcases List.mem_cons.mp hy with e | e
    · rw [e]; omega
    · refine ih y ?_
      rw [List.length_cons, show ((A.length + 1 + C.length : Nat) : Int) = ((A.length + C.length : Nat) : Int) + 1 by omega]
      exact e
  | @lvR A B C D E r c hc _ ih =>
    intro y hy
    have hy : y ∈ ((A.length + C.length : Nat) : Int) :: extL F (if c ∈ F then _ else ((A.length + C.length : Nat) : Int) + 1) r := hy
    rw [if_neg hc] at hy
    rcases List.mem_cons.mp hy with e | e
    · rw [e]; omega
    · refine ih y ?_
      rw [List.length_append, List.length_singleton, show ((A.length + (C.length + 1) : Nat) : Int) = ((A.length + C.length : Nat) : Int) + 1 by omega]
      exact e
  | @outL A B C D E r x _ ih =>
    intro y hy
    rcases List.mem_cons.mp hy with e | e
    · rw [e]; omega
    · refine ih y ?_
      rw [List.length_cons, show (((A.length + 1 + C.length : Nat) : Int) - 1) = ((A.length + C.length : Nat) : Int) by omega] at e
      exact e
  | @outR A B C D E r x _ ih =>
    intro y hy
    rcases List.mem_cons.mp hy with e | e
    · rw [e]; omega
    · refine ih y ?_
      rw [List.length_append, List.length_singleton, show (((A.length + (C.length + 1) : Nat) : Int) - 1) = ((A.length + C.length : Nat) : Int) by omega] at e
      exact e
/-! ### blocks -/
theorem plcs_none {S : List Str} : ∀ {xs : List Str} {i : Nat}, (∀ x ∈ xs, x ∉ S) → plcs S i xs = []
  | [], _, _ => rfl
  | c :: r, i, h => by
    show (if c ∈ S then _ else plcs S (i + 1) r) = []
    rw [if_neg (h c List.mem_cons_self)]
    exact plcs_none fun x hx => h x (List.mem_cons_of_mem _ hx)
theorem plcs_app {S : List Str} : ∀ (xs ys : List Str) (i : Nat), plcs S i (xs ++ ys) = plcs S i xs ++ plcs S (i + xs.length) ys
  | [], _, _ => rfl
  | c :: r, ys, i => by
    show (if c ∈ S then i :: plcs S (i + 1) (r ++ ys) else plcs S (i + 1) (r ++ ys)) = (if c ∈ S then i :: plcs S (i + 1) r else plcs S (i + 1) r) ++ _
    rw [plcs_app r ys (i + 1), List.length_cons, show i + (r.length + 1) = i + 1 + r.length by omega]
    split <;> rfl
theorem plcs_all {S : List Str} : ∀ {xs : List Str} {i : Nat}, (∀ x ∈ xs, x ∈ S) → plcs S i xs = List.range' i xs.length
  | [], _, _ => rfl
  | c :: r, i, h => by
    show (if c ∈ S then i :: plcs S (i + 1) r else _) = _
    rw [if_pos (h c List.mem_cons_self), plcs_all fun x hx => h x (List.mem_cons_of_mem _ hx)]
    rfl
theorem brg_mid {A B C S : List Str} (hA : ∀ x ∈ A, x ∉ S) (hB : ∀ x ∈ B, x ∈ S) (hC : ∀ x ∈ C, x ∉ S) : brg (A ++ B ++ C) S = if B = [] then (0, 0) else (A.length, A.length + B.length) := by
  unfold brg
  rw [plcs_app, plcs_app, plcs_none hA, plcs_none hC, plcs_all hB, List.append_nil, List.nil_append, Nat.zero_add]
  cases B with
  | nil => rfl
  | cons b r =>
    rw [if_neg (List.cons_ne_nil b r)]
    have e : ∀ (k n : Nat) (h : k :: List.range' (k + 1) n ≠ []), (k :: List.range' (k + 1) n).getLast h + 1 = k + (n + 1) := fun k n h => by
      have : (k :: List.range' (k + 1) n).getLast? = some (k + n) := by
        show (List.range' k (n + 1)).getLast? = _
        rw [List.range'_1_concat, List.getLast?_concat]
      rw [List.getLast?_eq_some_getLast h] at this
      rw [Option.some.inj this]
      omega
    exact Prod.ext rfl (e A.length r.length _)
theorem cut_mid (A B C : List Str) : cutN (A ++ B ++ C) (A.length, A.length + B.length) = B := by
  unfold cutN
  show ((A ++ B ++ C).take (A.length + B.length)).drop A.length = B
  rw [show A.length + B.length = (A ++ B).length by simp, List.take_left, List.drop_left]
theorem cut_zero (L : List Str) : cutN L (0, 0) = [] := rfl
theorem Spl.blk {F A B C D E : List Str} {es : List Ev} (h : Spl F A B C D E es) (hn : (A ++ B ++ C ++ arrs es).Nodup) (hA : ∀ x ∈ A ++ C, x ∉ F) :
    brg (A ++ B ++ C) F = (if B = [] then (0, 0) else (A.length, A.length + B.length)) ∧ brg F (A ++ B ++ C) = (if B = [] then (0, 0) else (D.length, D.length + B.length)) := by
  have hl : ∀ x ∈ D ++ E, x ∉ A ++ B ++ C := fun x hx z => (List.nodup_append.mp hn).2.2 x z x (h.late x hx) rfl
  constructor
  · refine brg_mid (fun x hx => hA x (List.mem_append_left _ hx)) (fun x hx => ?_) fun x hx => hA x (List.mem_append_right _ hx)
    rw [h.eqF]
    simp [hx]
  · have := brg_mid (A := D) (B := B) (C := E) (S := A ++ B ++ C) (fun x hx => hl x (List.mem_append_left _ hx)) (fun x hx => by simp [hx]) (fun x hx => hl x (List.mem_append_right _ hx))
    rw [← h.eqF] at this
    exact this
/-! ### switches -/
def swG (F : List Str) : Option Nat → Int → Int → Int → Option Str → List Ev → Option (Option Str × Str)
  | _, _, _, _, _, [] => none
  | lo, nL, nR, x, b, .out :: r => swG F lo (nL - 1) (nR - 1) (x - 1) b r
  | lo, nL, nR, x, b, .inn c :: r => if c ∈ F then
      match lo with
      | none => swG F (some (F.idxOf c)) 0 0 x (some c) r
      | some l => if F.idxOf c < l then (if 0 < nL then some (b, c) else swG F (some l) 0 x x (some c) r) else (if 0 < nR then some (b, c) else swG F (some l) x 0 x (some c) r)
    else swG F lo nL nR (x + 1) b r
theorem swF_G {F : List Str} {dep ext : List Int} : ∀ (r : List Ev) (lo : Option Nat) (nL nR : Int) (b : Option Str) (s k : Nat) (d x : Int), dep.drop k = depL d r → ext.drop k = extL F x r →
    swF dep ext nL nR b s (arrSt F lo (k + 1) r) = swG F lo (nL - (d - dep.getD s 0)) (nR - (d - dep.getD s 0)) x b r
  | [], _, _, _, _, _, _, _, _, _, _ => rfl
  | .out :: r, lo, nL, nR, b, s, k, d, x, h1, h2 => by
    have h1' : dep.drop (k + 1) = depL (d + 1) r := by rw [← List.drop_drop, h1]; rfl
    have h2' : ext.drop (k + 1) = extL F (x - 1) r := by rw [← List.drop_drop, h2]; rfl
    show swF dep ext nL nR b s (arrSt F lo (k + 1 + 1) r) = swG F lo _ _ (x - 1) b r
    rw [swF_G r lo nL nR b s (k + 1) (d + 1) (x - 1) h1' h2']
    congr 1 <;> omega
  | .inn c :: r, lo, nL, nR, b, s, k, d, x, h1, h2 => by
    have h1' : dep.drop (k + 1) = depL d r := by rw [← List.drop_drop, h1]; rfl
    have hd : dep.getD (k + 1) 0 = d := by
      have : (dep.drop (k + 1))[0]? = some d := by rw [h1']; cases r with | nil => rfl | cons e r => cases e <;> rfl
      rw [List.getElem?_drop] at this
      rw [List.getD_eq_getElem?_getD, show k + 1 = k + 1 + 0 from rfl, this]
      rfl
    by_cases hc : c ∈ F
    · have h2' : ext.drop (k + 1) = extL F x r := by
        rw [← List.drop_drop, h2]
        show extL F (if c ∈ F then x else x + 1) r = _
        rw [if_pos hc]
      have hx : ext.getD (k + 1) 0 = x := by
        have : (ext.drop (k + 1))[0]? = some x := by rw [h2']; cases r with | nil => rfl | cons e r => cases e <;> rfl
        rw [List.getElem?_drop] at this
        rw [List.getD_eq_getElem?_getD, show k + 1 = k + 1 + 0 from rfl, this]
        rfl
      cases lo with
      | none =>
        show swF dep ext nL nR b s (if c ∈ F then (c, k + 1, none) :: arrSt F (some (F.idxOf c)) (k + 1 + 1) r else _) = (if c ∈ F then swG F (some (F.idxOf c)) 0 0 x (some c) r else _)
        rw [if_pos hc, if_pos hc]
        show (if false = true then _ else swF dep ext 0 0 (some c) (k + 1) (arrSt F (some (F.idxOf c)) (k + 1 + 1) r)) = _
        rw [if_neg Bool.false_ne_true, swF_G r _ 0 0 (some c) (k + 1) (k + 1) d x h1' h2', hd]
        congr 1 <;> omega
      | some l =>
        show swF dep ext nL nR b s (if c ∈ F then (c, k + 1, some (decide (F.idxOf c < l))) :: arrSt F (some l) (k + 1 + 1) r else _) = (if c ∈ F then (if F.idxOf c < l then (if 0 < nL - (d - dep.getD s 0) then some (b, c) else swG F (some l) 0 x x (some c) r) else (if 0 < nR - (d - dep.getD s 0) then some (b, c) else swG F (some l) x 0 x (some c) r)) else _)
        rw [if_pos hc, if_pos hc]
        by_cases hl : F.idxOf c < l
        · rw [decide_eq_true hl, if_pos hl]
          show (if decide (dep.getD (k + 1) 0 - dep.getD s 0 < nL) = true then some (b, c) else swF dep ext 0 (ext.getD (k + 1) 0) (some c) (k + 1) (arrSt F (some l) (k + 1 + 1) r)) = _
          rw [hd, hx]
          by_cases q : d - dep.getD s 0 < nL
          · rw [if_pos (decide_eq_true q), if_pos (by omega)]
          · rw [if_neg (by simpa using q), if_neg (by omega), swF_G r _ 0 x (some c) (k + 1) (k + 1) d x h1' h2', hd]
            congr 1 <;> omega
        · rw [decide_eq_false hl, if_neg hl]
          show (if decide (dep.getD (k + 1) 0 - dep.getD s 0 < nR) = true then some (b, c) else swF dep ext (ext.getD (k + 1) 0) 0 (some c) (k + 1) (arrSt F (some l) (k + 1 + 1) r)) = _
          rw [hd, hx]
          by_cases q : d - dep.getD s 0 < nR
          · rw [if_pos (decide_eq_true q), if_pos (by omega)]
          · rw [if_neg (by simpa using q), if_neg (by omega), swF_G r _ x 0 (some c) (k + 1) (k + 1) d x h1' h2', hd]
            congr 1 <;> omega
    · have h2' : ext.drop (k + 1) = extL F (x + 1) r := by
        rw [← List.drop_drop, h2]
        show extL F (if c ∈ F then x else x + 1) r = _
        rw [if_neg hc]
      have e1 : arrSt F lo (k + 1) (.inn c :: r) = arrSt F lo (k + 1 + 1) r := by
        show (if c ∈ F then _ else _) = _
        rw [if_neg hc]
      have e2 : ∀ n1 n2, swG F lo n1 n2 x b (.inn c :: r) = swG F lo n1 n2 (x + 1) b r := fun n1 n2 => by
        show (if c ∈ F then _ else _) = _
        rw [if_neg hc]
      rw [e1, e2]
      exact swF_G r lo nL nR b s (k + 1) d (x + 1) h1' h2'
/-- what is needed at each end is there -/
def Rdy (A B C D : List Str) (nL nR : Int) : Option Nat → Prop
  | none => B = []
  | some l => B ≠ [] ∧ D.length ≤ l ∧ l ≤ D.length + B.length ∧ nL ≤ A.length ∧ nR ≤ C.length
theorem Spl.sw {F A B C D E : List Str} {r : List Ev} (h : Spl F A B C D E r) (hn : F.Nodup) : ∀ (lo : Option Nat) (nL nR : Int) (b : Option Str), Rdy A B C D nL nR lo → swG F lo nL nR ((A.length + C.length : Nat) : Int) b r = none := by
  induction h with
  | nil => exact fun _ _ _ _ _ => rfl
  | @mid A C A' C' D E r e _ ih =>
    intro lo nL nR b hr
    have : A'.length + C'.length = A.length + C.length := by rw [← List.length_append, e, List.length_append]
    rw [this]
    cases lo with
    | none => exact ih none nL nR b rfl
    | some l => exact absurd rfl hr.1
  | @stL B C D E r c hS ih =>
    intro lo nL nR b hr
    have e : F = D ++ c :: (B ++ E) := by rw [hS.eqF]; simp
    have hc : c ∈ F := by rw [e]; simp
    have hi : F.idxOf c = D.length := by rw [e] at hn ⊢; exact idx_mid hn
    cases lo with
    | none =>
      show (if c ∈ F then swG F (some (F.idxOf c)) 0 0 _ (some c) r else _) = none
      rw [if_pos hc, hi]
      refine ih _ 0 0 (some c) ⟨List.cons_ne_nil _ _, Nat.le_refl _, Nat.le_add_right _ _, by simp, by omega⟩
    | some l =>
      obtain ⟨hB, h1, h2, h3, h4⟩ := hr
      rw [List.length_append, List.length_singleton] at h1 h2
      show (if c ∈ F then (if F.idxOf c < l then (if 0 < nL then some (b, c) else swG F (some l) 0 _ _ (some c) r) else _) else _) = none
      rw [if_pos hc, hi, if_pos (by omega), if_neg (by rw [List.length_nil] at h3; omega)]
      refine ih _ 0 _ (some c) ⟨List.cons_ne_nil _ _, by omega, by rw [List.length_cons]; omega, by simp, by rw [List.length_nil]; omega⟩
  | @stR A B D E r c hS ih =>
    intro lo nL nR b hr
    have e : F = (D ++ B) ++ c :: E := by rw [hS.eqF]; simp
    have hc : c ∈ F := by rw [e]; simp
    have hi : F.idxOf c = D.length + B.length := by
      rw [e] at hn ⊢
      rw [idx_mid hn, List.length_append]
    have hl : (B ++ [c]).length = B.length + 1 := by rw [List.length_append]; rfl
    cases lo with
    | none =>
      show (if c ∈ F then swG F (some (F.idxOf c)) 0 0 _ (some c) r else _) = none
      rw [if_pos hc, hi]
      refine ih _ 0 0 (some c) ⟨by simp, by omega, by omega, by omega, by simp⟩
    | some l =>
      obtain ⟨hB, h1, h2, h3, h4⟩ := hr
      show (if c ∈ F then (if F.idxOf c < l then _ else (if 0 < nR then some (b, c) else swG F (some l) _ 0 _ (some c) r)) else _) = none
      rw [if_pos hc, hi, if_neg (by omega), if_neg (by rw [List.length_nil] at h4; omega)]
      refine ih _ _ 0 (some c) ⟨by simp, by omega, by omega, by rw [List.length_nil]; omega, by simp⟩
  | @lvL A B C D E r c hc _ ih =>
    intro lo nL nR b hr
    show (if c ∈ F then _ else swG F lo nL nR (((A.length + C.length : Nat) : Int) + 1) b r) = none
    rw [if_neg hc, show ((A.length + C.length : Nat) : Int) + 1 = (((c :: A).length + C.length : Nat) : Int) by rw [List.length_cons]; omega]
    refine ih lo nL nR b ?_
    cases lo with
    | none => exact hr
    | some l => exact ⟨hr.1, hr.2.1, hr.2.2.1, by rw [List.length_cons]; have := hr.2.2.2.1; omega, hr.2.2.2.2⟩
  | @lvR A B C D E r c hc _ ih =>
    intro lo nL nR b hr
    show (if c ∈ F then _ else swG F lo nL nR (((A.length + C.length : Nat) : Int) + 1) b r) = none
    rw [if_neg hc, show ((A.length + C.length : Nat) : Int) + 1 = ((A.length + (C ++ [c]).length : Nat) : Int) by rw [List.length_append, List.length_singleton]; omega]
    refine ih lo nL nR b ?_
    cases lo with
    | none => exact hr
    | some l => exact ⟨hr.1, hr.2.1, hr.2.2.1, hr.2.2.2.1, by rw [List.length_append, List.length_singleton]; have := hr.2.2.2.2; omega⟩
  | @outL A B C D E r x _ ih =>
    intro lo nL nR b hr
    show swG F lo (nL - 1) (nR - 1) ((((x :: A).length + C.length : Nat) : Int) - 1) b r = none
    rw [show (((x :: A).length + C.length : Nat) : Int) - 1 = ((A.length + C.length : Nat) : Int) by rw [List.length_cons]; omega]
    refine ih lo _ _ b ?_
    cases lo with
    | none => exact hr
    | some l =>
      obtain ⟨h0, h1, h2, h3, h4⟩ := hr
      rw [List.length_cons] at h3
      exact ⟨h0, h1, h2, by omega, by omega⟩
  | @outR A B C D E r x _ ih =>
    intro lo nL nR b hr
    show swG F lo (nL - 1) (nR - 1) (((A.length + (C ++ [x]).length : Nat) : Int) - 1) b r = none
    rw [show ((A.length + (C ++ [x]).length : Nat) : Int) - 1 = ((A.length + C.length : Nat) : Int) by rw [List.length_append, List.length_singleton]; omega]
    refine ih lo _ _ b ?_
    cases lo with
    | none => exact hr
    | some l =>
      obtain ⟨h0, h1, h2, h3, h4⟩ := hr
      rw [List.length_append, List.length_singleton] at h4
      exact ⟨h0, h1, h2, by omega, by omega⟩
/-! ### a replayed lane -/
theorem filt_mid {A B C S : List Str} (hA : ∀ x ∈ A, x ∉ S) (hB : ∀ x ∈ B, x ∈ S) (hC : ∀ x ∈ C, x ∉ S) : stayN (A ++ B ++ C) S = B.length := by
  unfold stayN
  have e1 : A.filter (fun c => decide (c ∈ S)) = [] := List.filter_eq_nil_iff.mpr fun x hx => by simpa using hA x hx
  have e2 : C.filter (fun c => decide (c ∈ S)) = [] := List.filter_eq_nil_iff.mpr fun x hx => by simpa using hC x hx
  have e3 : B.filter (fun c => decide (c ∈ S)) = B := List.filter_eq_self.mpr fun x hx => by simpa using hB x hx
  rw [List.filter_append, List.filter_append, e1, e2, e3]
  simp
theorem why_run {xs F : List Str} {es : List Ev} (h : Run xs es F) (hn : (xs ++ arrs es).Nodup) : why xs es F = .ok := by
  have hF := h.nodup hn
  have hmem := h.mem
  have hlen := h.len
  obtain ⟨A, B, C, D, E, rfl, hS, hA⟩ := split h hn
  obtain ⟨b1, b2⟩ := hS.blk hn hA
  have hB : ∀ x ∈ B, x ∈ F := fun x hx => by rw [hS.eqF]; simp [hx]
  have hst : stayN (A ++ B ++ C) F = B.length := filt_mid (fun x hx => hA x (List.mem_append_left _ hx)) hB fun x hx => hA x (List.mem_append_right _ hx)
  have hx0 : (((A ++ B ++ C).length : Nat) : Int) - stayN (A ++ B ++ C) F = ((A.length + C.length : Nat) : Int) := by
    rw [hst, List.length_append, List.length_append]
    omega
  unfold why
  rw [if_neg (by
    have : carsOk (A ++ B ++ C) es F = true := by
      unfold carsOk
      rw [Bool.and_eq_true]
      exact ⟨decide_eq_true hlen, List.all_eq_true.mpr fun x hx => decide_eq_true (hmem x hx)⟩
    rw [this]
    decide)]
  rw [if_neg (by
    have : hasBlk (A ++ B ++ C) F = true := by
      unfold hasBlk
      refine decide_eq_true ?_
      rw [b1, b2]
      by_cases q : B = []
      · rw [if_pos q, if_pos q]
        rfl
      · rw [if_neg q, if_neg q, cut_mid]
        have := cut_mid D B E
        rw [← hS.eqF] at this
        exact this.symm
    rw [this]
    decide)]
  rw [hS.fpk hn]
  have hneg : fneg (ext0 (A ++ B ++ C) F es) = none := by
    unfold fneg ext0
    rw [hx0, List.findIdx?_eq_none_iff]
    intro y hy
    have := hS.ext y hy
    exact decide_eq_false (by omega)
  have hsw : swC (A ++ B ++ C) es F = none := by
    unfold swC ext0
    rw [hx0]
    have := swF_G (F := F) (dep := depL 0 es) (ext := extL F ((A.length + C.length : Nat) : Int) es) es (lo0 (brg F (A ++ B ++ C))) (brg (A ++ B ++ C) F).1 ((((A ++ B ++ C).length : Nat) : Int) - (brg (A ++ B ++ C) F).2) none 0 0 0 ((A.length + C.length : Nat) : Int) rfl rfl
    rw [Nat.zero_add] at this
    rw [this]
    have hd0 : (depL 0 es).getD 0 0 = 0 := by cases es with | nil => rfl | cons e r => cases e <;> rfl
    rw [hd0]
    refine hS.sw hF _ _ _ _ ?_
    rw [b1, b2]
    by_cases q : B = []
    · rw [if_pos q, if_pos q]
      exact q
    · rw [if_neg q, if_neg q]
      have hp : 0 < B.length := List.length_pos_iff.mpr q
      unfold lo0
      rw [if_neg (show ¬ D.length + B.length = 0 by omega)]
      refine ⟨q, Nat.le_refl _, Nat.le_add_right _ _, by simp, ?_⟩
      rw [List.length_append, List.length_append]
      show (((A.length + B.length + C.length : Nat) : Int) - ((A.length + B.length : Nat) : Int)) - (0 - 0) ≤ _
      omega
  show (match fneg (ext0 (A ++ B ++ C) F es) with | some t => Why.moment t | none => match swC (A ++ B ++ C) es F with | some (b, c) => .switch b c | none => .ok) = .ok
  rw [hneg, hsw]
theorem why_size {xs F : List Str} {es : List Ev} (h : (F.length : Int) ≠ endI xs.length es) : why xs es F = .cars := by
  unfold why
  rw [if_pos]
  unfold carsOk
  rw [decide_eq_false h]
  rfl
end Ln


set_option Elab.async false
set_option linter.all false
set_option maxRecDepth 100000
set_option maxHeartbeats 4000000
namespace Ln
open PySem
/-! ### the conditions are enough: the rule of [16] gives the lane -/
/-- a lane after one event, at the left end or the right -/
def mvB (L : List Str) (e : Ev) (left : Bool) : List Str := match e with
  | .inn c => if left = true then c :: L else L ++ [c]
  | .out => if left = true then L.drop 1 else L.take (L.length - 1)
/-- the side of the next stayer, true for the left one -/
def nxW (F : List Str) : Option Nat → List Ev → Bool
  | _, [] => true
  | lo, .out :: r => nxW F lo r
  | lo, .inn c :: r => if c ∈ F then
      match lo with
      | none => nxW F (some (F.idxOf c)) r
      | some l => decide (F.idxOf c < l)
    else nxW F lo r
def loN (F : List Str) (lo : Option Nat) : Ev → Option Nat
  | .out => lo
  | .inn c => if c ∈ F then (match lo with | none => some (F.idxOf c) | some l => some l) else lo
/-- the side of an event, s the side of the next stayer -/
def gSide (F : List Str) (s : Bool) (L : List Str) : Ev → Bool
  | .inn c => decide (c ∈ F) == s
  | .out => if s = true then !decide (∃ y ∈ L.head?, y ∈ F) else decide (∃ y ∈ L.getLast?, y ∈ F)
def gRun (F : List Str) : Option Nat → List Str → List Ev → List Str
  | _, L, [] => L
  | lo, L, e :: r => gRun F (loN F lo e) (mvB L e (gSide F (nxW F lo (e :: r)) L e)) r
theorem mvB_in {L : List Str} {c : Str} {left : Bool} : Mv L (.inn c) (mvB L (.inn c) left) := by
  cases left with
  | true => exact .inL c L
  | false => exact .inR c L
theorem take_dropLast (L : List Str) : L.take (L.length - 1) = L.dropLast := (List.dropLast_eq_take).symm
theorem mvB_out {L : List Str} {left : Bool} (h : L ≠ []) : Mv L .out (mvB L .out left) := by
  cases left with
  | true =>
    cases L with
    | nil => exact absurd rfl h
    | cons x r => exact .outL x r
  | false =>
    show Mv L .out (L.take (L.length - 1))
    rw [take_dropLast]
    have e := (List.dropLast_concat_getLast h).symm
    generalize L.dropLast = r at e ⊢
    rw [e]
    exact .outR _ r
/-- the first of those that arrive is the last of a falling row -/
theorem last_of {f : Str → Nat} {c : Str} : ∀ {D : List Str}, D.Pairwise (fun a b => f b < f a) → c ∈ D → (∀ d ∈ D, f c ≤ f d) → ∃ D0, D = D0 ++ [c]
  | [], _, h, _ => by cases h
  | [d], _, h, _ => ⟨[], by rw [List.mem_singleton.mp h]; rfl⟩
  | d :: e :: r, hp, h, hm => by
    have hp' := List.pairwise_cons.mp hp
    have hne : c ≠ d := fun z => by
      have h1 := hp'.1 e List.mem_cons_self
      have h2 := hm e (List.mem_cons_of_mem _ List.mem_cons_self)
      rw [z] at h2
      omega
    have hc : c ∈ e :: r := (List.mem_cons.mp h).elim (fun z => absurd z hne) id
    obtain ⟨D0, h0⟩ := last_of hp'.2 hc fun x hx => hm x (List.mem_cons_of_mem _ hx)
    exact ⟨d :: D0, by rw [h0]; rfl⟩
theorem first_of {f : Str → Nat} {c : Str} : ∀ {E : List Str}, E.Pairwise (fun a b => f a < f b) → c ∈ E → (∀ d ∈ E, f c ≤ f d) → ∃ E0, E = c :: E0
  | [], _, h, _ => by cases h
  | d :: r, hp, h, hm => by
    rcases List.mem_cons.mp h with e | h
    · exact ⟨r, by rw [e]⟩
    · have h1 := (List.pairwise_cons.mp hp).1 c h
      have h2 := hm d List.mem_cons_self
      omega
/-- what is still to come fits the lane -/
structure Fit (F D B E : List Str) (kn P : List Str) (r : List Ev) : Prop where
  eq : F = D ++ B ++ E
  nd : F.Nodup
  ek : kn = P ++ arrs r
  knd : kn.Nodup
  dn : D.Pairwise (fun a b => kn.idxOf b < kn.idxOf a)
  up : E.Pairwise (fun a b => kn.idxOf a < kn.idxOf b)
  late : ∀ y ∈ D ++ E, y ∈ arrs r
  all : ∀ c ∈ arrs r, c ∈ F → c ∈ D ++ E
theorem idx_ge {P S : List Str} {y : Str} (hn : (P ++ S).Nodup) (h : y ∈ S) : P.length ≤ (P ++ S).idxOf y := by
  have hc : y ∉ P := fun z => (List.nodup_append.mp hn).2.2 y z y h rfl
  rw [List.idxOf_append, if_neg hc]
  omega
section
variable {F A B C D E kn P : List Str} {r : List Ev} {c : Str}
theorem Fit.out (h : Fit F D B E kn P (.out :: r)) : Fit F D B E kn P r := ⟨h.eq, h.nd, h.ek, h.knd, h.dn, h.up, h.late, h.all⟩
theorem Fit.pass (h : Fit F D B E kn P (.inn c :: r)) (hc : c ∉ F) : Fit F D B E kn (P ++ [c]) r := by
  refine ⟨h.eq, h.nd, by rw [h.ek]; simp [arrs], h.knd, h.dn, h.up, fun y hy => ?_, fun y hy hf => h.all y (List.mem_cons_of_mem _ hy) hf⟩
  rcases List.mem_cons.mp (h.late y hy) with e | e
  · refine absurd ?_ hc
    rw [← e, h.eq]
    rcases List.mem_append.mp hy with z | z
    · simp [z]
    · simp [z]
  · exact e
theorem Fit.min (h : Fit F D B E kn P (.inn c :: r)) : ∀ d ∈ D ++ E, kn.idxOf c ≤ kn.idxOf d := fun d hd => by
  have hk : kn = P ++ c :: arrs r := h.ek
  have hn : (P ++ c :: arrs r).Nodup := hk ▸ h.knd
  have h1 : kn.idxOf c = P.length := by rw [hk]; exact idx_mid hn
  have h2 : P.length ≤ kn.idxOf d := by
    rw [hk]
    exact idx_ge hn (h.late d hd)
  omega
/-- the next stayer comes to the one side or the other -/
theorem Fit.stay (h : Fit F D B E kn P (.inn c :: r)) (hc : c ∈ F) : (∃ D0, D = D0 ++ [c] ∧ Fit F D0 (c :: B) E kn (P ++ [c]) r) ∨ (∃ E0, E = c :: E0 ∧ Fit F D (B ++ [c]) E0 kn (P ++ [c]) r) := by
  have hin := h.all c List.mem_cons_self hc
  have hk2 : kn = (P ++ [c]) ++ arrs r := by rw [h.ek]; simp [arrs]
  have hcr : c ∉ arrs r := fun z => by
    have hn : (P ++ c :: arrs r).Nodup := (show kn = P ++ c :: arrs r from h.ek) ▸ h.knd
    exact (List.nodup_cons.mp (List.nodup_append.mp hn).2.1).1 z
  have hFn := h.nd
  rcases List.mem_append.mp hin with hd | he
  · obtain ⟨D0, rfl⟩ := last_of h.dn hd fun d hd => h.min d (List.mem_append_left _ hd)
    refine .inl ⟨D0, rfl, by rw [h.eq]; simp, h.nd, hk2, h.knd, (List.pairwise_append.mp h.dn).1, h.up, fun y hy => ?_, fun y hy hf => ?_⟩
    · have hyc : y ≠ c := fun z => by
        have e : F = D0 ++ c :: (B ++ E) := by rw [h.eq]; simp
        rw [e] at hFn
        have := (List.nodup_cons.mp (List.perm_middle.nodup_iff.mp hFn)).1
        refine this ?_
        rw [← z]
        rcases List.mem_append.mp hy with q | q
        · simp [q]
        · simp [q]
      have : y ∈ D0 ++ [c] ++ E := by
        rcases List.mem_append.mp hy with z | z
        · simp [z]
        · simp [z]
      exact (List.mem_cons.mp (h.late y this)).elim (fun z => absurd z hyc) id
    · have := h.all y (List.mem_cons_of_mem _ hy) hf
      have hyc : y ≠ c := fun z => hcr (z ▸ hy)
      simp at this ⊢
      rcases this with z | z | z
      · exact .inl z
      · exact absurd z hyc
      · exact .inr z
  · obtain ⟨E0, rfl⟩ := first_of h.up he fun d hd => h.min d (List.mem_append_right _ hd)
    refine .inr ⟨E0, rfl, by rw [h.eq]; simp, h.nd, hk2, h.knd, h.dn, (List.pairwise_cons.mp h.up).2, fun y hy => ?_, fun y hy hf => ?_⟩
    · have hyc : y ≠ c := fun z => by
        have e : F = (D ++ B) ++ c :: E0 := by rw [h.eq]
        rw [e] at hFn
        have := (List.nodup_cons.mp (List.perm_middle.nodup_iff.mp hFn)).1
        refine this ?_
        rw [← z]
        rcases List.mem_append.mp hy with q | q
        · simp [q]
        · simp [q]
      have : y ∈ D ++ c :: E0 := by
        rcases List.mem_append.mp hy with z | z
        · simp [z]
        · simp [z]
      exact (List.mem_cons.mp (h.late y this)).elim (fun z => absurd z hyc) id
    · have := h.all y (List.mem_cons_of_mem _ hy) hf
      have hyc : y ≠ c := fun z => hcr (z ▸ hy)
      simp at this ⊢
      rcases this with z | z | z
      · exact .inl z
      · exact absurd z hyc
      · exact .inr z
end
end Ln


set_option Elab.async false
set_option linter.all false
set_option maxRecDepth 100000
set_option maxHeartbeats 4000000
namespace Ln
open PySem
theorem ext_head {F : List Str} {x : Int} {r : List Ev} (h : ∀ y ∈ extL F x r, 0 ≤ y) : 0 ≤ x := by
  cases r with
  | nil => exact h x List.mem_cons_self
  | cons e r => cases e <;> exact h x List.mem_cons_self
theorem run_one {F : List Str} {lo : Option Nat} {L : List Str} {e : Ev} {r : List Ev} (m : Mv L e (mvB L e (gSide F (nxW F lo (e :: r)) L e))) (h : Run (mvB L e (gSide F (nxW F lo (e :: r)) L e)) r (gRun F (loN F lo e) (mvB L e (gSide F (nxW F lo (e :: r)) L e)) r)) : Run L (e :: r) (gRun F lo L (e :: r)) := .cons m h
theorem drop_left {A : List Str} {x : Str} : (x :: A).drop 1 = A := rfl
theorem take_right {A : List Str} {x : Str} : (A ++ [x]).take ((A ++ [x]).length - 1) = A := by rw [take_dropLast, List.dropLast_concat]
/-- at the end the lane is all that was to be -/
theorem Fit.last {F A B C D E kn P : List Str} (h : Fit F D B E kn P []) (hsz : ((A ++ B ++ C).length : Int) = F.length) : A ++ B ++ C = F := by
  have hDE : D ++ E = [] := by
    cases hx : D ++ E with
    | nil => rfl
    | cons y r =>
      have := h.late y (by rw [hx]; exact List.mem_cons_self)
      cases this
  obtain ⟨rfl, rfl⟩ := List.append_eq_nil_iff.mp hDE
  have hF : F = B := by rw [h.eq]; simp
  rw [hF] at hsz
  rw [List.length_append, List.length_append] at hsz
  have hA : A = [] := List.eq_nil_of_length_eq_zero (by omega)
  have hC : C = [] := List.eq_nil_of_length_eq_zero (by omega)
  rw [hA, hC, hF]
  simp
/-- with a stayer in the lane -/
theorem grd_some {F : List Str} : ∀ (r : List Ev) (A B C D E kn P : List Str) (l : Nat) (nL nR : Int) (b : Option Str), Fit F D B E kn P r → B ≠ [] → D.length ≤ l → l ≤ D.length + B.length → (∀ y ∈ A ++ C, y ∉ F) →
    (∀ y ∈ extL F ((A.length + C.length : Nat) : Int) r, 0 ≤ y) → swG F (some l) nL nR ((A.length + C.length : Nat) : Int) b r = none → (nxW F (some l) r = true → (A.length : Int) ≤ max 0 nL) → (nxW F (some l) r = false → (C.length : Int) ≤ max 0 nR) →
    endI ((A ++ B ++ C).length : Int) r = F.length → gRun F (some l) (A ++ B ++ C) r = F ∧ Run (A ++ B ++ C) r F
  | [], A, B, C, D, E, kn, P, l, nL, nR, b, hf, hB, h1, h2, hA, hx, hs, hl, hr, hsz => by
    have e := hf.last hsz
    show A ++ B ++ C = F ∧ Run (A ++ B ++ C) [] F
    exact ⟨e, by rw [e]; exact .nil _⟩
  | .out :: r, A, B, C, D, E, kn, P, l, nL, nR, b, hf, hB, h1, h2, hA, hx, hs, hl, hr, hsz => by
    have hx1 : ∀ y ∈ extL F (((A.length + C.length : Nat) : Int) - 1) r, 0 ≤ y := fun y hy => hx y (List.mem_cons_of_mem _ hy)
    have hpos := ext_head hx1
    have hw : nxW F (some l) (.out :: r) = nxW F (some l) r := rfl
    rw [hw] at hl hr
    have hs : swG F (some l) (nL - 1) (nR - 1) (((A.length + C.length : Nat) : Int) - 1) b r = none := hs
    -- a leaver at the left end goes
    have goL : ∀ (x : Str) (A' : List Str), A = x :: A' → gSide F (nxW F (some l) r) (A ++ B ++ C) .out = true → gRun F (some l) (A ++ B ++ C) (.out :: r) = F ∧ Run (A ++ B ++ C) (.out :: r) F := fun x A' e hg => by
      subst e
      have e1 : mvB (x :: A' ++ B ++ C) .out true = A' ++ B ++ C := rfl
      have e0 : (((x :: A').length + C.length : Nat) : Int) - 1 = ((A'.length + C.length : Nat) : Int) := by rw [List.length_cons]; omega
      rw [e0] at hx1 hs
      have ih := grd_some r A' B C D E kn P l (nL - 1) (nR - 1) b hf.out hB h1 h2 (fun y hy => hA y (List.mem_cons_of_mem _ hy)) hx1 hs (fun z => by have := hl z; rw [List.length_cons] at this; omega) (fun z => by
        have h3 := hr z
        by_cases q : C = []
        · rw [q, List.length_nil]
          omega
        · -- the right one was wanted, and there was a leaver there
          exfalso
          have hg : (if nxW F (some l) r = true then _ else decide (∃ y ∈ (x :: A' ++ B ++ C).getLast?, y ∈ F)) = true := hg
          rw [z, if_neg Bool.false_ne_true] at hg
          obtain ⟨y, hy, hyF⟩ := of_decide_eq_true hg
          have hlast : (x :: A' ++ B ++ C).getLast? = C.getLast? := by
            rw [List.getLast?_append]
            cases hc : C.getLast? with
            | none => exact absurd (List.getLast?_eq_none_iff.mp hc) q
            | some y => rfl
          rw [hlast] at hy
          exact hA y (List.mem_append_right _ (List.mem_of_getLast? hy)) hyF) (by rw [← e1]; have := hsz; show endI ((A' ++ B ++ C).length : Int) r = _; rw [← this]; show _ = endI (((x :: A' ++ B ++ C).length : Int) - 1) r; congr 1; simp)
      refine ⟨?_, .cons (.outL x _) ih.2⟩
      show gRun F (some l) (mvB (x :: A' ++ B ++ C) .out (gSide F (nxW F (some l) r) (x :: A' ++ B ++ C) .out)) r = F
      rw [hg, e1]
      exact ih.1
    have goR : ∀ (x : Str) (C' : List Str), C = C' ++ [x] → gSide F (nxW F (some l) r) (A ++ B ++ C) .out = false → gRun F (some l) (A ++ B ++ C) (.out :: r) = F ∧ Run (A ++ B ++ C) (.out :: r) F := fun x C' e hg => by
      subst e
      have e1 : mvB (A ++ B ++ (C' ++ [x])) .out false = A ++ B ++ C' := by
        rw [← List.append_assoc]
        exact take_right
      have e0 : ((A.length + (C' ++ [x]).length : Nat) : Int) - 1 = ((A.length + C'.length : Nat) : Int) := by rw [List.length_append, List.length_singleton]; omega
      rw [e0] at hx1 hs
      have ih := grd_some r A B C' D E kn P l (nL - 1) (nR - 1) b hf.out hB h1 h2 (fun y hy => hA y (by rcases List.mem_append.mp hy with z | z <;> simp [z])) hx1 hs (fun z => by
        have h3 := hl z
        cases A with
        | nil => rw [List.length_nil]; omega
        | cons a A' =>
          exfalso
          have hg : (if nxW F (some l) r = true then !decide (∃ y ∈ (a :: A' ++ B ++ (C' ++ [x])).head?, y ∈ F) else _) = false := hg
          rw [z, if_pos rfl, Bool.not_eq_false'] at hg
          obtain ⟨y, hy, hyF⟩ := of_decide_eq_true hg
          have hy : some a = some y := hy
          cases hy
          exact hA a List.mem_cons_self hyF) (fun z => by have := hr z; rw [List.length_append, List.length_singleton] at this; omega) (by
            have := hsz
            rw [← this]
            show endI ((A ++ B ++ C').length : Int) r = endI (((A ++ B ++ (C' ++ [x])).length : Int) - 1) r
            congr 1
            simp
            omega)
      refine ⟨?_, ?_⟩
      · show gRun F (some l) (mvB (A ++ B ++ (C' ++ [x])) .out (gSide F (nxW F (some l) r) (A ++ B ++ (C' ++ [x])) .out)) r = F
        rw [hg, e1]
        exact ih.1
      · rw [← List.append_assoc]
        exact .cons (.outR x _) ih.2
    have hBF : ∀ y ∈ B, y ∈ F := fun y hy => by rw [hf.eq]; simp [hy]
    cases hg : gSide F (nxW F (some l) r) (A ++ B ++ C) .out with
    | true =>
      cases A with
      | cons x A' => exact goL x A' rfl hg
      | nil =>
        exfalso
        obtain ⟨y0, B', rfl⟩ := List.exists_cons_of_ne_nil hB
        cases hz : nxW F (some l) r with
        | true =>
          rw [hz] at hg
          have hg : (!decide (∃ y ∈ (([] : List Str) ++ (y0 :: B') ++ C).head?, y ∈ F)) = true := hg
          rw [decide_eq_true ⟨y0, rfl, hBF y0 List.mem_cons_self⟩] at hg
          cases hg
        | false =>
          rw [hz] at hg
          have hg : decide (∃ y ∈ (([] : List Str) ++ (y0 :: B') ++ C).getLast?, y ∈ F) = true := hg
          obtain ⟨y, hy, hyF⟩ := of_decide_eq_true hg
          have hCne : C ≠ [] := fun q => by
            rw [q] at hpos
            exact absurd hpos (by decide)
          have hlast : (([] : List Str) ++ (y0 :: B') ++ C).getLast? = C.getLast? := by
            rw [List.getLast?_append]
            cases hc : C.getLast? with
            | none => exact absurd (List.getLast?_eq_none_iff.mp hc) hCne
            | some y => rfl
          rw [hlast] at hy
          exact hA y (List.mem_append_right _ (List.mem_of_getLast? hy)) hyF
    | false =>
      rcases List.eq_nil_or_concat C with rfl | ⟨C', x, rfl⟩
      · exfalso
        have hBl : (A ++ B ++ []).getLast? = some (B.getLast hB) := by
          rw [List.append_nil, List.getLast?_append, List.getLast?_eq_some_getLast hB]
          rfl
        cases hz : nxW F (some l) r with
        | false =>
          rw [hz] at hg
          have hg : decide (∃ y ∈ (A ++ B ++ []).getLast?, y ∈ F) = false := hg
          rw [decide_eq_true ⟨_, hBl, hBF _ (List.getLast_mem hB)⟩] at hg
          cases hg
        | true =>
          rw [hz] at hg
          have hg : (!decide (∃ y ∈ (A ++ B ++ []).head?, y ∈ F)) = false := hg
          rw [Bool.not_eq_false'] at hg
          obtain ⟨y, hy, hyF⟩ := of_decide_eq_true hg
          cases A with
          | nil =>
            exact absurd hpos (by decide)
          | cons a A' =>
            have hy : some a = some y := hy
            cases hy
            exact hA _ List.mem_cons_self hyF
      · exact goR x C' (by simp) (by simpa using hg)
  | .inn c :: r, A, B, C, D, E, kn, P, l, nL, nR, b, hf, hB, h1, h2, hA, hx, hs, hl, hr, hsz => by
    by_cases hc : c ∈ F
    · -- a stayer
      have hx1 : ∀ y ∈ extL F ((A.length + C.length : Nat) : Int) r, 0 ≤ y := fun y hy => hx y (by
        show y ∈ _ :: extL F (if c ∈ F then _ else _) r
        rw [if_pos hc]
        exact List.mem_cons_of_mem _ hy)
      have hw : nxW F (some l) (.inn c :: r) = decide (F.idxOf c < l) := by
        show (if c ∈ F then decide (F.idxOf c < l) else _) = _
        rw [if_pos hc]
      have hs : (if F.idxOf c < l then (if 0 < nL then some (b, c) else swG F (some l) 0 ((A.length + C.length : Nat) : Int) ((A.length + C.length : Nat) : Int) (some c) r) else (if 0 < nR then some (b, c) else swG F (some l) ((A.length + C.length : Nat) : Int) 0 ((A.length + C.length : Nat) : Int) (some c) r)) = none := by
        have : (if c ∈ F then _ else _) = none := hs
        rw [if_pos hc] at this
        exact this
      have hlo : loN F (some l) (.inn c) = some l := by
        show (if c ∈ F then some l else some l) = some l
        split <;> rfl
      have hgs : ∀ w L, gSide F w L (.inn c) = w := fun w L => by
        show (decide (c ∈ F) == w) = w
        rw [decide_eq_true hc]
        cases w <;> rfl
      have eqn : ∀ L, gRun F (some l) L (.inn c :: r) = gRun F (some l) (mvB L (.inn c) (decide (F.idxOf c < l))) r := fun L => by
        show gRun F (loN F (some l) (.inn c)) (mvB L (.inn c) (gSide F (nxW F (some l) (.inn c :: r)) L (.inn c))) r = _
        rw [hlo, hgs, hw]
      rw [hw] at hl hr
      rcases hf.stay hc with ⟨D0, rfl, hf2⟩ | ⟨E0, rfl, hf2⟩
      · -- on the left
        have hi : F.idxOf c = D0.length := by
          have e : F = D0 ++ c :: (B ++ E) := by rw [hf.eq]; simp
          have hn := hf.nd
          rw [e] at hn ⊢
          exact idx_mid hn
        rw [List.length_append, List.length_singleton] at h1 h2
        have hlt : F.idxOf c < l := by omega
        rw [if_pos hlt] at hs
        have hnL : ¬ 0 < nL := fun z => by
          rw [if_pos z] at hs
          cases hs
        rw [if_neg hnL] at hs
        have hA0 : A = [] := List.eq_nil_of_length_eq_zero (by
          have := hl (decide_eq_true hlt)
          omega)
        subst hA0
        have ih := grd_some r [] (c :: B) C D0 E kn (P ++ [c]) l 0 _ (some c) hf2 (List.cons_ne_nil _ _) (by omega) (by rw [List.length_cons]; omega) hA hx1 hs (fun _ => by simp) (fun _ => by rw [List.length_nil]; omega) (by
          have := hsz
          rw [← this]
          show endI (((c :: B) ++ C).length : Int) r = endI ((([] ++ B ++ C).length : Int) + 1) r
          congr 1)
        refine ⟨?_, .cons (.inL c _) ih.2⟩
        rw [eqn, decide_eq_true hlt]
        exact ih.1
      · have hi : F.idxOf c = D.length + B.length := by
          have e : F = (D ++ B) ++ c :: E0 := by rw [hf.eq]
          have hn := hf.nd
          rw [e] at hn ⊢
          rw [idx_mid hn, List.length_append]
        have hge : ¬ F.idxOf c < l := by omega
        rw [if_neg hge] at hs
        have hnR : ¬ 0 < nR := fun z => by
          rw [if_pos z] at hs
          cases hs
        rw [if_neg hnR] at hs
        have hC0 : C = [] := List.eq_nil_of_length_eq_zero (by
          have := hr (decide_eq_false hge)
          omega)
        subst hC0
        have hBl : (B ++ [c]).length = B.length + 1 := by rw [List.length_append]; rfl
        have ih := grd_some r A (B ++ [c]) [] D E0 kn (P ++ [c]) l _ 0 (some c) hf2 (by simp) h1 (by omega) hA hx1 hs (fun _ => by rw [List.length_nil]; omega) (fun _ => by simp) (by
          have := hsz
          rw [← this]
          show endI ((A ++ (B ++ [c]) ++ []).length : Int) r = endI (((A ++ B ++ []).length : Int) + 1) r
          congr 1
          simp
          omega)
        have e1 : A ++ B ++ [] ++ [c] = A ++ (B ++ [c]) ++ [] := by simp
        refine ⟨?_, ?_⟩
        · rw [eqn, decide_eq_false hge]
          show gRun F (some l) (A ++ B ++ [] ++ [c]) r = F
          rw [e1]
          exact ih.1
        · refine .cons (.inR c _) ?_
          rw [e1]
          exact ih.2
    · -- a leaver
      have hx1 : ∀ y ∈ extL F (((A.length + C.length : Nat) : Int) + 1) r, 0 ≤ y := fun y hy => hx y (by
        show y ∈ _ :: extL F (if c ∈ F then _ else _) r
        rw [if_neg hc]
        exact List.mem_cons_of_mem _ hy)
      have hw : nxW F (some l) (.inn c :: r) = nxW F (some l) r := by
        show (if c ∈ F then _ else nxW F (some l) r) = _
        rw [if_neg hc]
      have hs : swG F (some l) nL nR (((A.length + C.length : Nat) : Int) + 1) b r = none := by
        have : (if c ∈ F then _ else swG F (some l) nL nR (((A.length + C.length : Nat) : Int) + 1) b r) = none := hs
        rw [if_neg hc] at this
        exact this
      have hlo : loN F (some l) (.inn c) = some l := by
        show (if c ∈ F then some l else some l) = some l
        split <;> rfl
      have eqn : ∀ L, gRun F (some l) L (.inn c :: r) = gRun F (some l) (mvB L (.inn c) (!nxW F (some l) r)) r := fun L => by
        show gRun F (loN F (some l) (.inn c)) (mvB L (.inn c) (decide (c ∈ F) == nxW F (some l) (.inn c :: r))) r = _
        rw [hlo, hw, decide_eq_false hc]
        cases nxW F (some l) r <;> rfl
      rw [hw] at hl hr
      cases hz : nxW F (some l) r with
      | true =>
        have e0 : ((A.length + C.length : Nat) : Int) + 1 = ((A.length + (C ++ [c]).length : Nat) : Int) := by rw [List.length_append, List.length_singleton]; omega
        rw [e0] at hx1 hs
        have ih := grd_some r A B (C ++ [c]) D E kn (P ++ [c]) l nL nR b (hf.pass hc) hB h1 h2 (fun y hy => by
          rw [← List.append_assoc] at hy
          rcases List.mem_append.mp hy with z | z
          · exact hA y z
          · rw [List.mem_singleton.mp z]; exact hc) hx1 hs (fun _ => hl hz) (fun q => by rw [hz] at q; cases q) (by
            have := hsz
            rw [← this]
            show endI ((A ++ B ++ (C ++ [c])).length : Int) r = endI (((A ++ B ++ C).length : Int) + 1) r
            congr 1
            simp
            omega)
        have e1 : A ++ B ++ C ++ [c] = A ++ B ++ (C ++ [c]) := by simp
        refine ⟨?_, ?_⟩
        · rw [eqn, hz]
          show gRun F (some l) (A ++ B ++ C ++ [c]) r = F
          rw [e1]
          exact ih.1
        · refine .cons (.inR c _) ?_
          rw [e1]
          exact ih.2
      | false =>
        have e0 : ((A.length + C.length : Nat) : Int) + 1 = (((c :: A).length + C.length : Nat) : Int) := by rw [List.length_cons]; omega
        rw [e0] at hx1 hs
        have ih := grd_some r (c :: A) B C D E kn (P ++ [c]) l nL nR b (hf.pass hc) hB h1 h2 (fun y hy => by
          rcases List.mem_cons.mp hy with z | z
          · rw [z]; exact hc
          · exact hA y z) hx1 hs (fun q => by rw [hz] at q; cases q) (fun _ => hr hz) (by
            have := hsz
            rw [← this]
            show endI ((c :: A ++ B ++ C).length : Int) r = endI (((A ++ B ++ C).length : Int) + 1) r
            congr 1)
        refine ⟨?_, .cons (.inL c _) ih.2⟩
        rw [eqn, hz]
        exact ih.1
end Ln


set_option Elab.async false
set_option linter.all false
set_option maxRecDepth 100000
set_option maxHeartbeats 4000000
namespace Ln
open PySem
theorem mvB_all {F L : List Str} {e : Ev} {s : Bool} (h : ∀ y ∈ L, y ∉ F) (hc : ∀ c, e = .inn c → c ∉ F) : ∀ y ∈ mvB L e s, y ∉ F := by
  intro y hy
  cases e with
  | inn c =>
    cases s with
    | true => exact (List.mem_cons.mp hy).elim (fun z => by rw [z]; exact hc c rfl) (h y)
    | false => exact (List.mem_append.mp hy).elim (h y) (fun z => by rw [List.mem_singleton.mp z]; exact hc c rfl)
  | out =>
    cases s with
    | true => exact h y (List.mem_of_mem_drop hy)
    | false => exact h y (List.mem_of_mem_take hy)
theorem mvB_len {L : List Str} {e : Ev} {s : Bool} (h : e = .out → L ≠ []) : ((mvB L e s).length : Int) = endI L.length [e] := by
  cases e with
  | inn c => exact mvB_in.len
  | out => exact (mvB_out (h rfl)).len
/-- before the first stayer of all -/
theorem grd_none {F : List Str} : ∀ (r : List Ev) (L D E kn P : List Str) (nL nR : Int) (b : Option Str), Fit F D [] E kn P r → (∀ y ∈ L, y ∉ F) →
    (∀ y ∈ extL F (L.length : Int) r, 0 ≤ y) → swG F none nL nR (L.length : Int) b r = none → endI (L.length : Int) r = F.length → gRun F none L r = F ∧ Run L r F
  | [], L, D, E, kn, P, nL, nR, b, hf, hA, hx, hs, hsz => by
    have e := hf.last (A := L) (C := []) (by rw [List.append_nil, List.append_nil]; exact hsz)
    rw [List.append_nil, List.append_nil] at e
    show L = F ∧ Run L [] F
    exact ⟨e, by rw [e]; exact .nil _⟩
  | .out :: r, L, D, E, kn, P, nL, nR, b, hf, hA, hx, hs, hsz => by
    have hx1 : ∀ y ∈ extL F ((L.length : Int) - 1) r, 0 ≤ y := fun y hy => hx y (List.mem_cons_of_mem _ hy)
    have hpos := ext_head hx1
    have hne : L ≠ [] := fun z => by
      rw [z] at hpos
      exact absurd hpos (by decide)
    have hl : ((mvB L .out (gSide F (nxW F none r) L .out)).length : Int) = (L.length : Int) - 1 := mvB_len fun _ => hne
    have ih := grd_none r (mvB L .out (gSide F (nxW F none r) L .out)) D E kn P (nL - 1) (nR - 1) b hf.out (mvB_all hA fun c z => by cases z) (by rw [hl]; exact hx1) (by rw [hl]; exact hs) (by rw [hl]; exact hsz)
    exact ⟨ih.1, .cons (mvB_out hne) ih.2⟩
  | .inn c :: r, L, D, E, kn, P, nL, nR, b, hf, hA, hx, hs, hsz => by
    by_cases hc : c ∈ F
    · have hx1 : ∀ y ∈ extL F (L.length : Int) r, 0 ≤ y := fun y hy => hx y (by
        show y ∈ _ :: extL F (if c ∈ F then _ else _) r
        rw [if_pos hc]
        exact List.mem_cons_of_mem _ hy)
      have hs : swG F (some (F.idxOf c)) 0 0 (L.length : Int) (some c) r = none := by
        have : (if c ∈ F then swG F (some (F.idxOf c)) 0 0 (L.length : Int) (some c) r else _) = none := hs
        rw [if_pos hc] at this
        exact this
      have eqn : gRun F none L (.inn c :: r) = gRun F (some (F.idxOf c)) (mvB L (.inn c) (nxW F (some (F.idxOf c)) r)) r := by
        have hlo : loN F none (.inn c) = some (F.idxOf c) := by
          show (if c ∈ F then some (F.idxOf c) else none) = _
          rw [if_pos hc]
        have hw : nxW F none (.inn c :: r) = nxW F (some (F.idxOf c)) r := by
          show (if c ∈ F then nxW F (some (F.idxOf c)) r else _) = _
          rw [if_pos hc]
        show gRun F (loN F none (.inn c)) (mvB L (.inn c) (decide (c ∈ F) == nxW F none (.inn c :: r))) r = _
        rw [hlo, hw, decide_eq_true hc]
        cases nxW F (some (F.idxOf c)) r <;> rfl
      have key : ∀ D' E', Fit F D' [c] E' kn (P ++ [c]) r → F.idxOf c = D'.length → gRun F none L (.inn c :: r) = F ∧ Run L (.inn c :: r) F := fun D' E' hf2 hi => by
        rw [eqn]
        have hsz' : endI ((L.length : Int) + 1) r = F.length := hsz
        cases hz : nxW F (some (F.idxOf c)) r with
        | true =>
          have ih := grd_some r [] [c] L D' E' kn (P ++ [c]) (F.idxOf c) 0 0 (some c) hf2 (List.cons_ne_nil _ _) (by omega) (by rw [hi]; exact Nat.le_add_right _ _) hA (by rw [List.length_nil, Nat.zero_add]; exact hx1) (by rw [List.length_nil, Nat.zero_add]; exact hs) (fun _ => by simp) (fun q => by rw [hz] at q; cases q) (by
            rw [← hsz']
            rfl)
          exact ⟨ih.1, .cons (.inL c _) ih.2⟩
        | false =>
          have e1 : L ++ [c] = L ++ [c] ++ [] := by simp
          have ih := grd_some r L [c] [] D' E' kn (P ++ [c]) (F.idxOf c) 0 0 (some c) hf2 (List.cons_ne_nil _ _) (by omega) (by rw [hi]; exact Nat.le_add_right _ _) (by rw [List.append_nil]; exact hA) (by rw [List.length_nil, Nat.add_zero]; exact hx1) (by rw [List.length_nil, Nat.add_zero]; exact hs) (fun q => by rw [hz] at q; cases q) (fun _ => by simp) (by
            rw [← hsz', ← e1, List.length_append]
            rfl)
          rw [← e1] at ih
          exact ⟨ih.1, .cons (.inR c _) ih.2⟩
      rcases hf.stay hc with ⟨D0, rfl, hf2⟩ | ⟨E0, rfl, hf2⟩
      · refine key D0 E hf2 ?_
        have e : F = D0 ++ c :: E := by rw [hf.eq]; simp
        have hn := hf.nd
        rw [e] at hn ⊢
        exact idx_mid hn
      · refine key D E0 hf2 ?_
        have e : F = D ++ c :: E0 := by rw [hf.eq]; simp
        have hn := hf.nd
        rw [e] at hn ⊢
        exact idx_mid hn
    · have hx1 : ∀ y ∈ extL F ((L.length : Int) + 1) r, 0 ≤ y := fun y hy => hx y (by
        show y ∈ _ :: extL F (if c ∈ F then _ else _) r
        rw [if_neg hc]
        exact List.mem_cons_of_mem _ hy)
      have hs : swG F none nL nR ((L.length : Int) + 1) b r = none := by
        have : (if c ∈ F then _ else swG F none nL nR ((L.length : Int) + 1) b r) = none := hs
        rw [if_neg hc] at this
        exact this
      have hlo : loN F none (.inn c) = none := by
        show (if c ∈ F then some (F.idxOf c) else none) = none
        rw [if_neg hc]
      have hl : ∀ s, ((mvB L (.inn c) s).length : Int) = (L.length : Int) + 1 := fun s => mvB_len fun z => by cases z
      have ih := grd_none r (mvB L (.inn c) (gSide F (nxW F none (.inn c :: r)) L (.inn c))) D E kn (P ++ [c]) nL nR b (hf.pass hc) (mvB_all hA fun d z => by cases z; exact hc) (by rw [hl]; exact hx1) (by rw [hl]; exact hs) (by rw [hl]; exact hsz)
      refine ⟨?_, .cons mvB_in ih.2⟩
      show gRun F (loN F none (.inn c)) _ r = F
      rw [hlo]
      exact ih.1
/-! ### from the conditions -/
def NP (o : List Nat) : Prop := ∀ i, i + 2 < o.length → ¬ (o.getD i 0 < o.getD (i + 1) 0 ∧ o.getD (i + 2) 0 < o.getD (i + 1) 0)
theorem np_of {o : List Nat} (h : fpk o = none) : NP o := fun i hi z => by
  unfold fpk at h
  rw [List.find?_eq_none] at h
  have := h (i + 1) (by rw [List.mem_range'_1]; omega)
  refine this ?_
  unfold isPk
  rw [Bool.and_eq_true]
  exact ⟨decide_eq_true z.1, decide_eq_true z.2⟩
theorem valley : ∀ (o : List Nat), o.Nodup → NP o → ∃ d u, o = d ++ u ∧ d.Pairwise (fun a b => b < a) ∧ u.Pairwise (fun a b => a < b)
  | [], _, _ => ⟨[], [], rfl, .nil, .nil⟩
  | [a], _, _ => ⟨[a], [], rfl, List.pairwise_singleton _ _, .nil⟩
  | a :: b :: r, hn, hp => by
    have hn' := List.nodup_cons.mp hn
    obtain ⟨d, u, e, hd, hu⟩ := valley (b :: r) hn'.2 fun i hi z => hp (i + 1) (by rw [List.length_cons]; omega) z
    have hab : a ≠ b := fun z => hn'.1 (by rw [z]; exact List.mem_cons_self)
    by_cases q : b < a
    · cases d with
      | nil => exact ⟨[a], u, by rw [e]; rfl, List.pairwise_singleton _ _, hu⟩
      | cons b' d =>
        have e' : b :: r = b' :: (d ++ u) := e
        obtain ⟨rfl, rfl⟩ := List.cons.inj e'
        refine ⟨a :: b :: d, u, rfl, List.pairwise_cons.mpr ⟨fun x hx => ?_, hd⟩, hu⟩
        rcases List.mem_cons.mp hx with z | z
        · rw [z]; exact q
        · exact Nat.lt_trans ((List.pairwise_cons.mp hd).1 x z) q
    · have hlt : a < b := by omega
      have hp0 := hp 0
      have second : ∀ x y, r = x :: y → ¬ x < b := fun x y ex z => by
        refine hp0 (by rw [ex]; simp) ⟨hlt, ?_⟩
        rw [ex]
        exact z
      have asc : ∀ u, u.Pairwise (fun a b => a < b) → b :: r = b :: u → (∀ x ∈ u, b < x) → ∃ d u, a :: b :: r = d ++ u ∧ d.Pairwise (fun a b => b < a) ∧ u.Pairwise (fun a b => a < b) := fun u hu e hb => by
        refine ⟨[], a :: b :: u, by rw [e]; rfl, .nil, List.pairwise_cons.mpr ⟨fun x hx => ?_, List.pairwise_cons.mpr ⟨hb, hu⟩⟩⟩
        rcases List.mem_cons.mp hx with z | z
        · rw [z]; exact hlt
        · exact Nat.lt_trans hlt (hb x z)
      cases d with
      | nil =>
        have e' : b :: r = u := e
        subst e'
        exact asc r (List.pairwise_cons.mp hu).2 rfl (List.pairwise_cons.mp hu).1
      | cons b' d =>
        have e' : b :: r = b' :: (d ++ u) := e
        obtain ⟨rfl, rfl⟩ := List.cons.inj e'
        cases d with
        | cons x d =>
          have h1 := (List.pairwise_cons.mp hd).1 x List.mem_cons_self
          exact absurd h1 (second x (d ++ u) rfl)
        | nil =>
          refine asc u hu rfl fun x hx => ?_
          cases u with
          | nil => cases hx
          | cons y u =>
            have h1 := second y u rfl
            have h2 : y ≠ b := fun z => (List.nodup_cons.mp hn'.2).1 (by rw [← z]; exact List.mem_cons_self)
            have h3 : b < y := by omega
            rcases List.mem_cons.mp hx with z | z
            · rw [z]; exact h3
            · exact Nat.lt_trans h3 ((List.pairwise_cons.mp hu).1 x z)
/-- a lane as those before, from the first to the last, and behind the common cars -/
theorem cut3 (S : List Str) : ∀ xs : List Str, (∀ x ∈ xs, x ∉ S) ∨ ∃ A M C, xs = A ++ M ++ C ∧ (∀ x ∈ A, x ∉ S) ∧ (∀ x ∈ C, x ∉ S) ∧ (∃ m ∈ M.head?, m ∈ S) ∧ ∃ z ∈ M.getLast?, z ∈ S
  | [] => .inl fun x hx => by cases hx
  | c :: r => by
    rcases cut3 S r with h | ⟨A, M, C, e, h1, h2, h3, h4⟩
    · by_cases q : c ∈ S
      · exact .inr ⟨[], [c], r, rfl, (fun x hx => by cases hx), h, ⟨c, rfl, q⟩, c, rfl, q⟩
      · refine .inl fun x hx => ?_
        rcases List.mem_cons.mp hx with z | z
        · rw [z]; exact q
        · exact h x z
    · by_cases q : c ∈ S
      · refine .inr ⟨[], c :: (A ++ M), C, by rw [e]; simp, (fun x hx => by cases hx), h2, ⟨c, rfl, q⟩, ?_⟩
        obtain ⟨z, hz, hzS⟩ := h4
        refine ⟨z, ?_, hzS⟩
        rw [List.getLast?_cons, List.getLast?_append, hz]
        rfl
      · refine .inr ⟨c :: A, M, C, by rw [e]; rfl, fun x hx => ?_, h2, h3, h4⟩
        rcases List.mem_cons.mp hx with z | z
        · rw [z]; exact q
        · exact h1 x z
theorem plcs_last {S : List Str} {M : List Str} {z : Str} {k : Nat} (h : z ∈ M.getLast?) (hz : z ∈ S) : (plcs S k M).getLast? = some (k + M.length - 1) := by
  obtain ⟨M0, rfl⟩ : ∃ M0, M = M0 ++ [z] := by
    rcases List.eq_nil_or_concat M with rfl | ⟨M0, y, rfl⟩
    · cases h
    · refine ⟨M0, ?_⟩
      have h : some y = some z := by simpa using h
      rw [Option.some.inj h, List.concat_eq_append]
  rw [plcs_app]
  have : plcs S (k + M0.length) [z] = [k + M0.length] := by
    show (if z ∈ S then _ else _) = _
    rw [if_pos hz]
    rfl
  rw [this, List.getLast?_append, List.length_append]
  show some (k + M0.length) = some (k + (M0.length + 1) - 1)
  congr 1
theorem brgL_of {l : List Nat} {a z : Nat} (h1 : l.head? = some a) (h2 : l.getLast? = some z) : brgL l = (a, z + 1) := by
  cases l with
  | nil => cases h1
  | cons b r =>
    have h1 : some b = some a := h1
    cases h1
    have : (a :: r).getLast (List.cons_ne_nil a r) = z := by
      rw [List.getLast?_eq_some_getLast (List.cons_ne_nil a r)] at h2
      exact Option.some.inj h2
    show (a, (a :: r).getLast _ + 1) = _
    rw [this]
theorem brg_cut (xs S : List Str) : ∃ A M C, xs = A ++ M ++ C ∧ (∀ x ∈ A, x ∉ S) ∧ (∀ x ∈ C, x ∉ S) ∧ cutN xs (brg xs S) = M ∧ brg xs S = (if M = [] then (0, 0) else (A.length, A.length + M.length)) := by
  rcases cut3 S xs with h | ⟨A, M, C, rfl, h1, h2, ⟨m, hm, hmS⟩, z, hz, hzS⟩
  · refine ⟨xs, [], [], by simp, h, (fun x hx => by cases hx), ?_, ?_⟩
    · unfold brg
      rw [plcs_none h]
      rfl
    · unfold brg
      rw [plcs_none h]
      rfl
  · have hM : M ≠ [] := fun q => by
      rw [q] at hm
      cases hm
    have hb : brg (A ++ M ++ C) S = (A.length, A.length + M.length) := by
      unfold brg
      rw [plcs_app, plcs_app, plcs_none h1, plcs_none h2, List.append_nil, List.nil_append, Nat.zero_add]
      have hl := plcs_last (k := A.length) hz hzS
      have hh : (plcs S A.length M).head? = some A.length := by
        cases M with
        | nil => exact absurd rfl hM
        | cons y r =>
          have hm : some y = some m := hm
          rw [← Option.some.inj hm] at hmS
          show (if y ∈ S then A.length :: plcs S (A.length + 1) r else _).head? = _
          rw [if_pos hmS]
          rfl
      rw [brgL_of hh hl]
      have : 0 < M.length := List.length_pos_iff.mpr hM
      congr 1
      omega
    refine ⟨A, M, C, rfl, h1, h2, ?_, ?_⟩
    · rw [hb, cut_mid]
    · rw [hb, if_neg hM]
theorem why_ok_parts {xs F : List Str} {es : List Ev} (h : why xs es F = .ok) : carsOk xs es F = true ∧ hasBlk xs F = true ∧ fpk (F.map fun c => (xs ++ arrs es).idxOf c) = none ∧ fneg (ext0 xs F es) = none ∧ swC xs es F = none := by
  unfold why at h
  by_cases h1 : carsOk xs es F = false
  · rw [if_pos h1] at h
    cases h
  rw [if_neg h1] at h
  by_cases h2 : hasBlk xs F = false
  · rw [if_pos h2] at h
    cases h
  rw [if_neg h2] at h
  cases h3 : fpk (F.map fun c => (xs ++ arrs es).idxOf c) with
  | some i =>
    rw [h3] at h
    cases h
  | none =>
    rw [h3] at h
    have h : (match fneg (ext0 xs F es) with | some t => Why.moment t | none => match swC xs es F with | some (b, c) => .switch b c | none => .ok) = .ok := h
    cases h4 : fneg (ext0 xs F es) with
    | some t =>
      rw [h4] at h
      cases h
    | none =>
      rw [h4] at h
      have h : (match swC xs es F with | some (b, c) => Why.switch b c | none => .ok) = .ok := h
      cases h5 : swC xs es F with
      | some p =>
        rw [h5] at h
        cases h
      | none => exact ⟨by simpa using h1, by simpa using h2, rfl, rfl, rfl⟩
/-- the conditions are enough, by the rule of histories -/
theorem poss_run {xs F : List Str} {es : List Ev} (h : why xs es F = .ok) (hn : (xs ++ arrs es).Nodup) (hF : F.Nodup) : gRun F (lo0 (brg F xs)) xs es = F ∧ Run xs es F := by
  obtain ⟨h1, h2, h3, h4, h5⟩ := why_ok_parts h
  unfold carsOk at h1
  rw [Bool.and_eq_true] at h1
  have hsz : endI (xs.length : Int) es = F.length := (of_decide_eq_true h1.1).symm
  have hmem : ∀ c ∈ F, c ∈ xs ++ arrs es := fun c hc => of_decide_eq_true (List.all_eq_true.mp h1.2 c hc)
  obtain ⟨A, B, C, e1, hA, hC, hb1, hb2⟩ := brg_cut xs F
  obtain ⟨D, B', E, e2, hD, hE, hb3, hb4⟩ := brg_cut F xs
  obtain rfl : B = B' := by
    rw [← hb1, ← hb3]
    exact of_decide_eq_true h2
  have hBF : ∀ x ∈ B, x ∈ F := fun x hx => by rw [e2]; simp [hx]
  have hBx : ∀ x ∈ B, x ∈ xs := fun x hx => by rw [e1]; simp [hx]
  have hdis : ∀ x ∈ xs, x ∉ arrs es := fun x hx z => (List.nodup_append.mp hn).2.2 x hx x z rfl
  -- the valley
  have hinj : (F.map fun c => (xs ++ arrs es).idxOf c).Nodup := by
    refine List.pairwise_map.mpr (List.Pairwise.imp_of_mem (fun {x y} hx hy hxy e => hxy ?_) hF)
    have hx' := List.idxOf_lt_length_of_mem (hmem x hx)
    have e1 := List.getElem_idxOf hx'
    have hy' := List.idxOf_lt_length_of_mem (hmem y hy)
    have e2 := List.getElem_idxOf hy'
    rw [← e1, ← e2]
    congr 1
  obtain ⟨d, u, ho, hd, hu⟩ := valley _ hinj (np_of h3)
  have hext : ∀ y ∈ ext0 xs F es, 0 ≤ y := fun y hy => by
    unfold fneg at h4
    rw [List.findIdx?_eq_none_iff] at h4
    have := of_decide_eq_false (h4 y hy)
    omega
  have hx0 : ((xs.length : Nat) : Int) - stayN xs F = ((A.length + C.length : Nat) : Int) := by
    rw [e1, filt_mid hA hBF hC, List.length_append, List.length_append]
    omega
  unfold ext0 at hext
  rw [hx0] at hext
  have hsw : swG F (lo0 (brg F xs)) ((brg xs F).1 - (0 - 0)) (((xs.length : Nat) : Int) - (brg xs F).2 - (0 - 0)) ((A.length + C.length : Nat) : Int) none es = none := by
    unfold swC ext0 at h5
    rw [hx0] at h5
    have := swF_G (F := F) (dep := depL 0 es) (ext := extL F ((A.length + C.length : Nat) : Int) es) es (lo0 (brg F xs)) (brg xs F).1 (((xs.length : Nat) : Int) - (brg xs F).2) none 0 0 0 ((A.length + C.length : Nat) : Int) rfl rfl
    rw [Nat.zero_add] at this
    rw [this] at h5
    have hd0 : (depL 0 es).getD 0 0 = 0 := by cases es with | nil => rfl | cons e r => cases e <;> rfl
    rw [hd0] at h5
    exact h5
  by_cases hB : B = []
  · -- no block
    subst hB
    have hFx : ∀ x ∈ F, x ∉ xs := fun x hx => by
      rw [e2, List.append_nil] at hx
      rcases List.mem_append.mp hx with z | z
      · exact hD x z
      · exact hE x z
    have hFe : F = F.take d.length ++ [] ++ F.drop d.length := by rw [List.append_nil, List.take_append_drop]
    have hdm : (F.take d.length).map (fun c => (xs ++ arrs es).idxOf c) = d := by
      rw [List.map_take, ho, List.take_left]
    have hum : (F.drop d.length).map (fun c => (xs ++ arrs es).idxOf c) = u := by
      rw [List.map_drop, ho, List.drop_left]
    have fit : Fit F (F.take d.length) [] (F.drop d.length) (xs ++ arrs es) xs es := by
      refine ⟨hFe, hF, rfl, hn, ?_, ?_, fun y hy => ?_, fun c hc hcF => ?_⟩
      · rw [← hdm] at hd
        exact List.pairwise_map.mp hd
      · rw [← hum] at hu
        exact List.pairwise_map.mp hu
      · rw [List.take_append_drop] at hy
        exact (List.mem_append.mp (hmem y hy)).elim (fun z => absurd z (hFx y hy)) id
      · rw [List.take_append_drop]
        exact hcF
    have hlo : lo0 (brg F xs) = none := by
      rw [hb4, if_pos rfl]
      rfl
    rw [hlo] at hsw ⊢
    have hAC : A.length + C.length = xs.length := by rw [e1]; simp
    rw [hAC] at hsw hext
    exact grd_none es xs _ _ _ _ _ _ _ fit (fun y hy z => hFx y z hy) hext hsw hsz
  · have hlo : lo0 (brg F xs) = some D.length := by
      rw [hb4, if_neg hB]
      unfold lo0
      rw [if_neg (show ¬ D.length + B.length = 0 by have := List.length_pos_iff.mpr hB; omega)]
    rw [hlo] at hsw ⊢
    rw [hb2, if_neg hB] at hsw
    -- the block's cars have the small numbers
    have small : ∀ x ∈ B, (xs ++ arrs es).idxOf x < xs.length := fun x hx => by
      rw [List.idxOf_append, if_pos (hBx x hx)]
      exact List.idxOf_lt_length_of_mem (hBx x hx)
    have large : ∀ x ∈ D ++ E, xs.length ≤ (xs ++ arrs es).idxOf x := fun x hx => by
      have hx' : x ∉ xs := (List.mem_append.mp hx).elim (hD x) (hE x)
      rw [List.idxOf_append, if_neg hx']
      omega
    have hm : D.map (fun c => (xs ++ arrs es).idxOf c) ++ B.map (fun c => (xs ++ arrs es).idxOf c) ++ E.map (fun c => (xs ++ arrs es).idxOf c) = d ++ u := by
      rw [← ho, e2, List.map_append, List.map_append]
    generalize hDm : D.map (fun c => (xs ++ arrs es).idxOf c) = dm at hm
    generalize hBm : B.map (fun c => (xs ++ arrs es).idxOf c) = bm at hm
    generalize hEm : E.map (fun c => (xs ++ arrs es).idxOf c) = em at hm
    have hbm : bm ≠ [] := fun z => hB (by rw [← hBm] at z; exact List.map_eq_nil_iff.mp z)
    have sm : ∀ x ∈ bm, x < xs.length := fun x hx => by
      rw [← hBm] at hx
      obtain ⟨y, hy, rfl⟩ := List.mem_map.mp hx
      exact small y hy
    have lg1 : ∀ x ∈ dm, xs.length ≤ x := fun x hx => by
      rw [← hDm] at hx
      obtain ⟨y, hy, rfl⟩ := List.mem_map.mp hx
      exact large y (List.mem_append_left _ hy)
    have lg2 : ∀ x ∈ em, xs.length ≤ x := fun x hx => by
      rw [← hEm] at hx
      obtain ⟨y, hy, rfl⟩ := List.mem_map.mp hx
      exact large y (List.mem_append_right _ hy)
    obtain ⟨b0, br, hbr⟩ := List.exists_cons_of_ne_nil hbm
    obtain ⟨bi, bl, hbl⟩ : ∃ bi bl, bm = bi ++ [bl] := ⟨_, _, (List.dropLast_concat_getLast hbm).symm⟩
    -- D falls
    have hDd : dm.Pairwise (fun a b => b < a) := by
      rw [List.append_assoc] at hm
      rcases List.append_eq_append_iff.mp hm with ⟨t, ht1, ht2⟩ | ⟨t, ht1, ht2⟩
      · rw [ht1] at hd
        exact (List.pairwise_append.mp hd).1
      · -- dm = d ++ t, u = t ++ (bm ++ em)
        cases t with
        | nil =>
          rw [List.append_nil] at ht1
          rw [ht1]
          exact hd
        | cons y t =>
          exfalso
          rw [ht2, hbr] at hu
          have h6 := (List.pairwise_append.mp hu).2.2 y List.mem_cons_self b0 (by simp)
          have h7 := lg1 y (by rw [ht1]; simp)
          have h8 := sm b0 (by rw [hbr]; simp)
          omega
    have hEu : em.Pairwise (fun a b => a < b) := by
      rcases List.append_eq_append_iff.mp hm with ⟨t, ht1, ht2⟩ | ⟨t, ht1, ht2⟩
      · -- d = dm ++ bm ++ t, em = t ++ u
        cases t with
        | nil =>
          rw [List.nil_append] at ht2
          rw [ht2]
          exact hu
        | cons y t =>
          exfalso
          rw [ht1, hbl] at hd
          have h6 := (List.pairwise_append.mp hd).2.2 bl (by simp) y List.mem_cons_self
          have h7 := lg2 y (by rw [ht2]; simp)
          have h8 := sm bl (by rw [hbl]; simp)
          omega
      · rw [ht2] at hu
        exact (List.pairwise_append.mp hu).2.1
    have fit : Fit F D B E (xs ++ arrs es) xs es := by
      refine ⟨e2, hF, rfl, hn, ?_, ?_, fun y hy => ?_, fun c hc hcF => ?_⟩
      · rw [← hDm] at hDd
        exact List.pairwise_map.mp hDd
      · rw [← hEm] at hEu
        exact List.pairwise_map.mp hEu
      · have hyx : y ∉ xs := (List.mem_append.mp hy).elim (hD y) (hE y)
        have hyF : y ∈ F := by
          rw [e2]
          rcases List.mem_append.mp hy with z | z
          · simp [z]
          · simp [z]
        exact (List.mem_append.mp (hmem y hyF)).elim (fun z => absurd z hyx) id
      · rw [e2] at hcF
        rcases List.mem_append.mp hcF with z | z
        · rcases List.mem_append.mp z with z | z
          · exact List.mem_append_left _ z
          · exact absurd hc (hdis c (hBx c z))
        · exact List.mem_append_right _ z
    have hxe : xs = A ++ B ++ C := e1
    have hres := grd_some es A B C D E (xs ++ arrs es) xs D.length (A.length : Int) (C.length : Int) none fit hB (Nat.le_refl _) (Nat.le_add_right _ _) (fun y hy => (List.mem_append.mp hy).elim (hA y) (hC y)) hext (by
      have e3 : ((A.length : Nat) : Int) - (0 - 0) = (A.length : Int) := by omega
      have e4 : ((xs.length : Nat) : Int) - ((A.length + B.length : Nat) : Int) - (0 - 0) = (C.length : Int) := by rw [e1, List.length_append, List.length_append]; omega
      have hsw' : swG F (some D.length) (((A.length : Nat) : Int) - (0 - 0)) (((xs.length : Nat) : Int) - ((A.length + B.length : Nat) : Int) - (0 - 0)) ((A.length + C.length : Nat) : Int) none es = none := hsw
      rw [e3, e4] at hsw'
      exact hsw') (fun _ => by omega) (fun _ => by omega) (by rw [← hxe]; exact hsz)
    rw [← hxe] at hres
    exact hres
/-- [8]: a lane is a final lane of some history exactly if the conditions hold -/
theorem why_iff {xs F : List Str} {es : List Ev} (hn : (xs ++ arrs es).Nodup) (hF : F.Nodup) : why xs es F = .ok ↔ Run xs es F :=
  ⟨fun h => (poss_run h hn hF).2, fun h => why_run h hn⟩
end Ln


set_option Elab.async false
set_option linter.all false
set_option maxRecDepth 100000
set_option maxHeartbeats 4000000
namespace Ln
open PySem
/-! ### how many histories give a lane -/
/-- how many histories lead from the row to F -/
def hcnt (F : List Str) : List Str → List Ev → Nat
  | L, [] => if L = F then 1 else 0
  | L, e :: r => hcnt F (mvB L e true) r + hcnt F (mvB L e false) r
/-- a departure needs a car -/
def vld : Nat → List Ev → Bool
  | _, [] => true
  | n, .inn _ :: r => vld (n + 1) r
  | n, .out :: r => decide (0 < n) && vld (n - 1) r
/-- what the events do to the leavers -/
def kindsL (F : List Str) : Option Nat → List Ev → List Str
  | _, [] => []
  | lo, .out :: r => "out" :: kindsL F lo r
  | lo, .inn c :: r => if c ∈ F then
      match lo with
      | none => "first" :: kindsL F (some (F.idxOf c)) r
      | some l => (if F.idxOf c < l then "L" else "R") :: kindsL F (some l) r
    else "in" :: kindsL F lo r
def wb (k : Str) (w : List Nat) (x : Nat) : List Nat :=
  if k = "in" then (List.range (x + 1)).map fun a => w.getD a 0 + w.getD (a + 1) 0
  else if k = "out" then (List.range (x + 1)).map fun a => (0 :: w).getD a 0 + (w ++ [0]).getD a 0
  else (List.range (x + 1)).map fun a => if a = (if k = "L" then 0 else x) then w.getD a 0 else 0
def wy1 : List Str → List Int → List Nat
  | [], _ => [1]
  | _ :: _, [] => []
  | k :: r, x :: xr => wb k (wy1 r xr) x.toNat
theorem wb_in {w : List Nat} {x : Nat} : wb "in" w x = (List.range (x + 1)).map fun a => w.getD a 0 + w.getD (a + 1) 0 := if_pos rfl
theorem wb_out {w : List Nat} {x : Nat} : wb "out" w x = (List.range (x + 1)).map fun a => (0 :: w).getD a 0 + (w ++ [0]).getD a 0 := by
  unfold wb
  rw [if_neg (by decide), if_pos rfl]
theorem wb_L {w : List Nat} {x : Nat} : wb "L" w x = (List.range (x + 1)).map fun a => if a = 0 then w.getD a 0 else 0 := by
  unfold wb
  rw [if_neg (by decide), if_neg (by decide)]
  rfl
theorem wb_R {w : List Nat} {x : Nat} : wb "R" w x = (List.range (x + 1)).map fun a => if a = x then w.getD a 0 else 0 := by
  unfold wb
  rw [if_neg (by decide), if_neg (by decide)]
  rfl
theorem wb_len {k : Str} {w : List Nat} {x : Nat} : (wb k w x).length = x + 1 := by
  unfold wb
  split
  · simp
  · split <;> simp
theorem map_getD {n a : Nat} {f : Nat → Nat} (h : a < n) : ((List.range n).map f).getD a 0 = f a := by
  rw [List.getD_eq_getElem?_getD, List.getElem?_map, List.getElem?_range h]
  rfl
theorem mvB_len2 {L : List Str} {e : Ev} {s : Bool} : (mvB L e s).length = match e with | .inn _ => L.length + 1 | .out => L.length - 1 := by
  cases e with
  | inn c => cases s <;> simp [mvB]
  | out => cases s <;> simp [mvB]
theorem vld_mv {L : List Str} {e : Ev} {s : Bool} {r : List Ev} (h : vld L.length (e :: r) = true) : vld (mvB L e s).length r = true := by
  rw [mvB_len2]
  cases e with
  | inn c => exact h
  | out => exact (Bool.and_eq_true _ _ ▸ h).2
theorem vld_mvr {L : List Str} {e : Ev} {s : Bool} {r : List Ev} (h : vld L.length (e :: r) = true) : Mv L e (mvB L e s) := by
  cases e with
  | inn c => exact mvB_in
  | out =>
    refine mvB_out fun z => ?_
    have h1 : (decide (0 < L.length) && vld (L.length - 1) r) = true := h
    rw [z] at h1
    cases h1
theorem hcnt_zero {F : List Str} : ∀ {es : List Ev} {L : List Str}, vld L.length es = true → ¬ Run L es F → hcnt F L es = 0
  | [], L, _, h => if_neg fun z => h (by rw [z]; exact .nil _)
  | e :: r, L, hv, h => by
    show hcnt F (mvB L e true) r + hcnt F (mvB L e false) r = 0
    rw [hcnt_zero (vld_mv hv) fun z => h (.cons (vld_mvr hv) z), hcnt_zero (vld_mv hv) fun z => h (.cons (vld_mvr hv) z)]
theorem hcnt_cons {F L : List Str} {e : Ev} {r : List Ev} : hcnt F L (e :: r) = hcnt F (mvB L e true) r + hcnt F (mvB L e false) r := rfl
/-- a stayer that is gone does not come back -/
theorem no_gone {F L : List Str} {r : List Ev} {b : Str} (h1 : b ∈ F) (h2 : b ∉ L ++ arrs r) : ¬ Run L r F := fun z => h2 (z.mem b h1)
/-- no leaver stands between stayers -/
theorem no_between {F L : List Str} {r : List Ev} {a b c : Str} (hn : (c :: a :: L ++ arrs r).Nodup) (hc : c ∈ F) (ha : a ∉ F) (hb : b ∈ F) (hbL : b ∈ L) : ¬ Run (c :: a :: L) r F := fun z => by
  obtain ⟨A, B, C, D, E, e, sp, hAC⟩ := split z hn
  have hA : A = [] := by
    cases A with
    | nil => rfl
    | cons x A' =>
      injection e with e1 e2
      subst e1
      exact absurd hc (hAC _ List.mem_cons_self)
  subst hA
  have hBF : ∀ x ∈ B, x ∈ F := fun x hx => by rw [sp.eqF]; simp [hx]
  have hnL : (c :: a :: L).Nodup := (List.nodup_append.mp hn).1
  have hbB : b ∈ B := by
    have : b ∈ [] ++ B ++ C := by rw [← e]; exact List.mem_cons_of_mem _ (List.mem_cons_of_mem _ hbL)
    rcases List.mem_append.mp this with h | h
    · exact h
    · exact absurd hb (hAC b h)
  cases B with
  | nil => cases hbB
  | cons x B' =>
    injection e with e1 e2
    subst e1
    cases B' with
    | nil =>
      rw [List.mem_singleton.mp hbB] at hbL
      exact (List.nodup_cons.mp hnL).1 (List.mem_cons_of_mem _ hbL)
    | cons y B'' =>
      injection e2 with e3 e4
      subst e3
      exact ha (hBF _ (List.mem_cons_of_mem _ List.mem_cons_self))
/-- a stayer on the wrong side of another -/
theorem no_wrong {F L X Y : List Str} {r : List Ev} {b c : Str} (hn : (L ++ [c] ++ arrs r).Nodup) (hF : F = X ++ c :: Y) (hFn : F.Nodup) (hbL : b ∈ L) (hbY : b ∈ Y) : ¬ Run (L ++ [c]) r F := fun z => by
  obtain ⟨A, B, C, D, E, e, sp, hAC⟩ := split z hn
  have hcF : c ∈ F := by rw [hF]; simp
  have hbF : b ∈ F := by rw [hF]; simp [hbY]
  have hC : C = [] := by
    rcases List.eq_nil_or_concat C with h | ⟨C', x, h⟩
    · exact h
    · rw [List.concat_eq_append] at h
      rw [h, ← List.append_assoc] at e
      have := (List.append_inj' e rfl).2
      injection this with this
      subst this
      exact absurd hcF (hAC _ (by rw [h]; simp))
  subst hC
  rw [List.append_nil] at e hAC
  have hbB : b ∈ B := by
    have : b ∈ A ++ B := by rw [← e]; simp [hbL]
    rcases List.mem_append.mp this with h | h
    · exact absurd hbF (hAC b h)
    · exact h
  rcases List.eq_nil_or_concat B with h | ⟨B', x, h⟩
  · rw [h] at hbB; cases hbB
  · rw [List.concat_eq_append] at h
    rw [h, ← List.append_assoc] at e
    have e2 := List.append_inj' e rfl
    have := e2.2
    injection this with this
    subst this
    have hF2 : F = (D ++ B') ++ c :: E := by rw [sp.eqF, h]; simp
    have hn1 : (X ++ c :: Y).Nodup := hF ▸ hFn
    have hn2 : ((D ++ B') ++ c :: E).Nodup := hF2 ▸ hFn
    have i1 := idx_mid hn1
    have i2 := idx_mid hn2
    rw [← hF] at i1
    rw [← hF2] at i2
    have eX : X = D ++ B' := by
      have t1 : F.take X.length = X := by rw [hF, List.take_left]
      have t2 : F.take (D ++ B').length = D ++ B' := by rw [hF2, List.take_left]
      rw [← t1, ← t2, ← i1, ← i2]
    have hbc : b ≠ c := fun q => by
      rw [q] at hbY
      exact (List.nodup_cons.mp (List.nodup_append.mp hn1).2.1).1 hbY
    have hbB' : b ∈ B' := by
      rw [h] at hbB
      rcases List.mem_append.mp hbB with q | q
      · exact q
      · exact absurd (List.mem_singleton.mp q) hbc
    have hbX : b ∈ X := by rw [eX]; simp [hbB']
    exact (List.nodup_append.mp hn1).2.2 b hbX b (List.mem_cons_of_mem _ hbY) rfl
theorem Run.rev' {L F : List Str} {es : List Ev} (h : ¬ Run L.reverse es F.reverse) : ¬ Run L es F := fun z => h z.rev
theorem no_between' {F L : List Str} {r : List Ev} {a b c : Str} (hn : (L ++ [a] ++ [c] ++ arrs r).Nodup) (hc : c ∈ F) (ha : a ∉ F) (hb : b ∈ F) (hbL : b ∈ L) : ¬ Run (L ++ [a] ++ [c]) r F := by
  refine Run.rev' ?_
  rw [List.reverse_append, List.reverse_append]
  refine no_between (b := b) ?_ (List.mem_reverse.mpr hc) (fun z => ha (List.mem_reverse.mp z)) (List.mem_reverse.mpr hb) (List.mem_reverse.mpr hbL)
  refine (List.Perm.append_right _ ?_).nodup_iff.mpr hn
  have : (c :: a :: L.reverse) = (L ++ [a] ++ [c]).reverse := by simp
  show (c :: a :: L.reverse).Perm _
  rw [this]
  exact List.reverse_perm _
theorem no_wrong' {F L X Y : List Str} {r : List Ev} {b c : Str} (hn : (c :: L ++ arrs r).Nodup) (hF : F = X ++ c :: Y) (hFn : F.Nodup) (hbL : b ∈ L) (hbX : b ∈ X) : ¬ Run (c :: L) r F := by
  refine Run.rev' ?_
  rw [List.reverse_cons]
  refine no_wrong (b := b) (X := Y.reverse) (Y := X.reverse) ?_ (by rw [hF]; simp) ((List.reverse_perm F).nodup_iff.mpr hFn) (List.mem_reverse.mpr hbL) (List.mem_reverse.mpr hbX)
  refine (List.Perm.append_right _ ?_).nodup_iff.mpr hn
  have : L.reverse ++ [c] = (c :: L).reverse := by simp
  rw [this]
  exact List.reverse_perm _
end Ln


set_option Elab.async false
set_option linter.all false
set_option maxRecDepth 100000
set_option maxHeartbeats 4000000
namespace Ln
open PySem
theorem mv_in_t {L : List Str} {c : Str} : mvB L (.inn c) true = c :: L := rfl
theorem mv_in_f {L : List Str} {c : Str} : mvB L (.inn c) false = L ++ [c] := rfl
theorem mv_out_t {L : List Str} : mvB L .out true = L.drop 1 := rfl
theorem mv_out_f {L : List Str} : mvB L .out false = L.dropLast := take_dropLast L
theorem Fit.notlate {F D B E kn P : List Str} {r : List Ev} (h : Fit F D B E kn P r) {b : Str} (hb : b ∈ B) : b ∉ arrs r := fun z => by
  have hF : b ∈ F := by rw [h.eq]; simp [hb]
  have := h.all b z hF
  have hn := h.nd
  rw [h.eq] at hn
  rw [List.append_assoc] at hn
  have h1 := List.nodup_append.mp hn
  rcases List.mem_append.mp this with q | q
  · exact h1.2.2 b q b (List.mem_append_left _ hb) rfl
  · exact (List.nodup_append.mp h1.2.1).2.2 b hb b q rfl
theorem Fit.nil_end {F D B E kn P : List Str} (h : Fit F D B E kn P []) : D = [] ∧ E = [] ∧ F = B := by
  have hl : ∀ y, y ∉ D ++ E := fun y hy => by cases h.late y hy
  have hD : D = [] := by
    cases D with
    | nil => rfl
    | cons d D' => exact absurd (List.mem_append_left _ List.mem_cons_self) (hl d)
  have hE : E = [] := by
    cases E with
    | nil => rfl
    | cons d D' => exact absurd (List.mem_append_right _ List.mem_cons_self) (hl d)
  refine ⟨hD, hE, ?_⟩
  rw [h.eq, hD, hE]
  simp
theorem extL_in {F : List Str} {x : Int} {c : Str} {r : List Ev} (h : c ∉ F) : extL F x (.inn c :: r) = x :: extL F (x + 1) r := by
  show x :: extL F (if c ∈ F then x else x + 1) r = _
  rw [if_neg h]
theorem extL_st {F : List Str} {x : Int} {c : Str} {r : List Ev} (h : c ∈ F) : extL F x (.inn c :: r) = x :: extL F x r := by
  show x :: extL F (if c ∈ F then x else x + 1) r = _
  rw [if_pos h]
theorem kinds_in {F : List Str} {lo : Option Nat} {c : Str} {r : List Ev} (h : c ∉ F) : kindsL F lo (.inn c :: r) = ("in" : Str) :: kindsL F lo r := by
  cases lo with
  | none => exact if_neg h
  | some l => exact if_neg h
theorem kinds_st {F : List Str} {l : Nat} {c : Str} {r : List Ev} (h : c ∈ F) : kindsL F (some l) (.inn c :: r) = (if F.idxOf c < l then ("L" : Str) else "R") :: kindsL F (some l) r := if_pos h
theorem kinds_first {F : List Str} {c : Str} {r : List Ev} (h : c ∈ F) : kindsL F none (.inn c :: r) = ("first" : Str) :: kindsL F (some (F.idxOf c)) r := if_pos h
theorem wy1_in {k : List Str} {x : Int} {xr : List Int} : wy1 ("in" :: k) (x :: xr) = wb "in" (wy1 k xr) x.toNat := rfl
/-- one number for each place of the stayers -/
theorem wy1_len {F D B E kn P : List Str} {lo : Option Nat} {n x : Nat} {r : List Ev} (hf : Fit F D B E kn P r) (hsz : endI ((x + B.length : Nat) : Int) r = F.length) : (wy1 (kindsL F lo r) (extL F (x : Int) r)).length = x + 1 := by
  cases r with
  | nil =>
    have h : ((x + B.length : Nat) : Int) = F.length := hsz
    rw [hf.nil_end.2.2] at h
    have : x = 0 := by omega
    rw [this]
    rfl
  | cons e r =>
    have key : ∀ k ks xr, (wy1 (k :: ks) ((x : Int) :: xr)).length = x + 1 := fun k ks xr => wb_len
    cases e with
    | out => exact key _ _ _
    | inn c =>
      by_cases h : c ∈ F
      · rw [extL_st h]
        cases lo with
        | none => rw [kinds_first h]; exact key _ _ _
        | some l => rw [kinds_st h]; exact key _ _ _
      · rw [extL_in h, kinds_in h]
        exact key _ _ _
theorem nd_move {c : Str} {L R : List Str} (h : (L ++ c :: R).Nodup) : (c :: L ++ R).Nodup := (List.perm_middle (l₁ := L) (a := c) (l₂ := R)).nodup_iff.mp h
theorem nd_moveR {c : Str} {L R : List Str} (h : (L ++ c :: R).Nodup) : (L ++ [c] ++ R).Nodup := by rw [List.append_assoc]; exact h
theorem hcnt_some {F : List Str} : ∀ (r : List Ev) (A B C D E kn P : List Str) (l : Nat), Fit F D B E kn P r → B ≠ [] → D.length ≤ l → l ≤ D.length + B.length → (∀ y ∈ A ++ C, y ∉ F) → (A ++ B ++ C ++ arrs r).Nodup → vld (A ++ B ++ C).length r = true →
    endI ((A ++ B ++ C).length : Int) r = F.length → (∀ y ∈ extL F ((A.length + C.length : Nat) : Int) r, 0 ≤ y) →
    hcnt F (A ++ B ++ C) r = (wy1 (kindsL F (some l) r) (extL F ((A.length + C.length : Nat) : Int) r)).getD A.length 0
  | [], A, B, C, D, E, kn, P, l, hf, hB, h1, h2, hA, hn, hv, hsz, hx => by
    have e := hf.last hsz
    have hl : A.length + C.length = 0 := by
      have h : ((A ++ B ++ C).length : Int) = F.length := hsz
      rw [hf.nil_end.2.2, List.length_append, List.length_append] at h
      omega
    have hA0 : A.length = 0 := by omega
    rw [hA0]
    exact if_pos e
  | .out :: r, A, B, C, D, E, kn, P, l, hf, hB, h1, h2, hA, hn, hv, hsz, hx => by
    have hx1 : ∀ y ∈ extL F (((A.length + C.length : Nat) : Int) - 1) r, 0 ≤ y := fun y hy => hx y (List.mem_cons_of_mem _ hy)
    have hpos := ext_head hx1
    have hf' := hf.out
    have hn : (A ++ B ++ C ++ arrs r).Nodup := hn
    obtain ⟨x, hxx⟩ : ∃ x : Nat, A.length + C.length = x + 1 := ⟨A.length + C.length - 1, by omega⟩
    have e1 : (((A.length + C.length : Nat) : Int) - 1) = (x : Int) := by omega
    have hlen : (wy1 (kindsL F (some l) r) (extL F (x : Int) r)).length = x + 1 := by
      refine wy1_len (n := 0) hf' ?_
      have : endI (((A ++ B ++ C).length : Int) - 1) r = F.length := hsz
      rw [← this]
      congr 1
      rw [List.length_append, List.length_append]
      omega
    have hv1 := vld_mv (s := true) hv
    have hv2 := vld_mv (s := false) hv
    have hsz : endI (((A ++ B ++ C).length : Int) - 1) r = F.length := hsz
    show hcnt F (mvB _ .out true) r + hcnt F (mvB _ .out false) r = (wb "out" (wy1 (kindsL F (some l) r) (extL F (((A.length + C.length : Nat) : Int) - 1) r)) (((A.length + C.length : Nat) : Int)).toNat).getD A.length 0
    rw [wb_out, map_getD (by omega), e1]
    rw [e1] at hx1
    have hbB : ∀ b ∈ B, b ∈ F ∧ b ∉ arrs r := fun b hb => ⟨by rw [hf.eq]; simp [hb], hf'.notlate hb⟩
    have nd0 : (A ++ B ++ C).Nodup := (List.nodup_append.mp hn).1
    refine congr (congrArg _ ?_) ?_
    · cases A with
      | cons a A' =>
        have e0 : mvB (a :: A' ++ B ++ C) .out true = A' ++ B ++ C := rfl
        rw [e0] at hv1 ⊢
        have hc : A'.length + C.length = x := by rw [List.length_cons] at hxx; omega
        rw [hcnt_some r A' B C D E kn P l hf' hB h1 h2 (fun y hy => hA y (List.mem_cons_of_mem _ hy)) (List.nodup_cons.mp hn).2 hv1 (by rw [← hsz]; congr 1; simp only [List.length_append, List.length_cons]; omega) (by rw [hc]; exact hx1), hc]
        rfl
      | nil =>
        cases B with
        | nil => exact absurd rfl hB
        | cons b B' =>
          have hb := hbB b List.mem_cons_self
          refine hcnt_zero hv1 (no_gone hb.1 fun z => ?_)
          rcases List.mem_append.mp z with q | q
          · exact (List.nodup_cons.mp nd0).1 q
          · exact hb.2 q
    · rcases List.eq_nil_or_concat C with h | ⟨C', z, h⟩
      · subst h
        rcases List.eq_nil_or_concat B with h | ⟨B', b, h⟩
        · exact absurd h hB
        · rw [List.concat_eq_append] at h
          subst h
          have hb := hbB b (by simp)
          have e0 : mvB (A ++ (B' ++ [b]) ++ []) .out false = A ++ B' := by
            rw [mv_out_f, List.append_nil, ← List.append_assoc, List.dropLast_concat]
          have e2 : ((wy1 (kindsL F (some l) r) (extL F (x : Int) r)) ++ [0]).getD A.length 0 = 0 := by
            rw [List.getD_eq_getElem?_getD, List.getElem?_append_right (by rw [hlen]; simp at hxx; omega), hlen]
            have : A.length - (x + 1) = 0 := by simp at hxx; omega
            rw [this]
            rfl
          rw [e2]
          refine hcnt_zero hv2 (no_gone hb.1 fun z => ?_)
          rw [e0] at z
          rcases List.mem_append.mp z with q | q
          · have nd1 : ((A ++ B') ++ [b]).Nodup := by simpa using nd0
            exact (List.nodup_append.mp nd1).2.2 b q b List.mem_cons_self rfl
          · exact hb.2 q
      · rw [List.concat_eq_append] at h
        subst h
        have e0 : mvB (A ++ B ++ (C' ++ [z])) .out false = A ++ B ++ C' := by
          rw [mv_out_f, ← List.append_assoc, List.dropLast_concat]
        rw [e0] at hv2 ⊢
        have hc : A.length + C'.length = x := by rw [List.length_append] at hxx; simp at hxx; omega
        have hnn : (A ++ B ++ C' ++ arrs r).Nodup := by
          refine hn.sublist ?_
          rw [← List.append_assoc (A ++ B)]
          exact (List.sublist_append_left _ _).append (List.Sublist.refl _)
        rw [hcnt_some r A B C' D E kn P l hf' hB h1 h2 (fun y hy => hA y (by rcases List.mem_append.mp hy with q | q <;> simp [q])) hnn hv2 (by rw [← hsz]; congr 1; simp; omega) (by rw [hc]; exact hx1), hc]
        rw [List.getD_eq_getElem?_getD, List.getD_eq_getElem?_getD, List.getElem?_append_left (by rw [hlen]; omega)]
  | .inn c :: r, A, B, C, D, E, kn, P, l, hf, hB, h1, h2, hA, hn, hv, hsz, hx => by
    have hn : (A ++ B ++ C ++ c :: arrs r).Nodup := hn
    have hv1 := vld_mv (s := true) hv
    have hv2 := vld_mv (s := false) hv
    rw [mv_in_t] at hv1
    rw [mv_in_f] at hv2
    have hsz : endI (((A ++ B ++ C).length : Int) + 1) r = F.length := hsz
    have nL := nd_move hn
    have nR := nd_moveR hn
    rw [hcnt_cons, mv_in_t, mv_in_f]
    by_cases hc : c ∈ F
    · rw [kinds_st hc]
      rw [extL_st hc] at hx ⊢
      have hx1 : ∀ y ∈ extL F ((A.length + C.length : Nat) : Int) r, 0 ≤ y := fun y hy => hx y (List.mem_cons_of_mem _ hy)
      obtain ⟨b, B', rfl⟩ : ∃ b B', B = b :: B' := by
        cases B with
        | nil => exact absurd rfl hB
        | cons b B' => exact ⟨b, B', rfl⟩
      have hbF : b ∈ F := by rw [hf.eq]; simp
      rcases hf.stay hc with ⟨D0, e, hf2⟩ | ⟨E0, e, hf2⟩
      · -- on the left
        have hi : F.idxOf c = D0.length := by
          have hFe : F = D0 ++ c :: (b :: B' ++ E) := by rw [hf.eq, e]; simp
          have := idx_mid (hFe ▸ hf.nd)
          rw [← hFe] at this
          exact this
        have hD : D.length = D0.length + 1 := by rw [e]; simp
        rw [if_pos (by omega)]
        show _ = (wb "L" _ _).getD A.length 0
        rw [wb_L, map_getD (by omega)]
        have zR : hcnt F (A ++ b :: B' ++ C ++ [c]) r = 0 := by
          refine hcnt_zero hv2 (no_wrong (b := b) (X := D0) (Y := b :: B' ++ E) ?_ (by rw [hf.eq, e]; simp) hf.nd (by simp) (by simp))
          exact nR
        rw [zR, Nat.add_zero]
        cases A with
        | nil =>
          rw [if_pos (show ([] : List Str).length = 0 from rfl)]
          have := hcnt_some r [] (c :: b :: B') C D0 E kn (P ++ [c]) l hf2 (List.cons_ne_nil _ _) (by omega) (by simp only [List.length_cons] at h2 ⊢; omega) hA nL hv1 (by rw [← hsz]; congr 1) hx1
          exact this
        | cons a A' =>
          rw [if_neg (by rw [List.length_cons]; omega)]
          refine hcnt_zero hv1 (no_between (b := b) (L := A' ++ b :: B' ++ C) nL hc (hA a List.mem_cons_self) hbF (by simp))
      · -- on the right
        have hi : F.idxOf c = D.length + (b :: B').length := by
          have hFe : F = (D ++ b :: B') ++ c :: E0 := by rw [hf.eq, e]
          have := idx_mid (hFe ▸ hf.nd)
          rw [← hFe] at this
          rw [this, List.length_append]
        rw [if_neg (by omega)]
        show _ = (wb "R" _ _).getD A.length 0
        rw [wb_R, map_getD (by omega)]
        have zL : hcnt F (c :: (A ++ b :: B' ++ C)) r = 0 := by
          refine hcnt_zero hv1 (no_wrong' (b := b) (X := D ++ b :: B') (Y := E0) nL (by rw [hf.eq, e]) hf.nd (by simp) (by simp))
        rw [zL, Nat.zero_add]
        rcases List.eq_nil_or_concat C with h | ⟨C', z, h⟩
        · subst h
          rw [if_pos (by simp)]
          have e0 : A ++ b :: B' ++ [] ++ [c] = A ++ (b :: B' ++ [c]) ++ [] := by simp
          have e9 : (A.length + ([] : List Str).length : Nat) = A.length := rfl
          rw [e0] at nR hv2 ⊢
          exact hcnt_some r A (b :: B' ++ [c]) [] D E0 kn (P ++ [c]) l hf2 (by simp) h1 (by rw [List.length_append]; omega) hA nR hv2 (by rw [← hsz]; congr 1; simp; omega) hx1
        · rw [List.concat_eq_append] at h
          subst h
          rw [if_neg (by simp; omega)]
          have e0 : A ++ b :: B' ++ (C' ++ [z]) ++ [c] = (A ++ b :: B' ++ C') ++ [z] ++ [c] := by simp
          rw [e0] at nR hv2 ⊢
          exact hcnt_zero hv2 (no_between' (b := b) nR hc (hA z (by simp)) hbF (by simp))
    · rw [kinds_in hc]
      rw [extL_in hc] at hx ⊢
      have hx1 : ∀ y ∈ extL F (((A.length + C.length : Nat) : Int) + 1) r, 0 ≤ y := fun y hy => hx y (List.mem_cons_of_mem _ hy)
      have e1 : (((A.length + C.length : Nat) : Int) + 1) = ((A.length + C.length + 1 : Nat) : Int) := by omega
      rw [e1] at hx1 ⊢
      have hf2 := hf.pass hc
      show _ = (wb "in" _ _).getD A.length 0
      rw [wb_in, map_getD (by omega), Nat.add_comm]
      refine congr (congrArg _ ?_) ?_
      · have e0 : A ++ B ++ C ++ [c] = A ++ B ++ (C ++ [c]) := by simp
        rw [e0] at nR hv2 ⊢
        have := hcnt_some r A B (C ++ [c]) D E kn (P ++ [c]) l hf2 hB h1 h2 (fun y hy => by
          rw [← List.append_assoc] at hy
          rcases List.mem_append.mp hy with q | q
          · exact hA y q
          · rw [List.mem_singleton.mp q]; exact hc) nR hv2 (by rw [← hsz]; congr 1; simp; omega) (by rw [List.length_append]; exact hx1)
        rw [this, List.length_append]
        rfl
      · have := hcnt_some r (c :: A) B C D E kn (P ++ [c]) l hf2 hB h1 h2 (fun y hy => by
          rcases List.mem_cons.mp hy with q | q
          · rw [q]; exact hc
          · exact hA y q) nL hv1 (by rw [← hsz]; congr 1) (by rw [List.length_cons, show A.length + 1 + C.length = A.length + C.length + 1 by omega]; exact hx1)
        have e0 : c :: (A ++ B ++ C) = c :: A ++ B ++ C := by simp
        rw [e0, this, List.length_cons, show A.length + 1 + C.length = A.length + C.length + 1 by omega]
end Ln


set_option Elab.async false
set_option linter.all false
set_option maxRecDepth 100000
set_option maxHeartbeats 4000000
namespace Ln
open PySem
theorem hcnt_nil : ∀ (r : List Ev) (L : List Str), vld L.length r = true → endI (L.length : Int) r = 0 → hcnt [] L r = 2 ^ r.length
  | [], L, _, h => by
    have h : (L.length : Int) = 0 := h
    exact if_pos (List.eq_nil_of_length_eq_zero (by omega))
  | e :: r, L, hv, h => by
    have hs : ∀ s, endI ((mvB L e s).length : Int) r = 0 := fun s => by
      rw [endI_cons] at h
      rw [(vld_mvr (s := s) hv).len]
      exact h
    rw [hcnt_cons, hcnt_nil r _ (vld_mv hv) (hs true), hcnt_nil r _ (vld_mv hv) (hs false), List.length_cons, Nat.pow_succ]
    omega
def firstOf (k : List Str) : Nat := k.idxOf ("first" : Str)
theorem first_cons {k : List Str} {x : Str} (h : x ≠ "first") : firstOf (x :: k) = firstOf k + 1 := by
  unfold firstOf
  rw [List.idxOf_cons]
  have : (x == ("first" : Str)) = false := beq_eq_false_iff_ne.mpr h
  rw [this]
  rfl
theorem first_self {k : List Str} : firstOf (("first" : Str) :: k) = 0 := by
  unfold firstOf
  rw [List.idxOf_cons]
  rfl
def hcntF (k : List Str) (ext : List Int) : Nat :=
  let w := wy1 (k.drop (firstOf k + 1)) (ext.drop (firstOf k + 1))
  (w.getD 0 0 + w.getD (w.length - 1) 0) * 2 ^ firstOf k
theorem hcntF_cons {k : List Str} {ext : List Int} {x : Str} {y : Int} (h : x ≠ "first") : hcntF (x :: k) (y :: ext) = hcntF k ext * 2 := by
  unfold hcntF
  rw [first_cons h, List.drop_succ_cons, List.drop_succ_cons, Nat.pow_succ, Nat.mul_assoc]
theorem hcntF_first {k : List Str} {ext : List Int} {y : Int} : hcntF (("first" : Str) :: k) (y :: ext) = (wy1 k ext).getD 0 0 + (wy1 k ext).getD ((wy1 k ext).length - 1) 0 := by
  unfold hcntF
  rw [first_self]
  show ((wy1 k ext).getD 0 0 + (wy1 k ext).getD ((wy1 k ext).length - 1) 0) * 2 ^ 0 = _
  rw [Nat.pow_zero, Nat.mul_one]
theorem hcnt_none {F : List Str} : ∀ (r : List Ev) (L D E kn P : List Str), Fit F D [] E kn P r → F ≠ [] → (∀ y ∈ L, y ∉ F) → (L ++ arrs r).Nodup → vld L.length r = true → endI (L.length : Int) r = F.length →
    (∀ y ∈ extL F (L.length : Int) r, 0 ≤ y) → hcnt F L r = hcntF (kindsL F none r) (extL F (L.length : Int) r)
  | [], L, D, E, kn, P, hf, hF, hL, hn, hv, hsz, hx => absurd hf.nil_end.2.2 hF
  | .out :: r, L, D, E, kn, P, hf, hF, hL, hn, hv, hsz, hx => by
    have hv1 := vld_mv (s := true) hv
    have hv2 := vld_mv (s := false) hv
    have hpos : 0 < L.length := by
      have h : (decide (0 < L.length) && vld (L.length - 1) r) = true := hv
      exact of_decide_eq_true (Bool.and_eq_true _ _ ▸ h).1
    have e1 : (L.drop 1).length = L.length - 1 := by simp
    have e2 : L.dropLast.length = L.length - 1 := by simp
    rw [mv_out_t] at hv1
    rw [mv_out_f] at hv2
    have hx1 : ∀ y ∈ extL F ((L.length : Int) - 1) r, 0 ≤ y := fun y hy => hx y (List.mem_cons_of_mem _ hy)
    have hsz : endI ((L.length : Int) - 1) r = F.length := hsz
    have e3 : ((L.length : Int) - 1) = ((L.length - 1 : Nat) : Int) := by omega
    show _ = hcntF ("out" :: kindsL F none r) ((L.length : Int) :: extL F ((L.length : Int) - 1) r)
    rw [hcntF_cons (by decide), hcnt_cons, mv_out_t, mv_out_f]
    rw [e3] at hx1 hsz ⊢
    rw [hcnt_none r (L.drop 1) D E kn P hf.out hF (fun y hy => hL y (List.mem_of_mem_drop hy)) (hn.sublist ((List.drop_sublist 1 L).append (List.Sublist.refl _))) hv1 (by rw [e1]; exact hsz) (by rw [e1]; exact hx1),
      hcnt_none r L.dropLast D E kn P hf.out hF (fun y hy => hL y (List.mem_of_mem_take (i := L.length - 1) (by rw [take_dropLast]; exact hy))) (hn.sublist ((List.dropLast_sublist L).append (List.Sublist.refl _))) hv2 (by rw [e2]; exact hsz) (by rw [e2]; exact hx1), e1, e2]
    omega
  | .inn c :: r, L, D, E, kn, P, hf, hF, hL, hn, hv, hsz, hx => by
    have hn : (L ++ c :: arrs r).Nodup := hn
    have hv1 := vld_mv (s := true) hv
    have hv2 := vld_mv (s := false) hv
    rw [mv_in_t] at hv1
    rw [mv_in_f] at hv2
    have hsz : endI ((L.length : Int) + 1) r = F.length := hsz
    have nL := nd_move hn
    have nR := nd_moveR hn
    rw [hcnt_cons, mv_in_t, mv_in_f]
    by_cases hc : c ∈ F
    · rw [kinds_first hc]
      rw [extL_st hc] at hx ⊢
      rw [hcntF_first]
      have hx1 : ∀ y ∈ extL F (L.length : Int) r, 0 ≤ y := fun y hy => hx y (List.mem_cons_of_mem _ hy)
      have key : ∀ D' E', Fit F D' [c] E' kn (P ++ [c]) r → F.idxOf c = D'.length → hcnt F (c :: L) r + hcnt F (L ++ [c]) r = (wy1 (kindsL F (some (F.idxOf c)) r) (extL F (L.length : Int) r)).getD 0 0 + (wy1 (kindsL F (some (F.idxOf c)) r) (extL F (L.length : Int) r)).getD ((wy1 (kindsL F (some (F.idxOf c)) r) (extL F (L.length : Int) r)).length - 1) 0 := fun D' E' hf2 hi => by
        have hlen : (wy1 (kindsL F (some (F.idxOf c)) r) (extL F (L.length : Int) r)).length = L.length + 1 := wy1_len (n := 0) hf2 (by rw [← hsz]; congr 1)
        rw [hlen, Nat.add_sub_cancel]
        have c1 := hcnt_some r [] [c] L D' E' kn (P ++ [c]) (F.idxOf c) hf2 (List.cons_ne_nil _ _) (by omega) (by rw [hi]; simp) hL nL hv1 (by rw [← hsz]; congr 1) (by rw [List.length_nil, Nat.zero_add]; exact hx1)
        have c2 := hcnt_some r L [c] [] D' E' kn (P ++ [c]) (F.idxOf c) hf2 (List.cons_ne_nil _ _) (by omega) (by rw [hi]; simp) (by rw [List.append_nil]; exact hL) (by rw [List.append_nil]; exact nR) (by rw [List.append_nil]; exact hv2) (by rw [← hsz]; congr 1; simp) hx1
        rw [List.length_nil, Nat.zero_add] at c1
        rw [List.append_nil] at c2
        have c1 : hcnt F (c :: L) r = _ := c1
        rw [c1, c2]
        rfl
      rcases hf.stay hc with ⟨D0, e, hf2⟩ | ⟨E0, e, hf2⟩
      · refine key D0 E hf2 ?_
        have hFe : F = D0 ++ c :: E := by rw [hf.eq, e]; simp
        have := idx_mid (hFe ▸ hf.nd)
        rw [← hFe] at this
        exact this
      · refine key D E0 hf2 ?_
        have hFe : F = D ++ c :: E0 := by rw [hf.eq, e]; simp
        have := idx_mid (hFe ▸ hf.nd)
        rw [← hFe] at this
        exact this
    · rw [kinds_in hc]
      rw [extL_in hc] at hx ⊢
      have hx1 : ∀ y ∈ extL F ((L.length : Int) + 1) r, 0 ≤ y := fun y hy => hx y (List.mem_cons_of_mem _ hy)
      have e3 : ((L.length : Int) + 1) = ((L.length + 1 : Nat) : Int) := by omega
      rw [e3] at hx1 hsz ⊢
      rw [hcntF_cons (by decide)]
      have e4 : (L ++ [c]).length = L.length + 1 := by simp
      have hLc : ∀ y ∈ c :: L, y ∉ F := fun y hy => by
        rcases List.mem_cons.mp hy with q | q
        · rw [q]; exact hc
        · exact hL y q
      rw [hcnt_none r (c :: L) D E kn (P ++ [c]) (hf.pass hc) hF hLc nL hv1 hsz hx1,
        hcnt_none r (L ++ [c]) D E kn (P ++ [c]) (hf.pass hc) hF (fun y hy => (List.mem_append.mp hy).elim (fun q => hLc y (List.mem_cons_of_mem _ q)) fun q => hLc y (by rw [List.mem_singleton.mp q]; exact List.mem_cons_self)) nR hv2 (by rw [e4]; exact hsz) (by rw [e4]; exact hx1), e4, List.length_cons]
      omega
/-- a replayed lane fits -/
theorem fit_of {xs F : List Str} {es : List Ev} (h : Run xs es F) (hn : (xs ++ arrs es).Nodup) : ∃ A B C D E, xs = A ++ B ++ C ∧ F = D ++ B ++ E ∧ (∀ x ∈ A ++ C, x ∉ F) ∧ Fit F D B E (xs ++ arrs es) xs es ∧ (∀ y ∈ extL F ((A.length + C.length : Nat) : Int) es, 0 ≤ y) := by
  obtain ⟨A, B, C, D, E, e, sp, hAC⟩ := split h hn
  obtain ⟨dn, up, _⟩ := sp.asc xs (xs ++ arrs es) rfl hn
  have hF := h.nodup hn
  have hBx : ∀ x ∈ B, x ∈ xs := fun x hx => by rw [e]; simp [hx]
  refine ⟨A, B, C, D, E, e, sp.eqF, hAC, ⟨sp.eqF, hF, rfl, hn, dn, up, sp.late, fun c hc hcF => ?_⟩, sp.ext⟩
  have h1 : c ∈ D ++ B ++ E := by rw [← sp.eqF]; exact hcF
  have h2 : c ∉ B := fun z => (List.nodup_append.mp hn).2.2 c (hBx c z) c hc rfl
  simp only [List.mem_append] at h1 ⊢
  rcases h1 with (h1 | h1) | h1
  · exact .inl h1
  · exact absurd h1 h2
  · exact .inr h1
/-- the number that the program reckons for a lane that can arise -/
def countF (xs : List Str) (es : List Ev) (F : List Str) : Nat :=
  if F = [] then 2 ^ es.length
  else if 0 < (brg xs F).2 then (wy1 (kindsL F (lo0 (brg F xs)) es) (ext0 xs F es)).getD (brg xs F).1 0
  else hcntF (kindsL F (lo0 (brg F xs)) es) (ext0 xs F es)
theorem hcnt_run {xs F : List Str} {es : List Ev} (h : Run xs es F) (hn : (xs ++ arrs es).Nodup) (hv : vld xs.length es = true) : hcnt F xs es = countF xs es F := by
  have hsz := h.len
  unfold countF
  by_cases hF0 : F = []
  · rw [if_pos hF0]
    subst hF0
    exact hcnt_nil es xs hv hsz.symm
  rw [if_neg hF0]
  obtain ⟨A, B, C, D, E, e1, e2, hAC, hf, hx⟩ := fit_of h hn
  have hA : ∀ x ∈ A, x ∉ F := fun x hx => hAC x (List.mem_append_left _ hx)
  have hC : ∀ x ∈ C, x ∉ F := fun x hx => hAC x (List.mem_append_right _ hx)
  have hBF : ∀ x ∈ B, x ∈ F := fun x hx => by rw [e2]; simp [hx]
  have hBx : ∀ x ∈ B, x ∈ xs := fun x hx => by rw [e1]; simp [hx]
  have hlate : ∀ y ∈ D ++ E, y ∉ xs := fun y hy z => (List.nodup_append.mp hn).2.2 y z y (hf.late y hy) rfl
  have hD : ∀ x ∈ D, x ∉ xs := fun x hx => hlate x (List.mem_append_left _ hx)
  have hE : ∀ x ∈ E, x ∉ xs := fun x hx => hlate x (List.mem_append_right _ hx)
  have b1 : brg xs F = if B = [] then (0, 0) else (A.length, A.length + B.length) := by
    have := brg_mid (S := F) hA hBF hC
    rw [← e1] at this
    exact this
  have b2 : brg F xs = if B = [] then (0, 0) else (D.length, D.length + B.length) := by
    have := brg_mid (S := xs) hD hBx hE
    rw [← e2] at this
    exact this
  have hx0 : ((xs.length : Nat) : Int) - stayN xs F = ((A.length + C.length : Nat) : Int) := by
    rw [e1, filt_mid hA hBF hC, List.length_append, List.length_append]
    omega
  unfold ext0
  rw [hx0, b1, b2]
  by_cases hB : B = []
  · subst hB
    rw [if_pos rfl, if_pos rfl, if_neg (Nat.lt_irrefl 0)]
    have hAC2 : A.length + C.length = xs.length := by rw [e1]; simp
    rw [hAC2] at hx ⊢
    refine hcnt_none es xs D E _ xs hf hF0 (fun y hy => hAC y ?_) hn hv hsz.symm hx
    rw [e1] at hy
    simpa using hy
  · have hBl : 0 < B.length := List.length_pos_iff.mpr hB
    rw [if_neg hB, if_neg hB, if_pos (by show 0 < A.length + B.length; omega)]
    have hlo : lo0 (D.length, D.length + B.length) = some D.length := if_neg (by show ¬ D.length + B.length = 0; omega)
    rw [hlo]
    have := hcnt_some es A B C D E _ xs D.length hf hB (Nat.le_refl _) (by omega) hAC (by rw [← e1]; exact hn) (by rw [← e1]; exact hv) (by rw [← e1]; exact hsz.symm) hx
    rw [← e1] at this
    exact this
end Ln


set_option Elab.async false
set_option linter.all false
set_option maxRecDepth 100000
set_option maxHeartbeats 2000000
namespace Ln
open PySem PySem.Spec PyProof.Rows L2 GxR
/-- the lane and the departed cars after one event -/
def stepR (p : List Str × List Str) (x : Ev × Str) : List Str × List Str :=
  match x.1 with
  | .inn c => (if x.2 = "L" then c :: p.1 else p.1 ++ [c], p.2)
  | .out => if x.2 = "L" then (p.1.drop 1, p.2 ++ p.1.take 1) else (p.1.dropLast, p.2 ++ p.1.drop (p.1.length - 1))
/-- behind the first i events -/
def atR (xs : List Str) (es : List Ev) (sd : List Str) (i : Nat) : List Str × List Str := ((es.zip sd).take i).foldl stepR (xs, [])
theorem atR_succ {xs : List Str} {es : List Ev} {sd : List Str} {i : Nat} {e : Ev} {x : Str} (h1 : es[i]? = some e) (h2 : sd[i]? = some x) : atR xs es sd (i + 1) = stepR (atR xs es sd i) (e, x) := by
  unfold atR
  have : (es.zip sd)[i]? = some (e, x) := by rw [List.getElem?_zip_eq_some]; exact ⟨h1, h2⟩
  rw [List.take_add_one, this, List.foldl_append]
  rfl
/-- how many are present, and that the rest of the log goes on -/
def Live (xs : List Str) (es : List Ev) (i m : Nat) : Prop := ∃ us, logB us m (es.drop i) = true
theorem live_step {xs : List Str} {es : List Ev} {i m : Nat} {e : Ev} (h : Live xs es i m) (he : es[i]? = some e) : match e with
  | .inn _ => Live xs es (i + 1) (m + 1)
  | .out => 0 < m ∧ Live xs es (i + 1) (m - 1) := by
  obtain ⟨us, hl⟩ := h
  have hlt := (List.getElem?_eq_some_iff.mp he).1
  have hd : es.drop i = e :: es.drop (i + 1) := by
    rw [List.drop_eq_getElem_cons hlt, (List.getElem?_eq_some_iff.mp he).2]
  rw [hd] at hl
  cases e with
  | inn c =>
    have hl : (if carB c = true ∧ ¬ c ∈ us then logB (c :: us) (m + 1) (es.drop (i + 1)) else false) = true := hl
    by_cases q : carB c = true ∧ ¬ c ∈ us
    · rw [if_pos q] at hl
      exact ⟨_, hl⟩
    · rw [if_neg q] at hl
      cases hl
  | out =>
    have hl : (if 0 < m then logB us (m - 1) (es.drop (i + 1)) else false) = true := hl
    by_cases q : 0 < m
    · rw [if_pos q] at hl
      exact ⟨q, _, hl⟩
    · rw [if_neg q] at hl
      cases hl
theorem side_cases {x : Str} (h : sideB x = true) : x = "L" ∨ x = "R" := by
  unfold sideB at h
  rcases Bool.or_eq_true _ _ ▸ h with h | h
  · exact .inl (of_decide_eq_true h)
  · exact .inr (of_decide_eq_true h)
theorem ne_RL : ¬ (("R" : Str) = "L") := by decide +kernel
section
variable {P : Program} {w : World} {K : PySem.W.Frag} {mg : Str → Option Value} {base : Heap} {Ps : List Addr}
def spReplay (K : PySem.W.Frag) (Ps : List Addr) : Sp := fun vs H Q _ => ∃ (a l m : Addr) (xs : List Str) (as : List Addr) (es : List Ev) (sd : List Str), vs = [.ref a, .ref l, .ref m] ∧ LaneAt K H a xs ∧ laneB xs = true ∧ LogAt K H l as es ∧ logB xs xs.length es = true ∧
  SqL K H m (sd.map V.str) ∧ sd.length = es.length ∧ sd.all sideB = true ∧ Tabs Ps H ∧
  ∀ H' p t d, Kp Ps H H' → H p = none → H t = none → H d = none → H' p = some (.tup [.ref t, .ref d]) → H' t = some (.tup ((atR xs es sd es.length).1.map V.str)) → H' d = some (.lst ((atR xs es sd es.length).2.map V.str)) → Q (.ref p) H'
def spMove (K : PySem.W.Frag) : Sp := fun vs H Q _ => ∃ (u b : Addr) (sx : Str) (lane : List Str) (e : Ev), vs = [.ref u, .ref b, .str sx] ∧ H u = some (.lst (lane.map V.str)) ∧ SqT K H b e.vals ∧ (sx = "L" ∨ sx = "R") ∧ lane.length ≤ 900 ∧
  (∀ c, e = .inn c → Q .non (L2.upd H u (.lst ((stepR (lane, []) (e, sx)).1.map V.str)))) ∧ (e = .out → lane ≠ [] ∧ ∀ x, (stepR (lane, []) (e, sx)).2 = [x] → Q (.str x) (L2.upd H u (.lst ((stepR (lane, []) (e, sx)).1.map V.str))))
theorem stepR_g (x g : List Str) (e : Ev × Str) : stepR (x, g) e = ((stepR (x, []) e).1, g ++ (stepR (x, []) e).2) := by
  obtain ⟨ev, s⟩ := e
  cases ev with
  | inn c => exact Prod.ext rfl (List.append_nil g).symm
  | out =>
    show (if s = "L" then (x.drop 1, g ++ x.take 1) else (x.dropLast, g ++ x.drop (x.length - 1)) : List Str × List Str) = ((if s = "L" then (x.drop 1, [] ++ x.take 1) else (x.dropLast, [] ++ x.drop (x.length - 1)) : List Str × List Str).1, g ++ (if s = "L" then (x.drop 1, [] ++ x.take 1) else (x.dropLast, [] ++ x.drop (x.length - 1)) : List Str × List Str).2)
    split <;> rfl
theorem ok_move {f : Addr} {fd : FuncData} (F : Fun K "move" "move" sMove f fd) (B : Bi mg) : FnOk P w K mg base CX0 1 f fd ["present", "event", "side"] (spMove K) := by
  refine F.ok scMove (fun vs H Q E h => ?_) (fun cdv A outer s H vs Q E hr h => ?_)
  · obtain ⟨u, b, sx, lane, e, rfl, _⟩ := h
    rfl
  · obtain ⟨u, b, sx, lane, e, rfl, hu, hbt, hsd, hlen, qi, qo⟩ := h
    refine ⟨_, pss_cons (ps_if (pt_cmpR op_eq (pe_ix ix_tup (pv 1) pe_int (fun _ _ => rfl)) pe_str (nomark _))
        (pss_cons (ps_expr (pe_bm PySem.F.plainAttrs_list PySem.F.slot_list_insert PySem.F.type_list_insert mt_insert (pv 0) (pa_cons (pe_ifExp (pt_cmpR op_eq (pv 2) pe_str (nomark _)) pe_int (pe_callB call_len_seq (by rfl) B.len PySem.boot_len (pa_cons (pv 0) pa_nil))) (pa_cons (pe_ix ix_tup (pv 1) pe_int (fun _ _ => rfl)) pa_nil))))
          (pss_one (ps_ret pe_non))) pss_nil)
      (pss_one (ps_ret (pe_bm PySem.F.plainAttrs_list PySem.F.slot_list_pop PySem.F.type_list_pop mt_popAt (pv 0) (pa_cons (pe_ifExp (pt_cmpR op_eq (pv 2) pe_str (nomark _)) pe_int (pe_un un_neg pe_int)) pa_nil)))), ?_⟩
    have lenb : (lane.map V.str).length < sizeLine := by rw [List.length_map]; exact small1000 (by omega)
    cases e with
    | inn c =>
      have qi := qi c rfl
      refine ⟨.ref b, rfl, b, _, 0, .str "in", rfl, rfl, hbt, atI_nat (j := 0) rfl, rfl, _, rfl, ?_⟩
      rw [decide_eq_true (rfl : V.str "in" = V.str "in")]
      refine iteT ?_
      rcases hsd with rfl | rfl
      · refine ⟨.ref u, rfl, .inl ⟨rfl, _, .inl (.inl hu)⟩, _, rfl, rfl, _, rfl, ?_⟩
        rw [decide_eq_true (rfl : V.str "L" = V.str "L")]
        refine iteT ⟨.ref b, rfl, b, _, 1, .str c, rfl, rfl, hbt, atI_nat (j := 1) rfl, u, _, 0, _, rfl, rfl, hu, lenb, by decide, by decide, ?_⟩
        exact qi
      · refine ⟨.ref u, rfl, .inl ⟨rfl, _, .inl (.inl hu)⟩, _, rfl, rfl, _, rfl, ?_⟩
        rw [decide_eq_false (fun z => ne_RL (V.str.inj z))]
        refine iteF ⟨.ref u, rfl, u, _, rfl, .inl (.inl (.inl hu)), .ref b, rfl, b, _, 1, .str c, rfl, rfl, hbt, atI_nat (j := 1) rfl, u, _, _, _, rfl, rfl, hu, lenb, by omega, by rw [List.length_map]; omega, ?_⟩
        have e1 : (List.take (Int.toNat (((List.map V.str lane).length : Nat) : Int)) (List.map V.str lane) ++ [V.str c] ++ List.drop (Int.toNat (((List.map V.str lane).length : Nat) : Int)) (List.map V.str lane)) = ((stepR (lane, []) (.inn c, "R")).1.map V.str) := by
          show _ = ((if ("R" : Str) = "L" then c :: lane else lane ++ [c]).map V.str)
          rw [if_neg ne_RL, Int.toNat_natCast, List.take_length, List.drop_length, List.append_nil, List.map_append]
          rfl
        rw [e1]
        exact qi
    | out =>
      obtain ⟨hne, qo⟩ := qo rfl
      refine ⟨.ref b, rfl, b, _, 0, .str "out", rfl, rfl, hbt, atI_nat (j := 0) rfl, rfl, _, rfl, ?_⟩
      rw [decide_eq_false (fun z => ne_oi (V.str.inj z))]
      refine iteF ?_
      rcases hsd with rfl | rfl
      · obtain ⟨x, r, rfl⟩ : ∃ x r, lane = x :: r := by
          cases lane with
          | nil => exact absurd rfl hne
          | cons x r => exact ⟨x, r, rfl⟩
        refine ⟨.ref u, rfl, .inl ⟨rfl, _, .inl (.inl hu)⟩, _, rfl, rfl, _, rfl, ?_⟩
        rw [decide_eq_true (rfl : V.str "L" = V.str "L")]
        refine iteT ⟨u, _, 0, 0, V.str x, rfl, rfl, hu, by decide, by decide, ?_, rfl, ?_⟩
        · exact (ixN_seq (i := 0) (j := 0) (by unfold ixN; rw [if_pos (by decide), if_pos (by rw [List.length_map, List.length_cons]; omega)]; rfl)).1
        exact qo x rfl
      · obtain ⟨x, r, rfl⟩ : ∃ x r, lane = r ++ [x] := ⟨_, _, (List.dropLast_concat_getLast hne).symm⟩
        have em : (r ++ [x]).map V.str = r.map V.str ++ [V.str x] := by rw [List.map_append]; rfl
        refine ⟨.ref u, rfl, .inl ⟨rfl, _, .inl (.inl hu)⟩, _, rfl, rfl, _, rfl, ?_⟩
        rw [decide_eq_false (fun z => ne_RL (V.str.inj z))]
        refine iteF ⟨1, rfl, u, _, -1, r.length, V.str x, rfl, rfl, hu, by decide, by decide, ?_, ?_, ?_⟩
        · refine (ixN_seq (i := -1) (j := r.length) ?_).1
          have el : ((r ++ [x]).map V.str).length = r.length + 1 := by rw [List.length_map, List.length_append]; rfl
          rw [el]
          unfold ixN
          rw [if_neg (by decide), if_pos (by omega)]
          congr 1
          omega
        · rw [em, List.getElem?_append_right (by rw [List.length_map]; exact Nat.le_refl _), List.length_map, Nat.sub_self]
          rfl
        have e2 : (stepR (r ++ [x], []) (.out, "R")) = (r, [x]) := by
          show (if ("R" : Str) = "L" then ((r ++ [x]).drop 1, [] ++ (r ++ [x]).take 1) else ((r ++ [x]).dropLast, [] ++ (r ++ [x]).drop ((r ++ [x]).length - 1)) : List Str × List Str) = _
          rw [if_neg ne_RL, show (r ++ [x]).length - 1 = r.length by rw [List.length_append]; rfl, List.drop_left, List.dropLast_concat]
          rfl
        have qo := qo x (by rw [e2])
        rw [e2] at qo
        have e3 : ((r ++ [x]).map V.str).eraseIdx r.length = r.map V.str := by
          rw [em, List.eraseIdx_append_of_length_le (by rw [List.length_map]; exact Nat.le_refl _), List.length_map, Nat.sub_self]
          show r.map V.str ++ [] = _
          rw [List.append_nil]
        rw [e3]
        exact qo
end
end Ln


set_option Elab.async false
set_option linter.all false
set_option maxRecDepth 100000
set_option maxHeartbeats 2000000
namespace Ln
open PySem PySem.Spec PyProof.Rows L2 GxR
structure Bl (mg : Str → Option Value) : Prop where
  max : mg "max" = none
  min : mg "min" = none
  abs : mg "abs" = none
  rng : mg "range" = none
  rep : mg "repr" = none
/-- i ** j of great i -/
def CPowW (i j : Int) : Prop := 0 ≤ j ∧ j ≤ 10 ∧ i.natAbs < 2 ^ 1000
theorem op_powW {X : Cx} : OpR X (binaryOp .Pow) (rI CPowW fun i j => .int (i ^ j.toNat)) := opI fun i j _ _ _ _ _ hc q => by
  obtain ⟨h0, h1, h2⟩ := hc
  refine pow_int h0 ?_ q
  have hb : Builtin.Int.intBits i ≤ 1000 := by
    unfold Builtin.Int.intBits
    split
    · omega
    · have := PySem.Flt.log2_lt_of (show 0 < 1000 by decide) h2
      omega
  calc (Builtin.Int.intBits i : Int) * j ≤ 1000 * 10 := Int.mul_le_mul (by omega) h1 h0 (by decide)
    _ ≤ 2 ^ 27 := by decide
/-- a source of draws: at most n have been made -/
def SrcV (n : Nat) (l : List V) : Prop := ∃ a b c : Int, l = [.int a, .int b, .int c] ∧ 0 ≤ a ∧ 0 ≤ b ∧ b < 2 ^ 130 ∧ 0 ≤ c ∧ c ≤ n
theorem SrcV.mono {n m : Nat} {l : List V} (h : SrcV n l) (hm : n ≤ m) : SrcV m l := by
  obtain ⟨a, b, c, e, h1, h2, h3, h4, h5⟩ := h
  exact ⟨a, b, c, e, h1, h2, h3, h4, by omega⟩
theorem SrcV.len {n : Nat} {l : List V} (h : SrcV n l) : l.length = 3 := by
  obtain ⟨a, b, c, e, _⟩ := h
  rw [e]
  rfl
section
variable {P : Program} {w : World} {K : PySem.W.Frag} {mg : Str → Option Value} {base : Heap} {Ps : List Addr}
def spSource (K : PySem.W.Frag) : Sp := fun vs H Q _ => ∃ (a : Addr) (ns : List Int) (k : Nat), vs = [.ref a, .int k] ∧ SqL K H a (ns.map V.int) ∧ k ≤ 8 ∧ ∀ p l, H p = none → SrcV 0 l → Q (.ref p) (upd H p (.lst l))
def spDraw : Sp := fun vs H Q _ => ∃ (s : Addr) (l : List V) (n : Nat) (lim : Int), vs = [.ref s, .int lim] ∧ H s = some (.lst l) ∧ SrcV n l ∧ n ≤ 1000000 ∧ 1 ≤ lim ∧ lim ≤ 100000 ∧ ∀ l' r, SrcV (n + 1) l' → 0 ≤ r → r < lim → Q (.int r) (upd H s (.lst l'))
end
end Ln


set_option Elab.async false
set_option linter.all false
set_option maxRecDepth 100000
set_option maxHeartbeats 2000000
namespace Ln
open PySem PySem.Spec PyProof.Rows L2 GxR
/-- what stood stands, the source apart -/
def Ch (s : Addr) (H H' : Hp) : Prop := ∀ b o, H b = some o → b ≠ s → H' b = some o
theorem Ch.refl {s : Addr} {H : Hp} : Ch s H H := fun _ _ e _ => e
theorem Ch.trans {s : Addr} {H H1 H2 : Hp} (a : Ch s H H1) (b : Ch s H1 H2) : Ch s H H2 := fun c o e n => b c o (a c o e n) n
theorem Ch.src {s : Addr} {H : Hp} {o : HO} : Ch s H (upd H s o) := fun b q e n => by rw [upd_ne n]; exact e
theorem Ch.new {s p : Addr} {H H1 : Hp} {o : HO} (k : Ch s H H1) (hp : H p = none) : Ch s H (upd H1 p o) := fun b q e n => by rw [upd_ne (ne_of_none e hp)]; exact k b q e n
theorem Ch.seqL {K : PySem.W.Frag} {s a : Addr} {H H1 : Hp} {xs : List V} (k : Ch s H H1) (h : SqL K H a xs) (n : a ≠ s) : SqL K H1 a xs := by
  rcases h with (e | ⟨ob, e⟩) | e
  · exact .inl (.inl (k _ _ e n))
  · exact .inl (.inr ⟨ob, k _ _ e n⟩)
  · exact .inr e
theorem Ch.seqT {K : PySem.W.Frag} {s a : Addr} {H H1 : Hp} {xs l : List V} (k : Ch s H H1) (h : SqT K H a xs) (hs : H s = some (.lst l)) : SqT K H1 a xs := by
  rcases h with (e | ⟨ob, e⟩) | e
  · exact .inl (.inl (k _ _ e fun z => by rw [z, hs] at e; cases e))
  · exact .inl (.inr ⟨ob, k _ _ e fun z => by rw [z, hs] at e; cases e⟩)
  · exact .inr e
/-- a new address stays apart from the source -/
theorem Ch.free {s p : Addr} {H H1 : Hp} {l : List V} (k : Ch s H H1) (hs : H s = some (.lst l)) (hs1 : ∃ l1, H1 s = some (.lst l1)) (hp : H1 p = none) : H p = none := by
  by_cases z : p = s
  · obtain ⟨l1, e⟩ := hs1
    rw [z, e] at hp
    cases hp
  · cases q : H p with
    | none => rfl
    | some u =>
      rw [k p u q z] at hp
      cases hp
theorem Ch.tabs {s : Addr} {Ps : List Addr} {H H1 : Hp} {l : List V} (k : Ch s H H1) (hs : H s = some (.lst l)) (hT : Tabs Ps H) : Tabs Ps H1 := fun q hq => by
  obtain ⟨ps, e, t⟩ := hT q hq
  exact ⟨ps, k q _ e (fun z => by rw [z, hs] at e; cases e), t⟩
theorem erase_perm {α : Type} {l : List α} {k : Nat} {x : α} (h : l[k]? = some x) : (x :: l.eraseIdx k).Perm l := by
  obtain ⟨hk, e⟩ := List.getElem?_eq_some_iff.mp h
  have e1 : l = l.take k ++ x :: l.drop (k + 1) := by
    rw [← e, ← List.drop_eq_getElem_cons hk, List.take_append_drop]
  rw [List.eraseIdx_eq_take_drop_succ]
  conv => rhs; rw [e1]
  exact List.perm_middle.symm
theorem map_erase {α β : Type} (f : α → β) : ∀ (l : List α) (k : Nat), (l.map f).eraseIdx k = (l.eraseIdx k).map f
  | [], _ => rfl
  | _ :: _, 0 => rfl
  | x :: r, k + 1 => by
    show f x :: (r.map f).eraseIdx k = f x :: (r.eraseIdx k).map f
    rw [map_erase f r k]
abbrev rLenSeq (K : PySem.W.Frag) : List V → Hp → VK → Prop := fun xs H Q => ∃ p ys, xs = [.ref p] ∧ (SqL K H p ys ∨ SqT K H p ys) ∧ Q (.int ((ys.length : Nat) : Int)) H
section
variable {P : Program} {w : World} {K : PySem.W.Frag} {mg : Str → Option Value} {base : Heap} {Ps : List Addr}
def spMixed (K : PySem.W.Frag) : Sp := fun vs H Q _ => ∃ (s t : Addr) (l : List V) (n : Nat) (xs : List Str), vs = [.ref s, .ref t] ∧ H s = some (.lst l) ∧ SrcV n l ∧ n + xs.length ≤ 1000000 ∧ SqL K H t (xs.map V.str) ∧ t ≠ s ∧ xs.length ≤ 1000 ∧
  ∀ (H' : Hp) (p : Addr) (ys : List Str) (l' : List V), Ch s H H' → H p = none → ys.Perm xs → SrcV (n + xs.length) l' → H' s = some (.lst l') → H' p = some (.lst (ys.map V.str)) → Q (.ref p) H'
end
end Ln


set_option Elab.async false
set_option linter.all false
set_option maxRecDepth 100000
set_option maxHeartbeats 2000000
namespace Ln
open PySem PySem.Spec PyProof.Rows L2 GxR
/-- how many are present behind a log, if it can be -/
def cnt : Nat → List Ev → Option Nat
  | n, [] => some n
  | n, .inn _ :: r => cnt (n + 1) r
  | n, .out :: r => if 0 < n then cnt (n - 1) r else none
theorem cnt_snoc : ∀ (n : Nat) (es : List Ev) (e : Ev) (m : Nat), cnt n es = some m → cnt n (es ++ [e]) = cnt m [e]
  | n, [], e, m, h => by
    obtain rfl : n = m := Option.some.inj h
    rfl
  | n, .inn c :: r, e, m, h => cnt_snoc (n + 1) r e m h
  | n, .out :: r, e, m, h => by
    show (if 0 < n then cnt (n - 1) (r ++ [e]) else none) = _
    have h : (if 0 < n then cnt (n - 1) r else none) = some m := h
    by_cases q : 0 < n
    · rw [if_pos q] at h ⊢
      exact cnt_snoc (n - 1) r e m h
    · rw [if_neg q] at h
      cases h
/-- a log of new cars that counts is a log -/
theorem logB_of : ∀ (es : List Ev) (us : List Str) (n m : Nat), cnt n es = some m → (∀ c ∈ arrs es, carB c = true ∧ ¬ c ∈ us) → (arrs es).Nodup → logB us n es = true
  | [], _, _, _, _, _, _ => rfl
  | .inn c :: r, us, n, m, h, hc, hn => by
    show (if carB c = true ∧ ¬ c ∈ us then logB (c :: us) (n + 1) r else false) = true
    have hn : (c :: arrs r).Nodup := hn
    obtain ⟨h1, h2⟩ := List.nodup_cons.mp hn
    rw [if_pos (hc c List.mem_cons_self)]
    refine logB_of r (c :: us) (n + 1) m h (fun d hd => ⟨(hc d (List.mem_cons_of_mem _ hd)).1, fun z => ?_⟩) h2
    rcases List.mem_cons.mp z with z | z
    · exact h1 (z ▸ hd)
    · exact (hc d (List.mem_cons_of_mem _ hd)).2 z
  | .out :: r, us, n, m, h, hc, hn => by
    show (if 0 < n then logB us (n - 1) r else false) = true
    have h : (if 0 < n then cnt (n - 1) r else none) = some m := h
    by_cases q : 0 < n
    · rw [if_pos q] at h ⊢
      exact logB_of r us (n - 1) m h hc hn
    · rw [if_neg q] at h
      cases h
/-- the tuples stand -/
def KT (H H' : Hp) : Prop := ∀ b xs, H b = some (.tup xs) → H' b = some (.tup xs)
theorem KT.upd {H : Hp} {a : Addr} {o : HO} (h : ∀ xs, H a ≠ some (.tup xs)) : KT H (upd H a o) := fun b xs e => by
  rw [upd_ne (fun z => h xs (by rw [← z]; exact e))]
  exact e
theorem KT.trans {H H1 H2 : Hp} (a : KT H H1) (b : KT H1 H2) : KT H H2 := fun c xs e => b c xs (a c xs e)
/-- the events' own tuples -/
def EvT (H : Hp) (as : List Addr) (es : List Ev) : Prop := Paired (fun a (e : Ev) => H a = some (.tup e.vals)) as es
theorem EvT.kt {H H' : Hp} {as : List Addr} {es : List Ev} (h : EvT H as es) (k : KT H H') : EvT H' as es := Paired.imp h fun _ _ q => k _ _ q
theorem EvT.at_ {K : PySem.W.Frag} {H : Hp} {as : List Addr} {es : List Ev} (h : EvT H as es) : EvsAt K H as es := Paired.imp h fun _ _ q => SqT.of q
theorem dp_strs {K : PySem.W.Frag} {H : Hp} : ∀ xs : List Str, DpAll K H (xs.map V.str) (xs.map PyData.str)
  | [] => .nil
  | x :: r => .cons (.str x) (dp_strs r)
theorem lay_strs : ∀ xs : List Str, (∀ x ∈ xs, PyData.strOk x = true) → PyData.canLayAll0 (xs.map PyData.str) = true
  | [], _ => rfl
  | x :: r, h => by
    simp only [List.map_cons, PyData.canLayAll0, PyData.canLay0, lay_strs r fun y hy => h y (List.mem_cons_of_mem _ hy), h x List.mem_cons_self]
    rfl
theorem dep_strs : ∀ xs : List Str, PyData.depthAll (xs.map PyData.str) ≤ 1
  | [] => by simp [PyData.depthAll]
  | x :: r => by
    have := dep_strs r
    simp only [List.map_cons, PyData.depthAll, PyData.depth]
    omega
theorem shaped_strs (xs : List Str) (h : ∀ x ∈ xs, PyData.strOk x = true) : SeqAt.shaped (.list (xs.map PyData.str)) = true := by
  unfold SeqAt.shaped
  rw [Bool.and_eq_true]
  refine ⟨by rw [PyData.canLay0]; exact lay_strs xs h, decide_eq_true ?_⟩
  have := dep_strs xs
  simp only [PyData.depth]
  omega
theorem eqv_nil (xs : List Str) : PyData.eqv (.list (xs.map PyData.str)) (.list []) = xs.isEmpty := by
  cases xs with
  | nil => rfl
  | cons x r => simp [PyData.eqv, PyData.eqvAll]
theorem car_ok {x : Str} (h : carB x = true) : PyData.strOk x = true := by
  unfold carB at h
  rw [Bool.and_eq_true] at h
  have h2 := List.all_eq_true.mp h.2
  unfold PyData.strOk
  rw [← Array.all_toList, List.all_eq_true]
  intro c hc
  have := h2 c hc
  unfold lowB at this
  rw [Bool.and_eq_true] at this
  have := of_decide_eq_true this.2
  exact decide_eq_true (by omega)
theorem cnt_le : ∀ (n : Nat) (es : List Ev) (m : Nat), cnt n es = some m → m ≤ n + es.length
  | n, [], m, h => by
    obtain rfl : n = m := Option.some.inj h
    exact Nat.le_refl _
  | n, .inn c :: r, m, h => by
    have := cnt_le (n + 1) r m h
    show m ≤ n + (r.length + 1)
    omega
  | n, .out :: r, m, h => by
    have h : (if 0 < n then cnt (n - 1) r else none) = some m := h
    by_cases q : 0 < n
    · rw [if_pos q] at h
      have := cnt_le (n - 1) r m h
      show m ≤ n + (r.length + 1)
      omega
    · rw [if_neg q] at h
      cases h
section
variable {P : Program} {w : World} {K : PySem.W.Frag} {mg : Str → Option Value} {base : Heap} {Ps : List Addr}
def spHap (K : PySem.W.Frag) : Sp := fun vs H Q _ => ∃ (s t : Addr) (l : List V) (n n0 most : Nat) (zs : List Str), vs = [.ref s, .int n0, .ref t, .int most] ∧ H s = some (.lst l) ∧ SrcV n l ∧ n + 200 ≤ 1000000 ∧ most ≤ 120 ∧ n0 ≤ 400 ∧ SqL K H t (zs.map V.str) ∧ t ≠ s ∧ zs.length ≤ 400 ∧ (∀ z ∈ zs, carB z = true) ∧
  ∀ (H' : Hp) (p : Addr) (as : List Addr) (es : List Ev) (k m : Nat) (l' : List V), Ch s H H' → H p = none → (∀ a ∈ as, H a = none) → es.length ≤ most → arrs es = zs.take k → cnt n0 es = some m → SrcV (n + 122) l' → H' s = some (.lst l') → H' p = some (.lst (as.map V.ref)) → EvT H' as es → Q (.ref p) H'
end
end Ln


set_option Elab.async false
set_option linter.all false
set_option maxRecDepth 100000
set_option maxHeartbeats 4000000
namespace Ln
open PySem PySem.Spec PyProof.Rows L2 GxR
/-! ### cars, lanes and logs that are right -/
theorem logB_cars : ∀ (es : List Ev) (us : List Str) (n : Nat), logB us n es = true → ∀ c ∈ arrs es, carB c = true
  | .inn c :: r, us, n, h, d, hd => by
    have h : (if carB c = true ∧ ¬ c ∈ us then logB (c :: us) (n + 1) r else false) = true := h
    by_cases q : carB c = true ∧ ¬ c ∈ us
    · rw [if_pos q] at h
      rcases List.mem_cons.mp (show d ∈ c :: arrs r from hd) with e | e
      · rw [e]
        exact q.1
      · exact logB_cars r _ _ h d e
    · rw [if_neg q] at h
      cases h
  | .out :: r, us, n, h, d, hd => by
    have h : (if 0 < n then logB us (n - 1) r else false) = true := h
    by_cases q : 0 < n
    · rw [if_pos q] at h
      exact logB_cars r _ _ h d hd
    · rw [if_neg q] at h
      cases h
theorem mem_arrs {c : Str} : ∀ {es : List Ev}, Ev.inn c ∈ es → c ∈ arrs es
  | .inn d :: r, h => by
    rcases List.mem_cons.mp h with e | e
    · injection e with e
      rw [e]
      exact List.mem_cons_self
    · exact List.mem_cons_of_mem _ (mem_arrs e)
  | .out :: r, h => by
    rcases List.mem_cons.mp h with e | e
    · cases e
    · exact mem_arrs (es := r) e
theorem carLen {x : Str} (h : carB x = true) : x.length ≤ 4 := by
  unfold carB at h
  rw [Bool.and_eq_true, Bool.and_eq_true] at h
  exact of_decide_eq_true h.1.2
theorem car_sz {x : Str} (h : carB x = true) : x.length ≤ sizeLine := Nat.le_trans (carLen h) (by decide)
theorem carsOf {xs : List Str} (h : laneB xs = true) : ∀ x ∈ xs, carB x = true := fun x hx => by
  unfold Ln.laneB at h
  rw [Bool.and_eq_true] at h
  exact List.all_eq_true.mp h.1 x hx
theorem shapedT (xs : List Str) (h : ∀ x ∈ xs, carB x = true) : SeqAt.shaped (.tuple (xs.map PyData.str)) = true := by
  unfold SeqAt.shaped
  rw [Bool.and_eq_true]
  refine ⟨by rw [PyData.canLay0]; exact lay_strs xs fun x hx => car_ok (h x hx), decide_eq_true ?_⟩
  have := dep_strs xs
  simp only [PyData.depth]
  omega
theorem logB_sub : ∀ (es : List Ev) (us vs : List Str) (n : Nat), (∀ u ∈ vs, u ∈ us) → logB us n es = true → logB vs n es = true
  | [], _, _, _, _, _ => rfl
  | .inn c :: r, us, vs, n, hs, h => by
    have h : (if carB c = true ∧ ¬ c ∈ us then logB (c :: us) (n + 1) r else false) = true := h
    show (if carB c = true ∧ ¬ c ∈ vs then logB (c :: vs) (n + 1) r else false) = true
    by_cases q : carB c = true ∧ ¬ c ∈ us
    · rw [if_pos q] at h
      rw [if_pos ⟨q.1, fun z => q.2 (hs c z)⟩]
      refine logB_sub r (c :: us) (c :: vs) (n + 1) (fun u hu => ?_) h
      rcases List.mem_cons.mp hu with e | e
      · rw [e]
        exact List.mem_cons_self
      · exact List.mem_cons_of_mem _ (hs u e)
    · rw [if_neg q] at h
      cases h
  | .out :: r, us, vs, n, hs, h => by
    have h : (if 0 < n then logB us (n - 1) r else false) = true := h
    show (if 0 < n then logB vs (n - 1) r else false) = true
    by_cases q : 0 < n
    · rw [if_pos q] at h ⊢
      exact logB_sub r us vs (n - 1) hs h
    · rw [if_neg q] at h
      cases h
/-- no car arrives twice -/
theorem logB_nodup : ∀ (es : List Ev) (us : List Str) (n : Nat), logB us n es = true → us.Nodup → (us ++ arrs es).Nodup
  | [], us, n, _, hu => by
    show (us ++ []).Nodup
    rw [List.append_nil]
    exact hu
  | .inn c :: r, us, n, h, hu => by
    have h : (if carB c = true ∧ ¬ c ∈ us then logB (c :: us) (n + 1) r else false) = true := h
    by_cases q : carB c = true ∧ ¬ c ∈ us
    · rw [if_pos q] at h
      have ih := logB_nodup r (c :: us) (n + 1) h (List.nodup_cons.mpr ⟨q.2, hu⟩)
      exact (List.perm_middle (a := c) (l₁ := us) (l₂ := arrs r)).symm.nodup_iff.mp ih
    · rw [if_neg q] at h
      cases h
  | .out :: r, us, n, h, hu => by
    have h : (if 0 < n then logB us (n - 1) r else false) = true := h
    by_cases q : 0 < n
    · rw [if_pos q] at h
      exact logB_nodup r us (n - 1) h hu
    · rw [if_neg q] at h
      cases h
theorem laneB_nodup {xs : List Str} (h : laneB xs = true) : xs.Nodup := by
  unfold laneB at h
  rw [Bool.and_eq_true] at h
  exact of_decide_eq_true h.2
theorem laneB_rev {xs : List Str} (h : laneB xs = true) : laneB xs.reverse = true := by
  unfold laneB
  rw [Bool.and_eq_true]
  exact ⟨List.all_eq_true.mpr fun x hx => carsOf h x (List.mem_reverse.mp hx), decide_eq_true ((List.reverse_perm xs).nodup_iff.mpr (laneB_nodup h))⟩
end Ln


set_option Elab.async false
set_option linter.all false
set_option maxRecDepth 100000
set_option maxHeartbeats 4000000
namespace Ln
open PySem PySem.Spec PyProof.Rows L2 GxR
/-! ### values of any plain kind -/
mutual
inductive Dv (K : PySem.W.Frag) (H : Hp) : V → PyData → Prop
  | non : Dv K H .non .none
  | bl (b : Bool) : Dv K H (.bl b) (.bool b)
  | int (i : Int) : Dv K H (.int i) (.int i)
  | str (x : Str) (h : x.length ≤ sizeLine) : Dv K H (.str x) (.str x)
  | lst {a : Addr} {xs : List V} {ds : List PyData} : SqL K H a xs → DvAll K H xs ds → Dv K H (.ref a) (.list ds)
  | tup {a : Addr} {xs : List V} {ds : List PyData} : SqT K H a xs → DvAll K H xs ds → Dv K H (.ref a) (.tuple ds)
  | dic {a : Addr} : H a = some (.dK []) → Dv K H (.ref a) (.dict [])
inductive DvAll (K : PySem.W.Frag) (H : Hp) : List V → List PyData → Prop
  | nil : DvAll K H [] []
  | cons {v : V} {vs : List V} {d : PyData} {ds : List PyData} : Dv K H v d → DvAll K H vs ds → DvAll K H (v :: vs) (d :: ds)
end
/-- the built-in type of a value -/
def tyD : PyData → String
  | .none => "NoneType"
  | .bool _ => "bool"
  | .int _ => "int"
  | .str _ => "str"
  | .list _ => "list"
  | .tuple _ => "tuple"
  | .dict _ => "dict"
theorem Dv.ty {K : PySem.W.Frag} {H : Hp} {v : V} {d : PyData} (h : Dv K H v d) : TyX K H v (.type (tyD d)) := by
  cases h with
  | non => exact .base .non
  | bl b => exact .base (.bl b)
  | int i => exact .base (.int i)
  | str x _ => exact .base (.str x)
  | lst s _ => exact tyx_lst s
  | tup s _ => exact tyx_tup s
  | dic e => exact .base (.dK e)
def isTup : PyData → Bool
  | .tuple _ => true
  | _ => false
def isLst : PyData → Bool
  | .list _ => true
  | _ => false
def isStr : PyData → Bool
  | .str _ => true
  | _ => false
theorem kit_tup : ∀ d : PyData, kitB (tyD d) "tuple" = some (isTup d)
  | .none => show kitB "NoneType" "tuple" = some false by decide +kernel
  | .bool _ => show kitB "bool" "tuple" = some false by decide +kernel
  | .int _ => show kitB "int" "tuple" = some false by decide +kernel
  | .str _ => show kitB "str" "tuple" = some false by decide +kernel
  | .list _ => show kitB "list" "tuple" = some false by decide +kernel
  | .tuple _ => show kitB "tuple" "tuple" = some true by decide +kernel
  | .dict _ => show kitB "dict" "tuple" = some false by decide +kernel
theorem kit_lst : ∀ d : PyData, kitB (tyD d) "list" = some (isLst d)
  | .none => show kitB "NoneType" "list" = some false by decide +kernel
  | .bool _ => show kitB "bool" "list" = some false by decide +kernel
  | .int _ => show kitB "int" "list" = some false by decide +kernel
  | .str _ => show kitB "str" "list" = some false by decide +kernel
  | .list _ => show kitB "list" "list" = some true by decide +kernel
  | .tuple _ => show kitB "tuple" "list" = some false by decide +kernel
  | .dict _ => show kitB "dict" "list" = some false by decide +kernel
theorem kit_str : ∀ d : PyData, kitB (tyD d) "str" = some (isStr d)
  | .none => show kitB "NoneType" "str" = some false by decide +kernel
  | .bool _ => show kitB "bool" "str" = some false by decide +kernel
  | .int _ => show kitB "int" "str" = some false by decide +kernel
  | .str _ => show kitB "str" "str" = some true by decide +kernel
  | .list _ => show kitB "list" "str" = some false by decide +kernel
  | .tuple _ => show kitB "tuple" "str" = some false by decide +kernel
  | .dict _ => show kitB "dict" "str" = some false by decide +kernel
section
variable {K : PySem.W.Frag} {H H1 : Hp} {Ps : List Addr}
theorem sqL_sm {a : Addr} {xs : List V} (h : SqL K H a xs) (k : L2.Same H H1) : SqL K H1 a xs := by
  rcases h with (e | ⟨ob, e⟩) | e
  · exact .inl (.inl (k _ _ e))
  · exact .inl (.inr ⟨ob, k _ _ e⟩)
  · exact .inr e
theorem sqT_sm {a : Addr} {xs : List V} (h : SqT K H a xs) (k : L2.Same H H1) : SqT K H1 a xs := by
  rcases h with (e | ⟨ob, e⟩) | e
  · exact .inl (.inl (k _ _ e))
  · exact .inl (.inr ⟨ob, k _ _ e⟩)
  · exact .inr e
mutual
theorem Dv.same (k : L2.Same H H1) : ∀ {v : V} {d : PyData}, Dv K H v d → Dv K H1 v d
  | _, _, .non => .non
  | _, _, .bl b => .bl b
  | _, _, .int i => .int i
  | _, _, .str x h => .str x h
  | _, _, .lst s a => .lst (sqL_sm s k) (DvAll.same k a)
  | _, _, .tup s a => .tup (sqT_sm s k) (DvAll.same k a)
  | _, _, .dic e => .dic (k _ _ e)
theorem DvAll.same (k : L2.Same H H1) : ∀ {vs : List V} {ds : List PyData}, DvAll K H vs ds → DvAll K H1 vs ds
  | _, _, .nil => .nil
  | _, _, .cons a b => .cons (Dv.same k a) (DvAll.same k b)
end
mutual
theorem Dv.kp (k : Kp Ps H H1) (hT : Tabs Ps H) : ∀ {v : V} {d : PyData}, Dv K H v d → Dv K H1 v d
  | _, _, .non => .non
  | _, _, .bl b => .bl b
  | _, _, .int i => .int i
  | _, _, .str x h => .str x h
  | _, _, .lst s a => .lst (k.seqL hT s) (DvAll.kp k hT a)
  | _, _, .tup s a => .tup (k.seqT hT s) (DvAll.kp k hT a)
  | _, _, .dic e => .dic (k.at_ _ _ e (tab_ne hT e fun q z => by cases z))
theorem DvAll.kp (k : Kp Ps H H1) (hT : Tabs Ps H) : ∀ {vs : List V} {ds : List PyData}, DvAll K H vs ds → DvAll K H1 vs ds
  | _, _, .nil => .nil
  | _, _, .cons a b => .cons (Dv.kp k hT a) (DvAll.kp k hT b)
end
theorem DvAll.len : ∀ {vs : List V} {ds : List PyData}, DvAll K H vs ds → vs.length = ds.length
  | _, _, .nil => rfl
  | _, _, .cons _ b => by rw [List.length_cons, List.length_cons, DvAll.len b]
theorem DvAll.at_ : ∀ {vs : List V} {ds : List PyData}, DvAll K H vs ds → ∀ {i : Nat} {d : PyData}, ds[i]? = some d → ∃ v, vs[i]? = some v ∧ Dv K H v d
  | _, _, .nil, i, d, h => by simp at h
  | _, _, .cons a b, 0, d, h => by
    cases h
    exact ⟨_, rfl, a⟩
  | _, _, .cons a b, i + 1, d, h => DvAll.at_ b (i := i) h
/-- parts that are all texts -/
def strsD : List PyData → Option (List Str)
  | [] => some []
  | .str x :: r => (strsD r).map (x :: ·)
  | _ :: _ => none
theorem DvAll.strs : ∀ {vs : List V} {ds : List PyData} {xs : List Str}, DvAll K H vs ds → strsD ds = some xs → vs = xs.map V.str ∧ ds = xs.map PyData.str ∧ ∀ x ∈ xs, x.length ≤ sizeLine
  | _, _, xs, .nil, h => by
    cases h
    exact ⟨rfl, rfl, fun _ h => nomatch h⟩
  | _, d :: ds, xs, .cons a b, h => by
    cases a with
    | str x hx =>
      have h : (strsD ds).map (x :: ·) = some xs := h
      cases q : strsD ds with
      | none => rw [q] at h; cases h
      | some ys =>
        rw [q] at h
        cases h
        obtain ⟨e1, e2, e3⟩ := DvAll.strs b q
        refine ⟨by rw [e1]; rfl, by rw [e2]; rfl, fun y hy => ?_⟩
        rcases List.mem_cons.mp hy with e | e
        · rw [e]; exact hx
        · exact e3 y e
    | _ => cases h
end
def carD : PyData → Bool
  | .str x => carB x
  | _ => false
def laneD : PyData → Bool
  | .tuple ds => match strsD ds with
    | some xs => laneB xs
    | none => false
  | _ => false
theorem strs_of_cars : ∀ {ds : List PyData}, ds.all carD = true → ∃ xs, strsD ds = some xs
  | [], _ => ⟨[], rfl⟩
  | d :: r, h => by
    rw [List.all_cons, Bool.and_eq_true] at h
    obtain ⟨xs, e⟩ := strs_of_cars h.2
    cases d with
    | str x => exact ⟨x :: xs, by show (strsD r).map (x :: ·) = _; rw [e]; rfl⟩
    | _ => exact (Bool.false_ne_true h.1).elim
theorem fn_or {P : Program} {w : World} {mg : Str → Option Value} {base : Heap} {K : PySem.W.Frag} {CX : CXT} {k : Nat} {f : Addr} {fd : FuncData} {ps : List Str} {s1 s2 : Sp} (h1 : FnOk P w K mg base CX k f fd ps s1) (h2 : FnOk P w K mg base CX k f fd ps s2) : FnOk P w K mg base CX k f fd ps fun vs H Q E => s1 vs H Q E ∨ s2 vs H Q E :=
  ⟨fun vs H Q E h => h.elim (h1.len vs H Q E) (h2.len vs H Q E), fun A outer s H args us vs Q E hr he hb hv hs => hs.elim (h1.run A outer s H args us vs Q E hr he hb hv) (h2.run A outer s H args us vs Q E hr he hb hv)⟩
section
variable {P : Program} {w : World} {K : PySem.W.Frag} {mg : Str → Option Value} {base : Heap} {Ps : List Addr}
/-- what is not a text is no car -/
def spCarN (K : PySem.W.Frag) : Sp := fun vs H Q _ => ∃ (v : V) (d : PyData), vs = [v] ∧ Dv K H v d ∧ isStr d = false ∧ Q (.bl false) H
theorem ok_carN {f c P1 : Addr} {fd : FuncData} (F : FunC K "is_car" "is_car" sIsCar f fd c) (B : Bi mg) (TB : TabB base mg c P1) (hP : P1 ∈ Ps) : FnOk P w K mg base CX0 2 f fd ["value"] (spCarN K) := by
  refine F.ok scIsCar (fun vs H Q E h => ?_) (fun A outer s H vs Q E hr h => ?_)
  · obtain ⟨z, d, rfl, _⟩ := h
    rfl
  · obtain ⟨z, d, rfl, hd, hn, q⟩ := h
    refine ⟨_, pss_cons (ps_if (PW.pt (pw_or (pt_not (pt_val (pe_callB call_isi (by rfl) B.isi (by decide +kernel) (pa_cons (pv 0) (pa_cons (pe_bltn (by rfl) B.str (by decide +kernel) (v := .ty "str") rfl) pa_nil)))))
        (pw_or1 (pt_not (pt_chain op_le op_le pe_int (pe_callB call_len_str (by rfl) B.len PySem.boot_len (pa_cons (pv 0) pa_nil)) pe_int)))))
        (pss_one (ps_ret pe_bl)) pss_nil)
      (pss_one (ps_ret (pe_allG (k := 0) hr rfl (by rfl) B.all TB rfl ⟨rfl, rfl, by decide +kernel, by decide +kernel, rfl, rfl⟩ (pi_str (pv 0))
        (fun _ _ _ _ _ _ _ _ _ => pe_chain op_le_str op_le_str pe_str (pv 0) pe_str)))), ?_⟩
    refine ⟨_, rfl, z, .ty "str", .type (tyD d), .type "str", isStr d, rfl, .ty _, hd.ty, kit_ty (kit_str d), isStr d, rfl, ?_⟩
    rw [hn]
    exact iteT q
def spCarA (K : PySem.W.Frag) (Ps : List Addr) : Sp := fun vs H Q _ => ∃ (v : V) (d : PyData), vs = [v] ∧ Dv K H v d ∧ Tabs Ps H ∧ ∀ H', Kp Ps H H' → Q (.bl (carD d)) H'
theorem ok_carA {f : Addr} {fd : FuncData} (h1 : FnOk P w K mg base CX0 2 f fd ["value"] (spCar Ps)) (h2 : FnOk P w K mg base CX0 2 f fd ["value"] (spCarN K)) : FnOk P w K mg base CX0 2 f fd ["value"] (spCarA K Ps) :=
  (fn_or h1 h2).imp fun vs H Q E ⟨v, d, e, hd, hT, q⟩ => by
    cases hd with
    | str x hx => exact .inl ⟨x, e, hx, hT, q⟩
    | non => exact .inr ⟨_, _, e, .non, rfl, q H (Kp.refl hT)⟩
    | bl b => exact .inr ⟨_, _, e, .bl b, rfl, q H (Kp.refl hT)⟩
    | int i => exact .inr ⟨_, _, e, .int i, rfl, q H (Kp.refl hT)⟩
    | lst s a => exact .inr ⟨_, _, e, .lst s a, rfl, q H (Kp.refl hT)⟩
    | tup s a => exact .inr ⟨_, _, e, .tup s a, rfl, q H (Kp.refl hT)⟩
    | dic z => exact .inr ⟨_, _, e, .dic z, rfl, q H (Kp.refl hT)⟩
/-- is_lane of what is no tuple of texts -/
def spLaneN (K : PySem.W.Frag) (Ps : List Addr) : Sp := fun vs H Q _ => ∃ (v : V) (d : PyData), vs = [v] ∧ Dv K H v d ∧ (∀ ds, d = .tuple ds → strsD ds = none) ∧ Tabs Ps H ∧ ∀ H', Kp Ps H H' → Q (.bl false) H'
theorem ok_laneN {f c P1 fC : Addr} {fd fdC : FuncData} (F : FunC K "is_lane" "is_lane" sIsLane f fd c) (B : Bi mg) (TB : TabB base mg c P1) (hP : P1 ∈ Ps)
    (GC : FnOk P w K mg base CX0 2 fC fdC ["value"] (spCarA K Ps)) (mgC : mg "is_car" = some (.ref fC)) (kC : PySem.W.keepIn K (.ref fC) = true) (bC : Binds K fdC ["value"] []) : FnOk P w K mg base CX0 4 f fd ["value"] (spLaneN K Ps) := by
  refine F.ok scIsLane (fun vs H Q E h => ?_) (fun A outer s H vs Q E hr h => ?_)
  · obtain ⟨a, d, rfl, _⟩ := h
    rfl
  · obtain ⟨v, d, rfl, hd, hn, hT, q⟩ := h
    refine ⟨_, pss_cons (ps_if (PW.pt (pw_or (pt_not (pt_val (pe_callB call_isi (by rfl) B.isi (by decide +kernel) (pa_cons (pv 0) (pa_cons (pe_bltn (by rfl) B.tup (by decide +kernel) (v := .ty "tuple") rfl) pa_nil)))))
        (pw_or1 (pt_not (pt_val (pe_allG (k := 2) hr rfl (by rfl) B.all TB rfl ⟨rfl, rfl, by decide +kernel, by decide +kernel, rfl, rfl⟩ (pi_tup (pv 0))
          (fun _ _ _ _ _ _ _ _ hk => pe_call GC hk rfl mgC kC bC .nil pass0 (pa_cons (pv 0) pa_nil))))))))
        (pss_one (ps_ret pe_bl)) pss_nil)
      (pss_one (ps_ret (pe_cmpR op_eq (pe_callB call_len_setK (by rfl) B.len PySem.boot_len (pa_cons (pe_callTy (cr_setT rfl) (by rfl) B.set (by decide +kernel) (pa_cons (pv 0) pa_nil)) pa_nil))
        (pe_callB call_len_seq (by rfl) B.len PySem.boot_len (pa_cons (pv 0) pa_nil)) (nomark _)))), ?_⟩
    refine ⟨_, rfl, v, .ty "tuple", .type (tyD d), .type "tuple", isTup d, rfl, .ty _, hd.ty, kit_ty (kit_tup d), isTup d, rfl, ?_⟩
    by_cases ht : isTup d = true
    · rw [ht]
      refine iteF ?_
      cases hd with
      | @tup a xs ds hS hA =>
        have hno := hn ds rfl
        refine ⟨.ref a, rfl, a, rfl, ⟨_, hS⟩, hT P1 hP, fun i m H' => m = ds.length - i ∧ Kp Ps H H' ∧ i ≤ ds.length ∧ (ds.take i).all carD = true, fun H2 hH => ⟨ds.length, by omega, Kp.tabbed hT hP hH, Nat.zero_le _, rfl⟩, fun i m H' hW => ?_⟩
        obtain ⟨rfl, kp, hi, hall⟩ := hW
        have hS' := kp.seqT hT hS
        have hlx := hA.len
        by_cases hlt : i < ds.length
        · obtain ⟨y, hx, hy⟩ := hA.at_ (List.getElem?_eq_getElem hlt)
          refine .inr ⟨⟨_, _, hS', hx⟩, fun v H3 hyv => ?_⟩
          obtain ⟨rfl, fv⟩ := hyv
          obtain rfl : v = y := Option.some.inj ((fv _ hS').symm.trans hx)
          refine ⟨_, rfl, _, _, rfl, hy.kp kp hT, kp.tab, fun H4 kp4 => ⟨_, rfl, ?_⟩⟩
          refine ite2 (fun hc => ?_) (fun hc => ?_)
          · refine ⟨_, ?_, rfl, kp.trans kp4, hlt, ?_⟩
            · omega
            · rw [List.take_add_one, List.getElem?_eq_getElem hlt, List.all_append, hall]
              simp [hc]
          · exact ⟨false, rfl, iteT (q H4 (kp.trans kp4))⟩
        · exfalso
          rw [List.take_of_length_le (by omega)] at hall
          obtain ⟨zs, hz⟩ := strs_of_cars hall
          rw [hno] at hz
          cases hz
      | _ => cases ht
    · have ht : isTup d = false := by simpa using ht
      rw [ht]
      exact iteT (q H (Kp.refl hT))
def spLaneA (K : PySem.W.Frag) (Ps : List Addr) : Sp := fun vs H Q _ => ∃ (v : V) (d : PyData), vs = [v] ∧ Dv K H v d ∧ (∀ ds, d = .tuple ds → ds.length ≤ 1000) ∧ Tabs Ps H ∧ ∀ H', Kp Ps H H' → Q (.bl (laneD d)) H'
theorem ok_laneA {f : Addr} {fd : FuncData} (h1 : FnOk P w K mg base CX0 4 f fd ["value"] (spLane K Ps)) (h2 : FnOk P w K mg base CX0 4 f fd ["value"] (spLaneN K Ps)) : FnOk P w K mg base CX0 4 f fd ["value"] (spLaneA K Ps) :=
  (fn_or h1 h2).imp fun vs H Q E ⟨v, d, e, hd, hl, hT, q⟩ => by
    cases hd with
    | @tup a xs ds s al =>
      cases hs : strsD ds with
      | some ys =>
        obtain ⟨e1, e2, e3⟩ := al.strs hs
        subst e1
        have q : ∀ H', Kp Ps H H' → Q (.bl (match strsD ds with | some xs => laneB xs | none => false)) H' := q
        rw [hs] at q
        refine .inl ⟨a, ys, e, s, ?_, e3, hT, q⟩
        have := hl ds rfl
        rw [e2, List.length_map] at this
        exact this
      | none =>
        have q : ∀ H', Kp Ps H H' → Q (.bl (match strsD ds with | some xs => laneB xs | none => false)) H' := q
        rw [hs] at q
        exact .inr ⟨_, _, e, .tup s al, (fun ds2 e2 => by cases e2; exact hs), hT, q⟩
    | str x hx => exact .inr ⟨_, _, e, .str x hx, (fun _ z => nomatch z), hT, q⟩
    | non => exact .inr ⟨_, _, e, .non, (fun _ z => nomatch z), hT, q⟩
    | bl b => exact .inr ⟨_, _, e, .bl b, (fun _ z => nomatch z), hT, q⟩
    | int i => exact .inr ⟨_, _, e, .int i, (fun _ z => nomatch z), hT, q⟩
    | lst s a => exact .inr ⟨_, _, e, .lst s a, (fun _ z => nomatch z), hT, q⟩
    | dic z => exact .inr ⟨_, _, e, .dic z, (fun _ z => nomatch z), hT, q⟩
end
end Ln


set_option Elab.async false
set_option linter.all false
set_option maxRecDepth 100000
set_option maxHeartbeats 4000000
namespace Ln
open PySem PySem.Spec PyProof.Rows L2 GxR
/-! ### events and logs of any plain kind -/
def hasWD (wd : Str) (n : Nat) : PyData → Bool
  | .tuple (.str y :: ds) => decide (ds.length + 1 = n) && decide (y = wd)
  | _ => false
def arrBD : PyData → Bool
  | .tuple [.str y, d] => decide (y = "in") && carD d
  | _ => false
def depBD : PyData → Bool
  | .tuple [.str y] => decide (y = "out")
  | _ => false
theorem depBD_has (d : PyData) : depBD d = hasWD "out" 1 d := by
  match d with
  | .tuple [.str y] => show _ = (decide (0 + 1 = 1) && decide (y = "out")); rw [decide_eq_true rfl, Bool.true_and]; rfl
  | .tuple (.str y :: e :: r) => show false = (decide ((e :: r).length + 1 = 1) && decide (y = "out")); rw [decide_eq_false (by rw [List.length_cons]; omega), Bool.false_and]
  | .tuple [] => rfl
  | .tuple (.none :: _) => rfl
  | .tuple (.bool _ :: _) => rfl
  | .tuple (.int _ :: _) => rfl
  | .tuple (.list _ :: _) => rfl
  | .tuple (.tuple _ :: _) => rfl
  | .tuple (.dict _ :: _) => rfl
  | .none => rfl
  | .bool _ => rfl
  | .int _ => rfl
  | .str _ => rfl
  | .list _ => rfl
  | .dict _ => rfl
theorem has2 {wd : Str} {d : PyData} (h : hasWD wd 2 d = true) : ∃ e, d = .tuple [.str wd, e] := by
  match d, h with
  | .tuple (.str y :: r), h =>
    have h : (decide (r.length + 1 = 2) && decide (y = wd)) = true := h
    rw [Bool.and_eq_true] at h
    have h1 := of_decide_eq_true h.1
    have h2 := of_decide_eq_true h.2
    match r, h1 with
    | [e], _ => exact ⟨e, by rw [h2]⟩
    | [], h1 => exact absurd h1 (by decide)
    | _ :: _ :: _, h1 => exact absurd h1 (by rw [List.length_cons, List.length_cons]; omega)
theorem arr_has {d : PyData} (h : hasWD "in" 2 d = false) : arrBD d = false := by
  cases q : arrBD d with
  | false => rfl
  | true =>
    match d, q with
    | .tuple [.str y, e], q =>
      have q : (decide (y = "in") && carD e) = true := q
      rw [Bool.and_eq_true] at q
      have h : (decide (1 + 1 = 2) && decide (y = "in")) = false := h
      rw [q.1] at h
      cases h
def carO : PyData → Option Str
  | .tuple [_, .str c] => some c
  | _ => none
/-- may the values be a log, the cars used, n present -/
def logW : List Str → Nat → List PyData → Bool
  | _, _, [] => true
  | u, n, d :: r => if arrBD d = true then (carO d).elim false (fun c => if ¬ c ∈ u then logW (c :: u) (n + 1) r else false) else if depBD d = true then (if 0 < n then logW u (n - 1) r else false) else false
theorem logW_cons {u : List Str} {n : Nat} {d : PyData} {r : List PyData} : logW u n (d :: r) = if arrBD d = true then (carO d).elim false (fun c => if ¬ c ∈ u then logW (c :: u) (n + 1) r else false) else if depBD d = true then (if 0 < n then logW u (n - 1) r else false) else false := rfl
def logD (xs : List Str) : PyData → Bool
  | .list ds => logW xs xs.length ds
  | _ => false
theorem arr_of {d : PyData} (h : arrBD d = true) : ∃ c, d = .tuple [.str "in", .str c] ∧ carB c = true := by
  match d, h with
  | .tuple [.str y, e], h =>
    have h : (decide (y = "in") && carD e) = true := h
    rw [Bool.and_eq_true] at h
    have h1 := of_decide_eq_true h.1
    match e, h.2 with
    | .str c, h2 => exact ⟨c, by rw [h1], h2⟩
theorem arr_not_dep {d : PyData} (h : arrBD d = true) : depBD d = false := by
  obtain ⟨c, rfl, _⟩ := arr_of h
  rfl
section
variable {P : Program} {w : World} {K : PySem.W.Frag} {mg : Str → Option Value} {base : Heap} {Ps : List Addr}
def spHasWA (K : PySem.W.Frag) : Sp := fun vs H Q _ => ∃ (v : V) (d : PyData) (wd : Str) (n : Nat), vs = [v, .str wd, .int n] ∧ Dv K H v d ∧ 1 ≤ n ∧ Q (.bl (hasWD wd n d)) H
theorem ok_hasWA {f : Addr} {fd : FuncData} (F : Fun K "has_word" "has_word" sHasW f fd) (B : Bi mg) : FnOk P w K mg base CX0 1 f fd ["value", "word", "length"] (spHasWA K) := by
  refine F.ok scHasW (fun vs H Q E h => ?_) (fun cdv A outer s H vs Q E hr h => ?_)
  · obtain ⟨v, d, wd, n, rfl, _⟩ := h
    rfl
  · obtain ⟨v, d, wd, n, rfl, hd, hn, q⟩ := h
    refine ⟨_, pss_one (ps_ret (pe_and (pe_callB call_isi (by rfl) B.isi (by decide +kernel) (pa_cons (pv 0) (pa_cons (pe_bltn (by rfl) B.tup (by decide +kernel) (v := .ty "tuple") rfl) pa_nil)))
      (pe_and (pe_cmpR op_eq (pe_callB call_len_seq (by rfl) B.len PySem.boot_len (pa_cons (pv 0) pa_nil)) (pv 2) (nomark _))
      (pe_and (pe_callB call_isi (by rfl) B.isi (by decide +kernel) (pa_cons (pe_ix ix_tup (pv 0) pe_int (fun _ _ => rfl)) (pa_cons (pe_bltn (by rfl) B.str (by decide +kernel) (v := .ty "str") rfl) pa_nil)))
      (pe_one (pe_cmpR op_eq (pe_ix ix_tup (pv 0) pe_int (fun _ _ => rfl)) (pv 1) (nomark _))))))), ?_⟩
    refine ⟨v, rfl, v, .ty "tuple", .type (tyD d), .type "tuple", isTup d, rfl, .ty _, hd.ty, kit_ty (kit_tup d), isTup d, rfl, ?_⟩
    by_cases ht : isTup d = true
    · rw [ht]
      cases hd with
      | @tup a xs ds hS hA =>
        refine iteT ⟨.ref a, rfl, a, _, rfl, .inr hS, .int n, rfl, rfl, _, rfl, ?_⟩
        have hl := hA.len
        refine ite2 (fun hz => ?_) (fun hz => ?_)
        · have hz : (xs.length : Int) = n := V.int.inj (of_decide_eq_true hz)
          have hl2 : ds.length = n := by omega
          match ds, hA, hl2, q with
          | [], _, hl2, _ => exact absurd hl2 (by rw [List.length_nil]; omega)
          | d0 :: r, hA, hl2, q =>
            obtain ⟨v0, h0, hd0⟩ := hA.at_ (i := 0) (d := d0) rfl
            refine ⟨.ref a, rfl, a, _, 0, v0, rfl, rfl, hS, atI_nat (j := 0) h0, v0, .ty "str", .type (tyD d0), .type "str", isStr d0, rfl, .ty _, hd0.ty, kit_ty (kit_str d0), isStr d0, rfl, ?_⟩
            cases hd0 with
            | str y hy =>
              refine iteT ⟨.ref a, rfl, a, _, 0, .str y, rfl, rfl, hS, atI_nat (j := 0) h0, .str wd, rfl, rfl, ?_⟩
              have e2 : decide (V.str y = V.str wd) = decide (y = wd) := decide_eq_decide.mpr ⟨fun z => V.str.inj z, fun z => by rw [z]⟩
              rw [e2]
              have q : Q (.bl (decide (r.length + 1 = n) && decide (y = wd))) H := q
              rw [decide_eq_true (by rw [List.length_cons] at hl2; exact hl2), Bool.true_and] at q
              exact q
            | non => exact iteF q
            | bl b => exact iteF q
            | int i => exact iteF q
            | lst s a => exact iteF q
            | tup s a => exact iteF q
            | dic e => exact iteF q
        · have hz : ¬ (xs.length : Int) = n := fun z => hz (decide_eq_true (by rw [z]))
          have hl2 : ¬ ds.length = n := by omega
          have e : hasWD wd n (.tuple ds) = false := by
            match ds, hl2 with
            | [], _ => rfl
            | .str y :: r, hl2 =>
              show (decide (r.length + 1 = n) && _) = false
              rw [decide_eq_false (by rw [List.length_cons] at hl2; exact hl2), Bool.false_and]
            | .none :: _, _ => rfl
            | .bool _ :: _, _ => rfl
            | .int _ :: _, _ => rfl
            | .list _ :: _, _ => rfl
            | .tuple _ :: _, _ => rfl
            | .dict _ :: _, _ => rfl
          rw [e] at q
          exact q
      | _ => cases ht
    · have ht : isTup d = false := by simpa using ht
      rw [ht]
      have e : hasWD wd n d = false := by
        cases d with
        | tuple ds => cases ht
        | _ => rfl
      rw [e] at q
      exact iteF q
def spEvA (K : PySem.W.Frag) (Ps : List Addr) (g : PyData → Bool) : Sp := fun vs H Q _ => ∃ (v : V) (d : PyData), vs = [v] ∧ Dv K H v d ∧ Tabs Ps H ∧ ∀ H', Kp Ps H H' → Q (.bl (g d)) H'
theorem ok_arrA {f fH fC : Addr} {fd fdH fdC : FuncData} (F : Fun K "is_arrival" "is_arrival" sIsArr f fd)
    (GH : FnOk P w K mg base CX0 1 fH fdH ["value", "word", "length"] (spHasWA K)) (mgH : mg "has_word" = some (.ref fH)) (kH : PySem.W.keepIn K (.ref fH) = true) (bH : Binds K fdH ["value", "word", "length"] [])
    (GC : FnOk P w K mg base CX0 2 fC fdC ["value"] (spCarA K Ps)) (mgC : mg "is_car" = some (.ref fC)) (kC : PySem.W.keepIn K (.ref fC) = true) (bC : Binds K fdC ["value"] []) : FnOk P w K mg base CX0 3 f fd ["value"] (spEvA K Ps arrBD) := by
  refine F.ok scIsArr (fun vs H Q E h => ?_) (fun cdv A outer s H vs Q E hr h => ?_)
  · obtain ⟨a, e, rfl, _⟩ := h
    rfl
  · obtain ⟨v, d, rfl, hd, hT, q⟩ := h
    refine ⟨_, pss_one (ps_ret (pe_and (pe_call GH (hr.mono (by decide)) (by rfl) mgH kH bH .nil pass0 (pa_cons (pv 0) (pa_cons pe_str (pa_cons pe_int pa_nil))))
      (pe_one (pe_call GC hr (by rfl) mgC kC bC .nil pass0 (pa_cons (pe_ix ix_tup (pv 0) pe_int (fun _ _ => rfl)) pa_nil))))), ?_⟩
    refine ⟨v, rfl, v, d, "in", 2, rfl, hd, by decide, _, rfl, ?_⟩
    cases hh : hasWD "in" 2 d with
    | true =>
      obtain ⟨e, rfl⟩ := has2 hh
      cases hd with
      | @tup a xs ds hS hA =>
        obtain ⟨v1, h1, hd1⟩ := hA.at_ (i := 1) (d := e) rfl
        have q : ∀ H', Kp Ps H H' → Q (.bl (decide (("in" : Str) = "in") && carD e)) H' := q
        rw [decide_eq_true rfl, Bool.true_and] at q
        exact iteT ⟨.ref a, rfl, a, _, 1, v1, rfl, rfl, hS, atI_nat (j := 1) h1, v1, e, rfl, hd1, hT, q⟩
    | false =>
      have := q H (Kp.refl hT)
      rw [arr_has hh] at this
      exact iteF this
theorem ok_depA {f fH : Addr} {fd fdH : FuncData} (F : Fun K "is_departure" "is_departure" sIsDep f fd)
    (GH : FnOk P w K mg base CX0 1 fH fdH ["value", "word", "length"] (spHasWA K)) (mgH : mg "has_word" = some (.ref fH)) (kH : PySem.W.keepIn K (.ref fH) = true) (bH : Binds K fdH ["value", "word", "length"] []) : FnOk P w K mg base CX0 2 f fd ["value"] (spEvA K Ps depBD) := by
  refine F.ok scIsDep (fun vs H Q E h => ?_) (fun cdv A outer s H vs Q E hr h => ?_)
  · obtain ⟨a, e, rfl, _⟩ := h
    rfl
  · obtain ⟨v, d, rfl, hd, hT, q⟩ := h
    refine ⟨_, pss_one (ps_ret (pe_call GH hr (by rfl) mgH kH bH .nil pass0 (pa_cons (pv 0) (pa_cons pe_str (pa_cons pe_int pa_nil))))), ?_⟩
    refine ⟨v, rfl, v, d, "out", 1, rfl, hd, by decide, ?_⟩
    rw [← depBD_has]
    exact q H (Kp.refl hT)
end
end Ln


set_option Elab.async false
set_option linter.all false
set_option maxRecDepth 100000
set_option maxHeartbeats 4000000
namespace Ln
open PySem PySem.Spec PyProof.Rows L2 GxR
section
variable {P : Program} {w : World} {K : PySem.W.Frag} {mg : Str → Option Value} {base : Heap} {Ps : List Addr}
def spLogA (K : PySem.W.Frag) (Ps : List Addr) : Sp := fun vs H Q _ => ∃ (a : Addr) (v : V) (xs : List Str) (d : PyData), vs = [.ref a, v] ∧ LaneAt K H a xs ∧ laneB xs = true ∧ Dv K H v d ∧ (∀ ds, d = .list ds → ds.length ≤ 1000) ∧ Tabs Ps H ∧ ∀ H', Kp Ps H H' → Q (.bl (logD xs d)) H'
theorem ok_logA {f fR fA fD : Addr} {fd fdR fdA fdD : FuncData} (F : Fun K "is_log" "is_log" sIsLog f fd) (B : Bi mg)
    (GR : FnOk P w K mg base CX0 5 fR fdR ["value"] (spReqLane K Ps)) (mgR : mg "require_lane" = some (.ref fR)) (kR : PySem.W.keepIn K (.ref fR) = true) (bR : Binds K fdR ["value"] [])
    (GA : FnOk P w K mg base CX0 3 fA fdA ["value"] (spEvA K Ps arrBD)) (mgA : mg "is_arrival" = some (.ref fA)) (kA : PySem.W.keepIn K (.ref fA) = true) (bA : Binds K fdA ["value"] [])
    (GD : FnOk P w K mg base CX0 2 fD fdD ["value"] (spEvA K Ps depBD)) (mgD : mg "is_departure" = some (.ref fD)) (kD : PySem.W.keepIn K (.ref fD) = true) (bD : Binds K fdD ["value"] []) :
    FnOk P w K mg base CX0 6 f fd ["start", "value"] (spLogA K Ps) := by
  refine F.ok scIsLog (fun vs H Q E h => ?_) (fun cdv A outer s H vs Q E hr h => ?_)
  · obtain ⟨a, v, xs, d, rfl, _⟩ := h
    rfl
  · obtain ⟨a, v, xs, d, rfl, hL, hB, hd, hlen, hT, q⟩ := h
    refine ⟨_, pss_cons (ps_expr (pe_call GR hr (by rfl) mgR kR bR .nil pass0 (pa_cons (pv 0) pa_nil)))
      (pss_cons (ps_if (pt_not (pt_val (pe_callB call_isi (by rfl) B.isi (by decide +kernel) (pa_cons (pv 1) (pa_cons (pe_bltn (by rfl) B.lst (by decide +kernel) (v := .ty "list") rfl) pa_nil))))) (pss_one (ps_ret pe_bl)) pss_nil)
      (pss_cons (ps_set (i := 2) scIsLog.nd rfl (.inl rfl) (pe_callTy (cr_setT rfl) (by rfl) B.set (by decide +kernel) (pa_cons (pv 0) pa_nil)))
      (pss_cons (ps_set (i := 3) scIsLog.nd rfl (.inl rfl) (pe_callB call_len_seq (by rfl) B.len PySem.boot_len (pa_cons (pv 0) pa_nil)))
      (pss_cons (ps_for PassesOwn.never rfl (pi_list (pv 1)) (pg_name (i := 4) scIsLog.nd rfl (.inl rfl))
        (pss_one (ps_if (PW.pt (pw_and (pt_val (pe_call GA (hr.mono (by decide)) (by rfl) mgA kA bA .nil pass0 (pa_cons (pv 4) pa_nil))) (pw_and1 (pt_cmpR or_snotinK (pe_ix ix_tup (pv 4) pe_int (fun _ _ => rfl)) (pv 2) (by rfl)))))
          (pss_cons (ps_expr (pe_saddK (pv 2) (pa_cons (pe_ix ix_tup (pv 4) pe_int (fun _ _ => rfl)) pa_nil))) (pss_one (ps_aug (i := 3) scIsLog.nd rfl (.inl rfl) pe_int ip_add)))
          (pss_one (ps_if (PW.pt (pw_and (pt_val (pe_call GD (hr.mono (by decide)) (by rfl) mgD kD bD .nil pass0 (pa_cons (pv 4) pa_nil))) (pw_and1 (pt_cmpR op_gt (pv 3) pe_int (nomark _)))))
            (pss_one (ps_aug (i := 3) scIsLog.nd rfl (.inl rfl) pe_int ip_sub))
            (pss_one (ps_ret pe_bl)))))))
      (pss_one (ps_ret pe_bl)))))), ?_⟩
    -- require_lane(start)
    refine ⟨.ref a, rfl, a, xs, rfl, hL.at_, by have := hL.few; omega, hL.sz, hB, hT, fun H1 k1 => ?_⟩
    have hL1 := hL.kp k1 hT
    have hd1 := hd.kp k1 hT
    refine ⟨v, rfl, v, .ty "list", .type (tyD d), .type "list", isLst d, rfl, .ty _, hd1.ty, kit_ty (kit_lst d), isLst d, rfl, ?_⟩
    by_cases ht : isLst d = true
    · rw [ht]
      refine iteF ?_
      cases hd with
      | @lst l vs ds hS hA =>
        have hfew := hlen ds rfl
        have hvl := hA.len
        have hS1 := k1.seqL hT hS
        -- used = set(start); present = len(start)
        refine ⟨.ref a, rfl, a, xs, rfl, hL1.at_, by have := hL.few; omega, fun u n hu hn _ => ?_⟩
        have hu0 : H u = none := k1.free hT hu
        have k2 : Kp Ps H (upd H1 u (SetK P w u (memK (xs.map Sum.inr)) n)) := k1.upd hT hu0
        have hL2 := hL.kp k2 hT
        refine ⟨.ref a, rfl, a, _, rfl, .inr hL2.at_, ?_⟩
        refine ⟨.ref l, rfl, l, rfl, ⟨_, k2.seqL hT hS⟩, for_list (K := K) (a := l) (xs := vs) (fun i σ H' => ∃ (v4 : Option V) (m : Nat) (S : Key → Bool) (us : List Str) (c : Nat), σ = [some (.ref a), some (.ref l), some (.ref u), some (.int (m : Nat)), v4] ∧ Kp Ps H H' ∧
          H' u = some (SetK P w u S c) ∧ c ≤ xs.length + i ∧ (∀ x : Str, S (.inr x) = true ↔ x ∈ us) ∧ i ≤ ds.length ∧ logW xs xs.length ds = logW us m (ds.drop i)) ?_ ?_ ?_ ?_⟩
        · refine ⟨none, xs.length, _, xs, n, ?_, k2, upd_same, by omega, fun x => ?_, Nat.zero_le _, rfl⟩
          · rw [List.length_map]
            rfl
          · rw [memK_iff, List.mem_map]
            constructor
            · intro ⟨y, hy, e⟩
              rw [← Sum.inr.inj e]
              exact hy
            · intro h
              exact ⟨x, h, rfl⟩
        · rintro i σ H' _ ⟨_, _, _, _, _, _, kp, _⟩
          exact kp.seqL hT hS
        · rintro i y σ H' hi ⟨v4, m, S, us, c, rfl, kp, hSet, hc, hSm, hie, hlog⟩
          have hlt : i < ds.length := by
            have h1 := (List.getElem?_eq_some_iff.mp hi).1
            omega
          obtain ⟨ev, hev⟩ : ∃ ev, ds[i]? = some ev := ⟨ds[i], List.getElem?_eq_getElem hlt⟩
          obtain ⟨y2, hy2, hdy⟩ := hA.at_ hev
          obtain rfl : y2 = y := Option.some.inj (hy2.symm.trans hi)
          have hdrop : ds.drop i = ev :: ds.drop (i + 1) := by
            rw [List.drop_eq_getElem_cons hlt]
            rw [List.getElem?_eq_getElem hlt] at hev
            rw [Option.some.inj hev]
          rw [hdrop] at hlog
          have few1 := hL.few
          have hdk := hdy.kp kp hT
          -- is_arrival(event)
          refine ⟨_, rfl, y2, ev, rfl, hdk, kp.tab, fun H3 k3 => ⟨_, rfl, ?_⟩⟩
          have kp3 := kp.trans k3
          have hSet3 := k3.ext kp.tab hSet
          have hd3 := hdk.kp k3 kp.tab
          have bad : ∀ H4, Kp Ps H3 H4 → logW us m (ev :: ds.drop (i + 1)) = false → Q (.bl false) H4 := fun H4 k4 hf => by
            have q : ∀ H', Kp Ps H H' → Q (.bl (logW xs xs.length ds)) H' := q
            have := q H4 (kp3.trans k4)
            rw [hlog, hf] at this
            exact this
          have eq1 := logW_cons (u := us) (n := m) (d := ev) (r := ds.drop (i + 1))
          cases ha : arrBD ev with
          | true =>
            obtain ⟨x, rfl, hx⟩ := arr_of ha
            rw [if_pos ha] at eq1
            have eq1 : logW us m (.tuple [.str "in", .str x] :: ds.drop (i + 1)) = if ¬ x ∈ us then logW (x :: us) (m + 1) (ds.drop (i + 1)) else false := eq1
            cases hd3 with
            | @tup b zs _ hb hbA =>
              obtain ⟨v1, h1, hv1⟩ := hbA.at_ (i := 1) (d := .str x) rfl
              cases hv1 with
              | str _ hxs =>
                refine iteT ⟨.ref b, rfl, b, _, 1, .str x, rfl, rfl, hb, atI_nat (j := 1) h1, .ref u, rfl, .inr x, u, S, c, rfl, rfl, hSet3, _, rfl, ?_⟩
                show if (!S (.inr x)) = true then _ else _
                cases hin : S (.inr x) with
                | false =>
                  have hxu : ¬ x ∈ us := fun z => by
                    rw [(hSm x).mpr z] at hin
                    cases hin
                  refine iteT ⟨.ref u, rfl, ⟨u, S, c, rfl, hSet3⟩, .ref b, rfl, b, _, 1, .str x, rfl, rfl, hb, atI_nat (j := 1) h1, u, .inr x, S, c, rfl, rfl, hSet3, by unfold scanBound; omega, ?_⟩
                  refine ⟨_, rfl, _, _, rfl, rfl, some (.ref b), m + 1, _, x :: us, _, rfl, kp3.upd hT hu0, upd_same, ?_, fun z => ?_, hlt, ?_⟩
                  · rw [hin, if_neg Bool.false_ne_true]
                    omega
                  · show (S (.inr z) || decide ((Sum.inr z : Key) = Sum.inr x)) = true ↔ _
                    rw [Bool.or_eq_true, hSm z, decide_eq_true_iff, List.mem_cons]
                    constructor
                    · rintro (h | h)
                      · exact .inr h
                      · exact .inl (Sum.inr.inj h)
                    · rintro (h | h)
                      · exact .inr (by rw [h])
                      · exact .inl h
                  · rw [hlog, eq1, if_pos hxu]
                | true =>
                  have hxu : x ∈ us := (hSm x).mp hin
                  refine iteF ?_
                  refine ⟨.ref b, rfl, .ref b, _, rfl, .tup hb hbA, kp3.tab, fun H4 k4 => ⟨_, rfl, ?_⟩⟩
                  refine iteF (iteF (bad H4 k4 ?_))
                  rw [eq1, if_neg fun z => z hxu]
          | false =>
            rw [if_neg (by rw [ha]; exact Bool.false_ne_true)] at eq1
            refine iteF (iteF ?_)
            refine ⟨_, rfl, y2, ev, rfl, hd3, kp3.tab, fun H4 k4 => ⟨_, rfl, ?_⟩⟩
            cases hdp : depBD ev with
            | true =>
              rw [if_pos hdp] at eq1
              refine iteT ⟨_, rfl, _, _, rfl, rfl, _, rfl, ite2 (fun hm => ?_) (fun hm => ?_)⟩
              · have hm : (0 : Int) < (m : Nat) := of_decide_eq_true hm
                refine ⟨_, rfl, _, _, rfl, rfl, some y2, m - 1, S, us, c, ?_, kp3.trans k4, k4.ext kp3.tab hSet3, by omega, hSm, hlt, ?_⟩
                · show [some (V.ref a), some (V.ref l), some (V.ref u), some (V.int ((m : Nat) - 1)), some y2] = _
                  rw [show ((m : Nat) : Int) - 1 = ((m - 1 : Nat) : Int) by omega]
                · rw [hlog, eq1, if_pos (by omega)]
              · have hm : ¬ 0 < m := fun z => hm (decide_eq_true (by omega))
                exact bad H4 k4 (by rw [eq1, if_neg hm])
            | false =>
              rw [if_neg (by rw [hdp]; exact Bool.false_ne_true)] at eq1
              exact iteF (iteF (bad H4 k4 eq1))
        · rintro σ H' ⟨v4, m, S, us, c, rfl, kp, hSet, hc, hSm, hie, hlog⟩
          have q : ∀ H', Kp Ps H H' → Q (.bl (logW xs xs.length ds)) H' := q
          have := q H' kp
          rw [hlog, hvl, List.drop_length] at this
          exact this
      | _ => cases ht
    · have ht : isLst d = false := by simpa using ht
      rw [ht]
      have e : logD xs d = false := by
        cases d with
        | list ds => cases ht
        | _ => rfl
      have := q H1 k1
      rw [e] at this
      exact iteT this
end
end Ln


set_option Elab.async false
set_option linter.all false
set_option maxRecDepth 100000
set_option maxHeartbeats 4000000
namespace Ln
open PySem PySem.Spec PyProof.Rows L2 GxR
/-! ### what is raised -/
/-- a class of the program's own, over LaneError over ValueError -/
structure Xc (K : PySem.W.Frag) (mg : Str → Option Value) (x : Str) (C : Addr) : Prop where
  g : mg x = some (.ref C)
  x : PySem.W.excIn K C [.type "ValueError", .type "Exception", .type "BaseException", .type "object"] "ValueError.__new__" = true
  k : PySem.W.keepIn K (.ref C) = true
  b : PySem.W.subIn K (.ref C) (.type "BaseException") = some true
  t : PySem.W.typeIn K (.ref C) = some (.type "type")
section
variable {P : Program} {w : World} {K : PySem.W.Frag} {mg : Str → Option Value} {base : Heap} {Ps : List Addr}
/-- a promise without exceptions, where exceptions may be -/
theorem FnOk_lift {k : Nat} {f : Addr} {fd : FuncData} {ps : List Str} {sp : Sp} (F : FnOk P w K mg base CX0 k f fd ps sp) : FnOk P w K mg base (L2.CX P w) k f fd ps sp := by
  refine ⟨F.len, fun A outer s H args us vs Q E hr he hb hv hs => ?_⟩
  refine codeAny_mono (F.run A outer s H args us vs Q E hr he hb hv hs) fun r s' h => ?_
  cases r with
  | ok x =>
    cases x with
    | ret u => exact h
    | _ => exact h
  | error e => exact h.elim
def spReqLaneX (K : PySem.W.Frag) (Ps : List Addr) (C : Addr) : Sp := fun vs H Q E => ∃ (v : V) (d : PyData), vs = [v] ∧ Dv K H v d ∧ (∀ ds, d = .tuple ds → ds.length ≤ 1000) ∧ Tabs Ps H ∧ (laneD d = true → ∀ H', Kp Ps H H' → Q .non H') ∧ (laneD d = false → ∀ H', Kp Ps H H' → E (.ref C) none H')
theorem ok_reqLaneX {f fL C : Addr} {fd fdL : FuncData} (F : Fun K "require_lane" "require_lane" sReqLane f fd) (XC : Xc K mg "InvalidLane" C)
    (GL : FnOk P w K mg base CX0 4 fL fdL ["value"] (spLaneA K Ps)) (mgL : mg "is_lane" = some (.ref fL)) (kL : PySem.W.keepIn K (.ref fL) = true) (bL : Binds K fdL ["value"] []) : FnOk P w K mg base (L2.CX P w) 5 f fd ["value"] (spReqLaneX K Ps C) := by
  refine F.okX scReqLane (fun vs H Q E h => ?_) (fun cdv A outer s H vs Q E hr h => ?_)
  · obtain ⟨v, d, rfl, _⟩ := h
    rfl
  · obtain ⟨v, d, rfl, hd, hl, hT, q1, q2⟩ := h
    refine ⟨_, pss_one (ps_if (pt_not (pt_val (pe_call GL hr (by rfl) mgL kL bL .nil pass0 (pa_cons (pv 0) pa_nil)))) (pss_one (ps_raise rfl (takes_of rfl rfl rfl rfl) (pmk_own PySem.F.excBase_ValueError XC.x XC.g XC.k (raises_own XC.b XC.t) rfl))) pss_nil), ?_⟩
    refine ⟨v, rfl, v, d, rfl, hd, hl, hT, fun H' kp => ⟨_, rfl, ?_⟩⟩
    cases h : laneD d with
    | true => exact iteF (q1 h H' kp)
    | false => exact iteT (q2 h H' kp)
end
end Ln


set_option Elab.async false
set_option linter.all false
set_option maxRecDepth 100000
set_option maxHeartbeats 4000000
namespace Ln
open PySem PySem.Spec PyProof.Rows L2 GxR
theorem pss_dead {X : Cx} {ss : List Stmt} : PSs X ss fun _ _ _ => False := ⟨fun _ _ _ _ _ _ h => h.elim⟩
/-- the cars of a lane, if it is one -/
def laneO : PyData → Option (List Str)
  | .tuple ds => match strsD ds with
    | some xs => if laneB xs = true then some xs else none
    | none => none
  | _ => none
theorem laneO_none {d : PyData} (h : laneO d = none) : laneD d = false := by
  cases d with
  | tuple ds =>
    show (match strsD ds with | some xs => laneB xs | none => false) = false
    have h : (match strsD ds with | some xs => if laneB xs = true then some xs else none | none => none) = none := h
    cases q : strsD ds with
    | none => rfl
    | some xs =>
      rw [q] at h
      show laneB xs = false
      cases z : laneB xs with
      | false => rfl
      | true =>
        have h : (if laneB xs = true then some xs else none) = none := h
        rw [if_pos z] at h
        cases h
  | _ => rfl
theorem laneO_some {d : PyData} {xs : List Str} (h : laneO d = some xs) : (∃ ds, d = .tuple ds ∧ strsD ds = some xs) ∧ laneB xs = true ∧ laneD d = true := by
  cases d with
  | tuple ds =>
    have h : (match strsD ds with | some xs => if laneB xs = true then some xs else none | none => none) = some xs := h
    cases q : strsD ds with
    | none =>
      rw [q] at h
      cases h
    | some ys =>
      rw [q] at h
      have h : (if laneB ys = true then some ys else none) = some xs := h
      cases z : laneB ys with
      | false =>
        rw [z, if_neg Bool.false_ne_true] at h
        cases h
      | true =>
        rw [z, if_pos rfl] at h
        cases h
        refine ⟨⟨ds, rfl, q⟩, z, ?_⟩
        show (match strsD ds with | some xs => laneB xs | none => false) = true
        rw [q]
        exact z
  | _ => cases h
/-- sizes of an argument -/
def SzA (d : PyData) : Prop := (∀ ds, d = .tuple ds → ds.length ≤ 400) ∧ ∀ ds, d = .list ds → ds.length ≤ 1000
/-- how a call ends that asks for validity only -/
def Out (Ps : List Addr) (o : Option Addr) (H : Hp) (Q : VK) (E : XK) : Prop := match o with
  | none => ∀ H', Kp Ps H H' → Q .non H'
  | some C => ∀ H', Kp Ps H H' → E (.ref C) none H'
def reqLogO (CL CG : Addr) (d e : PyData) : Option Addr := match laneO d with
  | none => some CL
  | some xs => if logD xs e = true then none else some CG
def reqFinO (CL CG : Addr) (d e g : PyData) : Option Addr := match reqLogO CL CG d e with
  | some C => some C
  | none => if laneD g = true then none else some CL
section
variable {P : Program} {w : World} {K : PySem.W.Frag} {mg : Str → Option Value} {base : Heap} {Ps : List Addr}
def spLogX (K : PySem.W.Frag) (Ps : List Addr) (CL : Addr) : Sp := fun vs H Q E => ∃ (v u : V) (d e : PyData), vs = [v, u] ∧ Dv K H v d ∧ Dv K H u e ∧ SzA d ∧ SzA e ∧ Tabs Ps H ∧
  (laneO d = none → ∀ H', Kp Ps H H' → E (.ref CL) none H') ∧ (∀ xs, laneO d = some xs → ∀ H', Kp Ps H H' → Q (.bl (logD xs e)) H')
def spLogXb (K : PySem.W.Frag) (Ps : List Addr) (CL : Addr) : Sp := fun vs H Q E => ∃ (v u : V) (d : PyData), vs = [v, u] ∧ Dv K H v d ∧ SzA d ∧ Tabs Ps H ∧ laneD d = false ∧ ∀ H', Kp Ps H H' → E (.ref CL) none H'
theorem ok_logXb {f fR CL : Addr} {fd fdR : FuncData} (F : Fun K "is_log" "is_log" sIsLog f fd)
    (GR : FnOk P w K mg base (L2.CX P w) 5 fR fdR ["value"] (spReqLaneX K Ps CL)) (mgR : mg "require_lane" = some (.ref fR)) (kR : PySem.W.keepIn K (.ref fR) = true) (bR : Binds K fdR ["value"] []) : FnOk P w K mg base (L2.CX P w) 6 f fd ["start", "value"] (spLogXb K Ps CL) := by
  refine F.okX scIsLog (fun vs H Q E h => ?_) (fun cdv A outer s H vs Q E hr h => ?_)
  · obtain ⟨v, u, d, rfl, _⟩ := h
    rfl
  · obtain ⟨v, u, d, rfl, hd, hz, hT, hb, q⟩ := h
    refine ⟨_, pss_cons (ps_expr (pe_call GR hr (by rfl) mgR kR bR .nil (passes_call (takes_of rfl rfl rfl rfl) fun _ _ _ _ h => h) (pa_cons (pv 0) pa_nil))) pss_dead, ?_⟩
    exact ⟨v, rfl, v, d, rfl, hd, (fun ds e => by have := hz.1 ds e; omega), hT, (fun z => by rw [hb] at z; cases z), fun _ => q⟩
theorem ok_logX {f CL : Addr} {fd : FuncData} (h1 : FnOk P w K mg base CX0 6 f fd ["start", "value"] (spLogA K Ps)) (h2 : FnOk P w K mg base (L2.CX P w) 6 f fd ["start", "value"] (spLogXb K Ps CL)) : FnOk P w K mg base (L2.CX P w) 6 f fd ["start", "value"] (spLogX K Ps CL) :=
  (fn_or (FnOk_lift h1) h2).imp fun vs H Q E ⟨v, u, d, e, ev, hd, he, hz, hz2, hT, q1, q2⟩ => by
    cases hl : laneO d with
    | none => exact .inr ⟨v, u, d, ev, hd, hz, hT, laneO_none hl, q1 hl⟩
    | some xs =>
      obtain ⟨⟨ds, rfl, hs⟩, hB, _⟩ := laneO_some hl
      cases hd with
      | @tup a vs _ hS hA =>
        obtain ⟨e1, e2, e3⟩ := hA.strs hs
        subst e1
        have hlen := hz.1 ds rfl
        rw [e2, List.length_map] at hlen
        exact .inl ⟨a, u, xs, e, ev, ⟨hS, hlen, e3⟩, hB, he, hz2.2, hT, q2 xs hl⟩
def spReqLogX (K : PySem.W.Frag) (Ps : List Addr) (CL CG : Addr) : Sp := fun vs H Q E => ∃ (v u : V) (d e : PyData), vs = [v, u] ∧ Dv K H v d ∧ Dv K H u e ∧ SzA d ∧ SzA e ∧ Tabs Ps H ∧ Out Ps (reqLogO CL CG d e) H Q E
theorem ok_reqLogX {f fL CL CG : Addr} {fd fdL : FuncData} (F : Fun K "require_log" "require_log" sReqLog f fd) (XG : Xc K mg "InvalidLog" CG)
    (GL : FnOk P w K mg base (L2.CX P w) 6 fL fdL ["start", "value"] (spLogX K Ps CL)) (mgL : mg "is_log" = some (.ref fL)) (kL : PySem.W.keepIn K (.ref fL) = true) (bL : Binds K fdL ["start", "value"] []) : FnOk P w K mg base (L2.CX P w) 7 f fd ["start", "log"] (spReqLogX K Ps CL CG) := by
  refine F.okX scReqLog (fun vs H Q E h => ?_) (fun cdv A outer s H vs Q E hr h => ?_)
  · obtain ⟨v, u, d, e, rfl, _⟩ := h
    rfl
  · obtain ⟨v, u, d, e, rfl, hd, he, hz, hz2, hT, q⟩ := h
    refine ⟨_, pss_one (ps_if (pt_not (pt_val (pe_call GL hr (by rfl) mgL kL bL .nil (passes_call (takes_of rfl rfl rfl rfl) fun _ _ _ _ h => h) (pa_cons (pv 0) (pa_cons (pv 1) pa_nil))))) (pss_one (ps_raise rfl (takes_of rfl rfl rfl rfl) (pmk_own PySem.F.excBase_ValueError XG.x XG.g XG.k (raises_own XG.b XG.t) rfl))) pss_nil), ?_⟩
    refine ⟨v, rfl, u, rfl, v, u, d, e, rfl, hd, he, hz, hz2, hT, fun hl => ?_, fun xs hl H' kp => ⟨_, rfl, ?_⟩⟩
    · unfold reqLogO at q
      rw [hl] at q
      exact q
    · unfold reqLogO at q
      rw [hl] at q
      have q : Out Ps (if logD xs e = true then none else some CG) H Q E := q
      cases z : logD xs e with
      | true =>
        rw [if_pos z] at q
        exact iteF (q H' kp)
      | false =>
        rw [if_neg (by rw [z]; exact Bool.false_ne_true)] at q
        exact iteT (q H' kp)
end
end Ln


set_option Elab.async false
set_option linter.all false
set_option maxRecDepth 100000
set_option maxHeartbeats 4000000
namespace Ln
open PySem PySem.Spec PyProof.Rows L2
/-! ### t[::-1] of a tuple -/
theorem fmap_some {α β : Type} {f : α → Option β} {g : α → β} : ∀ {xs : List α}, (∀ x ∈ xs, f x = some (g x)) → xs.filterMap f = xs.map g
  | [], _ => rfl
  | x :: r, h => by rw [List.filterMap_cons_some (h x List.mem_cons_self), fmap_some fun y hy => h y (List.mem_cons_of_mem _ hy), List.map_cons]
theorem pick_back (xs : Array Value) : ((List.range xs.size).filterMap fun (m : Nat) => xs[(((xs.size : Nat) : Int) - 1 + (m : Int) * (-1)).toNat]?).toArray = xs.toList.reverse.toArray := by
  congr 1
  have e : ∀ m ∈ List.range xs.size, xs[(((xs.size : Nat) : Int) - 1 + (m : Int) * (-1)).toNat]? = some (xs.toList.reverse.getD m .none) := fun m hm => by
    have hm := List.mem_range.mp hm
    rw [show (((xs.size : Nat) : Int) - 1 + (m : Int) * (-1)).toNat = xs.size - 1 - m by omega, ← Array.getElem?_toList, List.getD_eq_getElem?_getD, List.getElem?_reverse (by rw [Array.length_toList]; exact hm), Array.length_toList]
    have h2 : xs.size - 1 - m < xs.toList.length := by
      rw [Array.length_toList]
      omega
    rw [List.getElem?_eq_getElem h2]
    rfl
  have e2 : (List.range xs.size).filterMap (fun (m : Nat) => xs[(((xs.size : Nat) : Int) - 1 + (m : Int) * (-1)).toNat]?) = (List.range xs.size).map fun m => xs.toList.reverse.getD m .none := by
    exact fmap_some e
  rw [e2]
  refine List.ext_getElem? fun i => ?_
  by_cases h : i < xs.size
  · have h2 : i < xs.toList.reverse.length := by
      rw [List.length_reverse, Array.length_toList]
      exact h
    rw [List.getElem?_map, List.getElem?_range h, List.getElem?_eq_getElem h2]
    show some (xs.toList.reverse.getD i .none) = _
    rw [List.getD_eq_getElem?_getD, List.getElem?_eq_getElem h2]
    rfl
  · rw [List.getElem?_eq_none (by rw [List.length_map, List.length_range]; omega), List.getElem?_eq_none (by rw [List.length_reverse, Array.length_toList]; omega)]
section
variable {prog : Program} {w : World} {A : Around} {E : Value → Shared → Prop} {s : Shared}
theorem places_back (n : Nat) : Builtin.Slice.slicePlaces ((n : Int) - 1) (-1) (-1) = n := by
  unfold Builtin.Slice.slicePlaces
  rw [if_neg (by decide)]
  by_cases h : 0 < n
  · rw [if_pos (by omega), show (-(-1) : Int) = 1 from rfl, Int.ediv_one]
    omega
  · rw [if_neg (by omega)]
    omega
theorem applied_back {sl : Addr} {vs : Value} {n : Nat} {Q : Int × Int × Nat → Shared → Prop} (hs : s.heap.IsSliceOf sl .none .none vs) (ps : IsPart vs (some (-1))) (h : Q ((n : Int) - 1, -1, n) s) : wpAny (model prog w) A (Builtin.Slice.sliceApplied (.ref sl) (pure (n : Int))) Q E s := by
  obtain ⟨os, hos, hcs, hds⟩ := id hs
  unfold Builtin.Slice.sliceApplied Builtin.Slice.sliceFields
  refine wpAny_bind (wpAny_bind (wpAny_field hos hds (x := .none) rfl (wpAny_bind (wpAny_field hos hds (x := .none) rfl (wpAny_bind (wpAny_field hos hds (x := vs) rfl (wpAny_pure ?_)))))))
  refine wpAny_bind (HT.slicePart_ ps ?_)
  show wpAny _ _ (if ((-1 : Int) == 0) = true then _ else _) _ _ s
  rw [if_neg (by decide)]
  refine wpAny_bind (slicePart_none (wpAny_bind (slicePart_none (wpAny_bind (wpAny_pure ?_)))))
  show wpAny _ _ (pure ((n : Int) - 1, (-1 : Int), Builtin.Slice.slicePlaces ((n : Int) - 1) (-1) (-1))) _ _ s
  rw [places_back]
  exact wpAny_pure h
theorem getItem_tuple_back {t sl : Addr} {its : Array Value} {vs : Value} {Q : Value → Shared → Prop} (ht : IsTup s.heap t its) (hs : s.heap.IsSliceOf sl .none .none vs) (ps : IsPart vs (some (-1)))
    (h : Q (.ref s.heap.objs.size) { s with heap := s.heap.push { cls := .type "tuple", data := .seq its.toList.reverse.toArray } }) (hsz : its.size ≤ sizeLine) : wpAny (model prog w) A (getItem (.ref t) (.ref sl)) Q E s := by
  have hk : sizeOk (.seq its.toList.reverse.toArray) := by
    show its.toList.reverse.toArray.size ≤ sizeLine
    rw [List.size_toArray, List.length_reverse, Array.length_toList]
    exact hsz
  obtain ⟨os, hos, hcs, hds⟩ := id hs
  have hTs : s.TypeIs (.ref sl) "slice" := ⟨os, hos, hcs⟩
  unfold getItem
  try with_reducible refine wpAny_holding ?_
  first | refine wpAny_bind (wpAny_pure ?_) | skip
  refine wpAny_bind (wpAny_sequenceKey ht.typeIs (by decide) (wpAny_bind (wpAny_callSpecial?_slot (name := Str.ofString "__getitem__") ht.typeIs PyProof.Rows.slot_tuple_getitem (wpAny_call_entry PyProof.Rows.slot_tuple_getitem ht.typeIs entry_tuple_getitem ?_ (args_tuple_getitem _ _)))))
  show wpAny _ _ (Builtin.Tuple.tupleItemsOf (.ref t) >>= _) _ _ s
  refine wpAny_bind (tupleItemsOf_ ht (wpAny_bind (wpAny_typeOf hTs ?_)))
  rw [if_pos (by decide)]
  refine wpAny_bind (applied_back hs ps ?_)
  have hno : ¬ ((((its.size : Nat) : Int) - 1 == 0 && (-1 : Int) == 1 && its.size == its.size) = true) := fun q => by
    rw [Bool.and_eq_true, Bool.and_eq_true] at q
    exact absurd q.1.2 (by decide)
  show wpAny _ _ (if (((its.size : Nat) : Int) - 1 == 0 && (-1 : Int) == 1 && its.size == its.size) = true then _ else _) _ _ s
  rw [if_neg hno, pick_back]
  first
    | exact wpAny_bind (m := Builtin.Tuple.tupleExact _) (wpAny_newObj_type (wpAny_pure ⟨_, rfl, wpAny_pure h⟩) hk)
    | exact wpAny_bind (m := Builtin.Tuple.tupleExact _) (wpAny_newObj_type (wpAny_bind (wpAny_pure (wpAny_pure ⟨_, rfl, wpAny_pure h⟩))) hk)
    | exact wpAny_bind (wpAny_bind (m := Builtin.Tuple.tupleExact _) (wpAny_newObj_type (wpAny_pure (wpAny_pure ⟨_, rfl, wpAny_pure h⟩)) hk))
    | exact wpAny_bind (wpAny_bind (m := Builtin.Tuple.tupleExact _) (wpAny_newObj_type (wpAny_pure ⟨_, rfl, wpAny_pure h⟩) hk))
end
section
variable {X : Cx}
def tRevT (K : PySem.W.Frag) (te : TE) : TE := fun σ H Q => te σ H fun x H1 => ∃ a xs, x = .ref a ∧ SqT K H1 a xs ∧ ∀ p, H1 p = none → Q (.ref p) (upd H1 p (.tup xs.reverse))
theorem pe_revT {e : Expr} {te : TE} {k : Nat} {p1 p2 p3 pos : Pos} (he : PE X e te) : PE X (.Subscript e (.Slice none none (some (.UnaryOp .USub (.Constant (.int 1) k p1) p2)) p3) pos) (tRevT X.K te) := by
  refine ⟨fun pins s σ H Q I h => Subscript_ (thn (he.run pins s σ H _ I h) fun v s1 ⟨x, H1, I1, r1, q1⟩ => ?_)⟩
  obtain ⟨a, xs, rfl, hx, q⟩ := q1
  cases r1
  have hst : PO X (some (.UnaryOp .USub (.Constant (.int 1) k p1) p2)) (tPart (tUn (rU fun i => .int (-i)) (tC (.int 1)))) := po_some (pe_un un_neg pe_int)
  refine wpAny_Slice ?_
  rw [evalPart_none]
  refine wpAny_pure (wpAny_pure ?_)
  refine thn (hst.run pins s1 σ H1 (fun o H4 => o = some (-1) ∧ H4 = H1) I1 ⟨1, rfl, -1, rfl, rfl, rfl⟩) fun vs s4 ⟨o, H4, I4, ps, eo, e4⟩ => ?_
  subst eo e4
  have I5 : Inv X pins σ H4 { s4 with heap := s4.heap.push { cls := .type "slice", data := .fields #[.none, .none, vs] } } := I4.kept (t' := s4.toks) fun b ob q => Heap.get?_push_of_some _ q
  obtain ⟨its, r, ht, hz⟩ := I5.tuple hx
  show wpAny (model X.prog X.w) X.A (subscriptTail e (.Slice none none (some (.UnaryOp .USub (.Constant (.int 1) k p1) p2)) p3) (.ref a) (.ref s4.heap.objs.size)) (EP X pins σ Q) X.xe { s4 with heap := s4.heap.push { cls := .type "slice", data := .fields #[.none, .none, vs] } }
  refine tail_any (ops := [.ref a, .ref s4.heap.objs.size]) ht.typeIs (PyProof.Rows.slot_tuple_getitem.lookup) ?_ (by with_unfolding_all rfl)
  refine getItem_tuple_back ht (Heap.IsSliceOf.new _ .none .none vs) ps ?_ (by rw [List.size_toArray, ← r.length]; exact hz)
  refine ⟨.ref _, _, I5.laid (t' := s4.toks) (o := .tup xs.reverse) (fun b ob q => Heap.get?_push_of_some _ q) (Nat.le_refl _) ?_, rfl, q _ (I5.hok.fresh (Nat.le_refl _))⟩
  refine ⟨by rw [List.length_reverse]; exact hz, its.reverse, r.reverse, ?_⟩
  exact ⟨_, Heap.get?_push_size _ rfl, rfl, 0, rfl⟩
end
end Ln


set_option Elab.async false
set_option linter.all false
set_option maxRecDepth 100000
set_option maxHeartbeats 4000000
namespace Ln
open PySem PySem.Spec PyProof.Rows L2
/-! ### tuples that have no attributes of their own: what t.index(..) asks -/
def TupD (H : Hp) (a : Addr) (xs : List V) : Prop := ∃ ob : Obj, ob.dict = none ∧ H a = some (.frz ob (.tup xs))
theorem TupD.sq {K : PySem.W.Frag} {H : Hp} {a : Addr} {xs : List V} (h : TupD H a xs) : SqT K H a xs := by
  obtain ⟨ob, _, e⟩ := h
  exact .inl (.inr ⟨ob, e⟩)
theorem TupD.kp {Ps : List Addr} {H H1 : Hp} {a : Addr} {xs : List V} (h : TupD H a xs) (k : Kp Ps H H1) (hT : Tabs Ps H) : TupD H1 a xs := by
  obtain ⟨ob, d, e⟩ := h
  exact ⟨ob, d, k.at_ a _ e (tab_ne hT e fun q z => by cases z)⟩
theorem TupD.same {H H1 : Hp} {a : Addr} {xs : List V} (h : TupD H a xs) (k : L2.Same H H1) : TupD H1 a xs := by
  obtain ⟨ob, d, e⟩ := h
  exact ⟨ob, d, k _ _ e⟩
theorem TupD.of {H : Hp} {p : Addr} {ob : Obj} {xs : List V} (d : ob.dict = none) : TupD (upd H p (.frz ob (.tup xs))) p xs := ⟨ob, d, upd_same⟩
section
variable {X : Cx} {es : List Expr} {pos : Pos} {t : TA}
theorem objD {P : Program} {w : World} {H : Hp} {h : Heap} {xs : List V} {us : List Value} (hz : xs.length ≤ sizeLine) (r : Vals xs us) : ObjOk P w H (h.push { cls := .type "tuple", data := .seq us.toArray }) h.objs.size (.frz { cls := .type "tuple", data := .seq us.toArray } (.tup xs)) :=
  ⟨Heap.get?_push_size _ rfl, hz, us, r, ⟨_, Heap.get?_push_size _ rfl, rfl, _, rfl⟩⟩
def tTupD (t : TA) : TE := fun σ H Q => t σ H fun xs H1 => xs.length ≤ sizeLine ∧ ∀ (p : Addr) (ob : Obj), ob.dict = none → H1 p = none → Q (.ref p) (upd H1 p (.frz ob (.tup xs)))
theorem pe_tupD {x1} (h : PA X es t) : PE X (.Tuple es x1 pos) (tTupD t) := by
  refine ⟨fun pins s σ H Q I hq => ?_⟩
  refine wpAny_Tuple_spliced (thn (h.run pos pins s σ H _ I hq) fun us s1 ⟨xs, H1, I1, r, z, q⟩ => ⟨by rw [← r.length]; exact z, ?_⟩)
  have hf : H1 s1.heap.objs.size = none := I1.hok.fresh (Nat.le_refl _)
  exact ⟨.ref s1.heap.objs.size, _, I1.laid (t' := s1.toks) (fun b u e => Heap.get?_push_of_some _ e) (Nat.le_refl _) (objD z r), rfl, q _ _ rfl hf⟩
def rCatD (K : PySem.W.Frag) : R2 := fun x y H Q => ∃ a b xs ys, x = .ref a ∧ y = .ref b ∧ SqT K H a xs ∧ SqT K H b ys ∧ xs.length + ys.length ≤ sizeLine ∧
  (xs = [] → Q (.ref b) H) ∧ (xs ≠ [] → ys = [] → Q (.ref a) H) ∧ (xs ≠ [] → ys ≠ [] → ∀ (p : Addr) (ob : Obj), ob.dict = none → H p = none → Q (.ref p) (upd H p (.frz ob (.tup (xs ++ ys)))))
theorem op_catD : OpR X (binaryOp .Add) (rCatD X.K) := by
  intro pins s σ H x y v u Q I rx ry h
  obtain ⟨a, b, xs, ys, rfl, rfl, ha, hb, hz, q0, q1, q2⟩ := h
  cases rx
  cases ry
  obtain ⟨its, r1, p1, _⟩ := I.tuple ha
  obtain ⟨its2, r2, p2, _⟩ := I.tuple hb
  by_cases hx : xs = []
  · subst hx
    cases r1
    exact cat_tup0 p1 p2 ⟨.ref b, H, I, rfl, q0 rfl⟩
  · refine HT.cat_tup p1 p2 (fun z => hx (r1.nil_iff.mp z)) (fun z => ⟨.ref a, H, I, rfl, q1 hx (r2.nil_iff.mp z)⟩) (fun z => ?_) (by rw [← r1.length, ← r2.length]; exact hz)
    exact ⟨.ref s.heap.objs.size, _, I.laid (t' := s.toks) (fun b ob q => Heap.get?_push_of_some _ q) (Nat.le_refl _) (objD (by rw [List.length_append]; exact hz) (r1.append r2)), rfl, q2 hx (fun w => z (r2.nil_iff.mpr w)) _ _ rfl (I.hok.fresh (Nat.le_refl _))⟩
def rSlD (K : PySem.W.Frag) : V → Option Int → Option Int → Hp → VK → Prop := fun x lo hi H Q => ∃ a xs, x = .ref a ∧ SqT K H a xs ∧
  ¬ (HT.sIx xs.length 0 lo = 0 ∧ HT.sIx xs.length xs.length hi = xs.length) ∧ ∀ (p : Addr) (ob : Obj), ob.dict = none → H p = none → Q (.ref p) (upd H p (.frz ob (.tup (cutV xs lo hi))))
theorem sl_tupD : SlR X (rSlD X.K) := by
  intro pins s σ H x v vl vu lo hi sl Q I rx hs pl pu h
  obtain ⟨a, xs, rfl, hx, hw, q⟩ := h
  cases rx
  obtain ⟨its, r, ht, hz⟩ := I.tuple hx
  have hlen : its.toArray.size = xs.length := by rw [List.size_toArray]; exact r.length.symm
  refine ⟨"tuple", _, PyProof.Rows.slot_tuple_getitem.lookup, ht.typeIs, ?_⟩
  refine HT.getItem_tuple_cut ht hs pl pu (by rw [hlen]; exact hw) ?_ (by rw [hlen]; exact hz)
  rw [hlen]
  exact ⟨.ref s.heap.objs.size, _, I.laid (t' := s.toks) (fun b ob q => Heap.get?_push_of_some _ q) (Nat.le_refl _) (objD (xs := cutV xs lo hi) (Nat.le_trans (cutV_length xs lo hi) hz) ((r.drop (HT.sIx xs.length 0 lo)).take (HT.sIx xs.length xs.length hi - HT.sIx xs.length 0 lo))), rfl, q _ _ rfl (I.hok.fresh (Nat.le_refl _))⟩
theorem call_tuple_ofD : CallR X (.type "tuple") (fun xs H Q => ∃ p ys, xs = [.ref p] ∧ SqL X.K H p ys ∧ ∀ (l : Addr) (ob : Obj), ob.dict = none → H l = none → Q (.ref l) (upd H l (.frz ob (.tup ys)))) := by
  intro pins s σ H xs us Q I r h
  obtain ⟨p, ys, rfl, hq, q⟩ := h
  obtain ⟨u, rfl, rx⟩ := vals1 r
  cases rx
  obtain ⟨its, r', pl, hz⟩ := I.list hq
  have hlen := r'.length
  refine call_tuple_list pl.isList (fun h' kp => ?_) (by simp only [List.size_toArray] <;> omega)
  have I1 : Inv X pins σ H { s with heap := h' } := I.kept (t' := s.toks) kp
  exact ⟨.ref h'.objs.size, _, I1.laid (t' := s.toks) (fun b o e => Heap.get?_push_of_some _ e) (Nat.le_refl _) (objD hz r'), rfl, q _ _ rfl (I1.hok.fresh (Nat.le_refl _))⟩
def tRevD (K : PySem.W.Frag) (te : TE) : TE := fun σ H Q => te σ H fun x H1 => ∃ a xs, x = .ref a ∧ SqT K H1 a xs ∧ ∀ (p : Addr) (ob : Obj), ob.dict = none → H1 p = none → Q (.ref p) (upd H1 p (.frz ob (.tup xs.reverse)))
theorem pe_revD {e : Expr} {te : TE} {k : Nat} {p1 p2 p3 pos : Pos} (he : PE X e te) : PE X (.Subscript e (.Slice none none (some (.UnaryOp .USub (.Constant (.int 1) k p1) p2)) p3) pos) (tRevD X.K te) := by
  refine ⟨fun pins s σ H Q I h => Subscript_ (thn (he.run pins s σ H _ I h) fun v s1 ⟨x, H1, I1, r1, q1⟩ => ?_)⟩
  obtain ⟨a, xs, rfl, hx, q⟩ := q1
  cases r1
  have hst : PO X (some (.UnaryOp .USub (.Constant (.int 1) k p1) p2)) (tPart (tUn (rU fun i => .int (-i)) (tC (.int 1)))) := po_some (pe_un un_neg pe_int)
  refine wpAny_Slice ?_
  rw [evalPart_none]
  refine wpAny_pure (wpAny_pure ?_)
  refine thn (hst.run pins s1 σ H1 (fun o H4 => o = some (-1) ∧ H4 = H1) I1 ⟨1, rfl, -1, rfl, rfl, rfl⟩) fun vs s4 ⟨o, H4, I4, ps, eo, e4⟩ => ?_
  subst eo e4
  have I5 : Inv X pins σ H4 { s4 with heap := s4.heap.push { cls := .type "slice", data := .fields #[.none, .none, vs] } } := I4.kept (t' := s4.toks) fun b ob q => Heap.get?_push_of_some _ q
  obtain ⟨its, r, ht, hz⟩ := I5.tuple hx
  show wpAny (model X.prog X.w) X.A (subscriptTail e (.Slice none none (some (.UnaryOp .USub (.Constant (.int 1) k p1) p2)) p3) (.ref a) (.ref s4.heap.objs.size)) (EP X pins σ Q) X.xe { s4 with heap := s4.heap.push { cls := .type "slice", data := .fields #[.none, .none, vs] } }
  refine tail_any (ops := [.ref a, .ref s4.heap.objs.size]) ht.typeIs (PyProof.Rows.slot_tuple_getitem.lookup) ?_ (by with_unfolding_all rfl)
  refine getItem_tuple_back ht (Heap.IsSliceOf.new _ .none .none vs) ps ?_ (by rw [List.size_toArray, ← r.length]; exact hz)
  exact ⟨.ref _, _, I5.laid (t' := s4.toks) (fun b ob q => Heap.get?_push_of_some _ q) (Nat.le_refl _) (objD (xs := xs.reverse) (us := its.reverse) (by rw [List.length_reverse]; exact hz) r.reverse), rfl, q _ _ rfl (I5.hok.fresh (Nat.le_refl _))⟩
def tBMT (r : V → List V → Hp → VK → Prop) (to : TE) (t : TA) : TE := fun σ H Q => to σ H fun x H1 => (∃ a xs, x = .ref a ∧ TupD H1 a xs) ∧ t σ H1 fun xs H2 => r x xs H2 Q
theorem pe_bmT {o e : Expr} {es : List Expr} {to : TE} {t : TA} {name : Str} {apos cpos : Pos} {id : String} {r : V → List V → Hp → VK → Prop} (pa : PlainAttrs "tuple") (slot : Slot "tuple" name id) (hty : typeOf (.builtin id) = pure (.type "method_descriptor")) (hm : MtR X id r) (ho : PE X o to) (ha : PA X (e :: es) t)
    (hbase : attributeBase o name X.env (eval o X.env) = eval o X.env := by rfl)
    (hfew : ((backTo cpos (starEach (e :: es) X.env)).all (fun x => !x.1) && (backToKw cpos (keywordEach [] X.env)).all (fun x => x.1.isSome)
      && decide ((e :: es).length + ([] : List Keyword).length + (if ([] : List Keyword).isEmpty then 0 else 1) < 30)) = true := by rfl)
    (hline : (apos.endLine == cpos.line) = true := by rfl) (hs : starEach (e :: es) X.env = (false, eval e X.env) :: starEach es X.env := by rfl) (hplain : (backTo cpos (starEach es X.env)).any (·.1) = false := by rfl) :
    PE X (.Call (.Attribute o name apos) (e :: es) [] cpos) (tBMT r to t) := by
  refine ⟨fun pins s σ H Q I h => ?_⟩
  refine wpAny_Call_method_late hbase hfew hline rfl (thn (ho.run pins s σ H _ I h) fun v s1 ⟨x, H1, I1, r1, ⟨a, ys, ex, td⟩, q1⟩ => ?_)
  have hx : RelV x v := r1
  subst ex
  cases r1
  obtain ⟨its, _, ht, _⟩ := I1.tuple (td.sq (K := X.K))
  refine ⟨"tuple", id, pa, slot, hty, ht.typeIs, fun a' e' => ?_, ?_⟩
  · cases e'
    obtain ⟨ob, hd, e1⟩ := td
    exact ⟨ob, (I1.hok a _ e1).1, hd⟩
  have hA := ha.run cpos pins s1 σ H1 _ I1 q1
  rw [hs] at hA ⊢
  refine Calls.callWith_builtin (by show (false || (backTo cpos (starEach es X.env)).any (·.1)) = false; rw [hplain] <;> rfl) (Calls.evalArgs_plain ?_)
  exact thn hA fun us s2 ⟨vs, H2, I2, r2, q2⟩ => hm pins s2 σ H2 (.ref a) vs (.ref a) us Q I2 hx r2 q2
end
end Ln


set_option Elab.async false
set_option linter.all false
set_option maxRecDepth 100000
set_option maxHeartbeats 4000000
namespace Ln
open PySem PySem.Spec PyProof.Rows L2 GxR
section
variable {P : Program} {w : World} {K : PySem.W.Frag} {mg : Str → Option Value} {base : Heap} {Ps : List Addr}
def spCell (K : PySem.W.Frag) : Sp := fun vs H Q _ => ∃ (a : Addr) (ns : List Int) (k : Nat), vs = [.ref a, .int k] ∧ SqL K H a (ns.map V.int) ∧ ∀ c : Int, Q (.int c) H
def spBag : Sp := fun vs H Q _ => ∃ (c : Int) (k : Nat), vs = [.int c, .int k] ∧ k ≤ 64 ∧ ∀ p l, H p = none → SrcV 0 l → Q (.ref p) (upd H p (.lst l))
def spTake : Sp := fun vs H Q _ => ∃ (s : Addr) (l : List V) (n : Nat) (lim : Int), vs = [.ref s, .int lim] ∧ H s = some (.lst l) ∧ SrcV n l ∧ n ≤ 1000000 ∧ 1 ≤ lim ∧ lim ≤ 100000 ∧ ∀ l' r, SrcV (n + 1) l' → 0 ≤ r → r < lim → Q (.int r) (upd H s (.lst l'))
def spFolk (K : PySem.W.Frag) : Sp := fun vs H Q _ => ∃ (a l : Addr) (xs : List Str) (as : List Addr) (es : List Ev), vs = [.ref a, .ref l] ∧ SqT K H a (xs.map V.str) ∧ SqL K H l (as.map V.ref) ∧ EvsAt K H as es ∧ xs.length ≤ 400 ∧ es.length ≤ 400 ∧
  ∀ (H' : Hp) (p : Addr), L2.Same H H' → H p = none → H' p = some (.lst ((xs ++ arrs es).map V.str)) → Q (.ref p) H'
end
end Ln


set_option Elab.async false
set_option linter.all false
set_option maxRecDepth 100000
set_option maxHeartbeats 4000000
namespace Ln
open PySem PySem.Spec PyProof.Rows L2 GxR
/-! ### the pool of names -/
def pool0 : List Str := ["a", "b", "z", "aa", "ab", "in", "out", "l", "r", "none", "zzzz", "abcd", "abce"]
abbrev sgnS : Str := "cdefghijkmnopq"
abbrev morS : Str := "pqrstuvwxyz"
abbrev sgn (c : Nat) : Str := ⟨#[c]⟩
def pool1 (c : Nat) : List Str := [sgn c, sgn c ++ ("a" : Str)]
def pool2 (c i : Nat) : List Str := (morS.cps.toList.take i).map fun m => (sgn c ++ ("x" : Str)) ++ sgn m
def poolAt (i : Nat) : List Str := pool0 ++ (sgnS.cps.toList.take i).flatMap fun c => pool1 c ++ pool2 c 11
abbrev poolL : List Str := poolAt 14
theorem pool_len : ∀ i < 15, (poolAt i).length ≤ 195 := by decide +kernel
theorem pool_cars : ∀ x ∈ poolL, carB x = true := by decide +kernel
theorem pool_nodup : poolL.Nodup := by decide +kernel
theorem pool_len14 : poolL.length = 195 := by decide +kernel
section
variable {P : Program} {w : World} {K : PySem.W.Frag} {mg : Str → Option Value} {base : Heap} {Ps : List Addr}
def spNames : Sp := fun vs H Q _ => ∃ (s : Addr) (l : List V) (n many : Nat), vs = [.ref s, .int (many : Nat)] ∧ H s = some (.lst l) ∧ SrcV n l ∧ n + many ≤ 1000000 ∧ many ≤ 190 ∧
  ∀ (H' : Hp) (p : Addr) (ys : List Str) (l' : List V), Ch s H H' → H p = none → ys.length = many → ys.Nodup → (∀ y ∈ ys, y ∈ poolL) → SrcV (n + many) l' → H' s = some (.lst l') → H' p = some (.lst (ys.map V.str)) → Q (.ref p) H'
end
end Ln

set_option Elab.async false
set_option linter.all false
set_option maxRecDepth 100000
set_option maxHeartbeats 8000000
namespace Ln
open PySem PySem.Spec PyProof.Rows L2 GxR
/-- never more than c cars -/
def Capd (c n : Nat) (es : List Ev) : Prop := ∀ j k, cnt n (es.take j) = some k → k ≤ c
theorem capd_snoc {c n : Nat} {es : List Ev} {e : Ev} (h : Capd c n es) (h2 : ∀ k, cnt n (es ++ [e]) = some k → k ≤ c) : Capd c n (es ++ [e]) := fun j k hk => by
  by_cases hj : j ≤ es.length
  · rw [List.take_append_of_le_length hj] at hk
    exact h j k hk
  · rw [List.take_of_length_le (by rw [List.length_append, List.length_singleton]; omega)] at hk
    exact h2 k hk
/-- what _law_built gives: the lane xs at t, the log es at o -/
structure Bt (H H' : Hp) (s t o : Addr) (xs : List Str) (as : List Addr) (es : List Ev) (widest most n m : Nat) (l' : List V) : Prop where
  ch : Ch s H H'
  t0 : H t = none
  o0 : H o = none
  t1 : TupD H' t (xs.map V.str)
  o1 : H' o = some (.lst (as.map V.ref))
  ev : EvT H' as es
  fr : ∀ a ∈ as, H a = none
  few1 : xs.length ≤ widest
  few2 : es.length ≤ most
  nd : (xs ++ arrs es).Nodup
  cars : ∀ x ∈ xs ++ arrs es, carB x = true
  ct : cnt xs.length es = some m
  cap : Capd (max 40 widest) xs.length es
  src : SrcV (n + (widest + 2 * most + 3)) l'
  s1 : H' s = some (.lst l')
  pool : ∀ x ∈ xs ++ arrs es, x ∈ poolL
def BtInv (H : Hp) (ob : Obj) (s0 nm t fr o : Addr) (n n0 widest most : Nat) (xs zs : List Str) (ln : Int) (c i : Nat) (σ : L2.St) (H' : Hp) : Prop := ∃ (l' : List V) (as : List Addr) (es : List Ev) (k m : Nat) (v9 v10 v11 : Option V),
  σ = [some (.ref s0), some (.int (widest : Nat)), some (.int (most : Nat)), some (.ref nm), some (.int (m : Nat)), some (.ref t), some (.ref fr), some (.int ln), some (.ref o), v9, v10, v11] ∧ Ch s0 H H' ∧ i ≤ c ∧ H' s0 = some (.lst l') ∧ SrcV (n + i) l' ∧ H' t = some (.frz ob (.tup (xs.map V.str))) ∧ H' fr = some (.lst ((zs.drop k).map V.str)) ∧
  H' o = some (.lst (as.map V.ref)) ∧ EvT H' as es ∧ (∀ a ∈ as, H a = none) ∧ es.length ≤ i ∧ k ≤ i ∧ arrs es = zs.take k ∧ cnt n0 es = some m ∧ Capd (max 40 widest) n0 es
theorem ix4 (b0 b1 b2 b3 : Bool) {r : Int} (h0 : 0 ≤ r) (h4 : r < 4) : ∃ b : Bool, atI [V.bl b0, .bl b1, .bl b2, .bl b3] r = some (.bl b) := by
  have : r = 0 ∨ r = 1 ∨ r = 2 ∨ r = 3 := by omega
  rcases this with rfl | rfl | rfl | rfl
  · exact ⟨b0, atI_nat (j := 0) rfl⟩
  · exact ⟨b1, atI_nat (j := 1) rfl⟩
  · exact ⟨b2, atI_nat (j := 2) rfl⟩
  · exact ⟨b3, atI_nat (j := 3) rfl⟩
theorem cut_pre {xs : List V} {c : Nat} : cutV xs none (some (c : Int)) = xs.take c := by
  unfold cutV
  rw [HT.sIx_none, List.drop_zero, Nat.sub_zero, show HT.sIx xs.length xs.length (some (c : Int)) = min c xs.length from HT.sIx_nat _ _ c]
  by_cases h : c ≤ xs.length
  · rw [Nat.min_eq_left h]
  · rw [Nat.min_eq_right (by omega), List.take_of_length_le (Nat.le_refl _), List.take_of_length_le (by omega)]
section
variable {P : Program} {w : World} {K : PySem.W.Frag} {mg : Str → Option Value} {base : Heap} {Ps : List Addr}
def spBuilt : Sp := fun vs H Q _ => ∃ (s : Addr) (l : List V) (n widest most : Nat), vs = [.ref s, .int (widest : Nat), .int (most : Nat)] ∧ H s = some (.lst l) ∧ SrcV n l ∧ n + 1000 ≤ 1000000 ∧ widest + most ≤ 190 ∧
  ∀ (H' : Hp) (p t o : Addr) (xs : List Str) (as : List Addr) (es : List Ev) (m : Nat) (l' : List V), Bt H H' s t o xs as es widest most n m l' → H p = none → H' p = some (.tup [.ref t, .ref o]) → Q (.ref p) H'
end
end Ln

set_option Elab.async false
set_option linter.all false
set_option maxRecDepth 100000
set_option maxHeartbeats 4000000
namespace Ln
open PySem PySem.Spec PyProof.Rows L2
/-! ### set(xs), xs a list of whole numbers: a set that can be sorted -/
def UpI (w : World) (h : Heap) (a : Addr) (ns : List Int) (i : Nat) : Prop := ∃ m, SetR w h a (fun k => decide (k ∈ ns.take i)) m ∧ m ≤ i
theorem upI_step {w : World} {h' : Heap} {a : Addr} {ns : List Int} {i m : Nat} {k : Int} (hk : ns[i]? = some k) (hm : m ≤ i)
    (hs : SetR w h' a (fun j => decide (j ∈ ns.take i) || decide (j = k)) (if decide (k ∈ ns.take i) = true then m else m + 1)) : UpI w h' a ns (i + 1) := by
  refine ⟨_, hs.congr fun j => ?_, ?_⟩
  · rw [List.take_add_one, hk]
    show decide (j ∈ ns.take i ++ [k]) = _
    by_cases h1 : j ∈ ns.take i <;> by_cases h2 : j = k <;> simp [h1, h2]
  · split <;> omega
section
variable {P : Program} {w : World} {A : Around} {R : Result → Shared → Prop} {it : Addr} {fp wr : List Addr} {G : Array GenState → Array GenState → Prop} {n : Nat} {Pv : Nat → Value → Prop} {St : Nat → Shared → Prop}
theorem loop_ints (W : WalksS P w A.in1 it fp wr G n Pv St) (S : Addr) (hSf : S ∉ fp) (ns : List Int) (hval : ∀ (i : Nat) (v : Value), Pv i v → ∃ (k : Int) (tk : Tok), ns[i]? = some k ∧ v = .int k tk) (hb : n + 1 < scanBound) :
    ∀ (d i : Nat) (s : Shared), n - i = d → i ≤ n → St i s → UpI w s.heap S ns i →
      (∀ s', Moved (S :: wr) G s s' → UpI w s'.heap S ns n → R (.ok (.ret .none)) s') →
      codeAny (model P w) A (.builtin "set.update.loop" ⟨[.ref S, .ref it], []⟩) R s := by
  have nwr : S ∉ wr := fun z => hSf (W.sub _ z)
  have more : ∀ b ∈ wr, b ∈ S :: wr := fun b z => List.mem_cons_of_mem S z
  intro d
  induction d with
  | zero =>
    intro i s hd hi st ⟨m, hS, hm⟩ hR
    obtain rfl : i = n := by omega
    refine codeAny_builtin PyProof.Rows.F.entry_set_update_loop ?_
    rw [Around.under_plainId (PyProof.Rows.F.plain_set_update_loop) _]
    show wpAny (model P w) A.in1 (pyNext (.ref it) >>= _) _ _ s
    refine wpAny_bind (W.done s _ _ st fun s1 hmv => ?_)
    exact wpAny_pure (hR s1 (hmv.mono more) ⟨m, hS.at fun o e => hmv.heap S o nwr e, hm⟩)
  | succ d ih =>
    intro i s hd hi st ⟨m, hS, hm⟩ hR
    have hlt : i < n := by omega
    refine codeAny_builtin PyProof.Rows.F.entry_set_update_loop ?_
    rw [Around.under_plainId (PyProof.Rows.F.plain_set_update_loop) _]
    show wpAny (model P w) A.in1 (pyNext (.ref it) >>= _) _ _ s
    refine wpAny_bind (W.item i s _ _ hlt st fun v s1 hv st1 hmv => ?_)
    obtain ⟨k, tk, hk, rfl⟩ := hval i v hv
    have hS1 := hS.at fun o e => hmv.heap S o nwr e
    show wpAny (model P w) A.in1 (holding [.int k tk] (setAdd S (.int k tk)) >>= _) _ _ s1
    refine wpAny_bind (wpAny_holding ?_)
    unfold setAdd
    refine wpAny_holding (wpAny_bind ((intKind P w).pyHash (intKind_is P w k tk) ?_))
    refine setR_add_hashed (s := { s1 with toks := s1.toks + 1 }) hS1 (by omega) fun h2 sb hS2 => ?_
    refine wpAny_pure ⟨plainId_quiet (PyProof.Rows.F.plain_set_update_loop) _, ih (i + 1) _ (by omega) hlt (W.frame _ s1 _ _ st1 (Nat.le_succ _) fun b hbf o e => ?_) (upI_step hk hm hS2) fun s3 hm3 hS3 => ?_⟩
    · exact (sb.2 b fun z => hSf (z ▸ hbf)).trans e
    · refine hR s3 (Moved.trans W.gtrans ((hmv.mono more).then_heap (Nat.le_succ _) fun b o hbw e => ?_) hm3) hS3
      exact (sb.2 b fun z => hbw (by rw [z]; exact List.mem_cons_self)).trans e
end
abbrev sObjL (w : World) : Obj := { cls := .type "set", dict := none, data := .set #[] 0 (.fresh 0 0 (!w.params.followText "set-order")) }
section
variable {P : Program} {w : World} {A : Around} {E : Value → Shared → Prop} {s : Shared}
theorem call_set_ints {l : Addr} {items : Array Value} {ns : List Int} {Q : Value → Shared → Prop}
    (hh : A.handled = none) (hl : s.heap.IsList l items) (hi : ∀ (i : Nat) (v : Value), items[i]? = some v → ∃ (k : Int) (tk : Tok), ns[i]? = some k ∧ v = .int k tk) (hb : items.size + 1 < scanBound)
    (h : ∀ (h' : Heap) (tk : Nat), UpI w h' s.heap.objs.size ns items.size → (∀ b o, b < s.heap.objs.size → s.heap.get? b = some o → h'.get? b = some o) → Q (.ref s.heap.objs.size) { s with heap := h', toks := tk }) :
    wpAny (model P w) A (call (.type "set") [.ref l]) Q E s := by
  obtain ⟨mro1, mro2, hmro⟩ := PySem.F.called_set.mro
  have made := PySem.F.called_set.made
  have subs := PySem.F.called_set.sub
  refine wpAny_call (codeAny_of_tree ?_)
  show wpAny (model P w) _ (callAny (.type "set") _) _ _ _
  refine wpAny_pure ⟨Code.quiet_builtin _ (by decide +kernel), codeAny_builtin (PySem.F.entry_type_call) ?_⟩
  rw [Around.under_plain (weight_type_call_type "set" [Value.ref l] []) rfl]
  have notT := PySem.F.called_set.notType
  have canC := PySem.F.called_set.canCreate
  have chk := PySem.F.typeCall_set_1 (Value.ref l)
  repeat (any_goals (first | assumption | wp_step))
  refine codeAny_mono (code_set_led1 (.ref l) (E := E) (Q₁ := fun ob s1 => ob = .ref s.heap.objs.size ∧ s1 = { s with heap := s.heap.push (sObjL w) }) ⟨rfl, rfl⟩) fun r s1 hr => ?_
  match r, hr with
  | .error e, hr => exact hr
  | .ok .next, hr => exact hr.elim
  | .ok .brk, hr => exact hr.elim
  | .ok .cont, hr => exact hr.elim
  | .ok (.ret ob), hr =>
    obtain ⟨rfl, rfl⟩ := hr
    have hS : (s.heap.push (sObjL w)).get? s.heap.objs.size = some (sObjL w) := Heap.get?_push_size _ rfl
    have tyS : Shared.TypeIs { s with heap := s.heap.push (sObjL w) } (.ref s.heap.objs.size) "set" := ⟨_, hS, rfl⟩
    have lkI := PySem.F.called_set.init.lookup
    have bdI := PySem.F.called_set.init.bind (.ref s.heap.objs.size)
    repeat (any_goals (first | assumption | wp_step))
    refine codeAny_mono (codeAny_call_builtin (R := wants (fun r s2 => r = .none ∧ ∃ h' tk, s2 = { s with heap := h', toks := tk } ∧ UpI w h' s.heap.objs.size ns items.size ∧ (∀ b o, b < s.heap.objs.size → s.heap.get? b = some o → h'.get? b = some o)) E)
      (PySem.F.called_set.init.plain) (PySem.F.entry_set_init) (check_set_init_1 tyS ?_)) fun r2 s2 hr2 => ?_
    · obtain ⟨ob, hob, hcl, nl, hdl⟩ := hl
      obtain ⟨oc, od, oda, osl⟩ := ob
      simp only at hcl hdl
      subst hcl
      subst hdl
      have hob1 : (s.heap.push (sObjL w)).get? l = some { cls := .type "list", dict := od, data := .seq items nl, slots := osl } := Heap.get?_push_of_some _ hob
      have n1 := PySem.F.sub_list_set
      have n2 := PySem.F.sub_list_frozenset
      have n3 : (Value.type "list" == Value.type "dict") = false := by decide
      have tup1 : (s.heap.push (sObjL w)).IsList l items := ⟨_, hob1, rfl, nl, rfl⟩
      unfold Builtin.«set.__init__» noKeywords Builtin.Frozenset.updateFrom
      generalize hPI : pyIter = PI
      wp_walk
      subst hPI
      refine wpAny_pyIter_list tup1 (wpAny_bind (wpAny_runValue ?_))
      have lS : l < s.heap.objs.size := Heap.lt_size hob
      have hne : l ≠ (s.heap.push (sObjL w)).objs.size := by
        rw [Heap.size_push]
        exact Nat.ne_of_lt (Nat.lt_succ_of_lt lS)
      have nS : s.heap.objs.size ∉ [(s.heap.push (sObjL w)).objs.size, l] := by
        rw [Heap.size_push]
        intro z
        rcases List.mem_cons.mp z with z | z
        · exact absurd z (Nat.ne_of_lt (Nat.lt_succ_self _))
        · exact absurd (List.mem_singleton.mp z) (Nat.ne_of_gt lS)
      refine loop_ints ((Walks.list (show A.in1.in1.in1.handled = none by simp [hh]) _ l hne items).toS) s.heap.objs.size nS ns hi hb (items.size - 0) 0 _ (by omega) (Nat.zero_le _) ⟨⟨_, Heap.get?_push_size _ rfl, rfl, rfl⟩, tup1.push _⟩ ?hS0 ?hR
      case hS0 =>
        refine ⟨0, ?_, Nat.le_refl _⟩
        have e0 := (setR_fresh (h := s.heap) w).at (h' := (s.heap.push (sObjL w)).push { cls := .type "list_iterator", data := .fields #[.ref l, .int 0 0] }) fun o e => Heap.get?_push_of_some _ e
        exact e0.congr fun k => by simp
      case hR =>
        intro s3 hmv hS3
        obtain ⟨h3, g3, d3, t3, o3⟩ := s3
        have eg : g3 = s.gens := hmv.gens
        have ed : d3 = s.drawn := hmv.drawn
        have eo : o3 = s.os := hmv.os
        subst eg ed eo
        show wpAny (model P w) _ _ _ _ _
        refine wpAny_pure ?_
        show wpAny (model P w) _ (ret Value.none) _ _ _
        refine wpAny_pure ⟨rfl, h3, t3, rfl, hS3, fun b o hb2 e => ?_⟩
        refine hmv.heap b o (fun z => ?_) (Heap.get?_push_of_some _ (Heap.get?_push_of_some _ e))
        rcases List.mem_cons.mp z with z | z
        · exact Nat.ne_of_lt hb2 z
        · have z := List.mem_singleton.mp z
          rw [Heap.size_push] at z
          exact Nat.ne_of_lt (Nat.lt_succ_of_lt hb2) z
    · match r2, hr2 with
      | .error e, hr2 => exact hr2
      | .ok .next, hr2 => exact hr2.elim
      | .ok .brk, hr2 => exact hr2.elim
      | .ok .cont, hr2 => exact hr2.elim
      | .ok (.ret r), hr2 =>
        obtain ⟨rfl, h3, t3, rfl, hS3, hk3⟩ := hr2
        repeat (any_goals (first | assumption | wp_step))
        exact h _ _ hS3 hk3
end
/-- .. and sorted(set(xs)) -/
def rSetI (K : PySem.W.Frag) (w : World) : List V → Hp → VK → Prop := fun xs H Q => ∃ (l : Addr) (ns : List Int), xs = [V.ref l] ∧ SqL K H l (ns.map V.int) ∧ ns.length ≤ 1000 ∧
  ∀ (a : Addr) (L : List Int), H a = none → L.Nodup → (∀ k, k ∈ L ↔ k ∈ ns) → Q (.ref a) (upd H a (SetO w a (fun k => decide (k ∈ ns)) L.length))
section
variable {X : Cx}
theorem cr_setI (hc : X.calm = true) : CallR X (.type "set") (rSetI X.K X.w) := by
  intro pins s σ H xs us Q I r h
  obtain ⟨l, ns, rfl, hl, few, q⟩ := h
  rw [Vals.ref1 r]
  obtain ⟨its, rv, pl, hz⟩ := I.list hl
  have hn : H s.heap.objs.size = none := I.hok.fresh (Nat.le_refl _)
  have hsz : its.toArray.size = ns.length := by rw [List.size_toArray, ← rv.length, List.length_map]
  refine call_set_ints (P := X.prog) (w := X.w) (ns := ns) (I.ok.hd hc) pl.isList (fun i v hv => ?_) (by rw [hsz]; unfold scanBound; omega) fun h' tk R k => ?_
  · have hv : its[i]? = some v := by simpa using hv
    have hlt := (List.getElem?_eq_some_iff.mp hv).1
    have hlt2 : i < ns.length := by rw [← hsz]; simpa using hlt
    obtain ⟨u, hu, ru⟩ := rv.get (i := i) (x := .int ns[i]) (by rw [List.getElem?_map, List.getElem?_eq_getElem hlt2]; rfl)
    rw [hv] at hu
    cases hu
    obtain ⟨tk, rfl⟩ := ru
    exact ⟨ns[i], tk, List.getElem?_eq_getElem hlt2, rfl⟩
  · obtain ⟨m, R, _⟩ := R
    rw [hsz, List.take_length] at R
    obtain ⟨o, es, ep, t, r1, r2, r3, r4, nd, r6, r7, r8, hm, r10⟩ := R
    have R : SetR X.w h' s.heap.objs.size (fun k => decide (k ∈ ns)) (es.toList.map keyOf).length := by
      rw [List.length_map, Array.length_toList, hm]
      exact ⟨o, es, ep, t, r1, r2, r3, r4, nd, r6, r7, r8, hm, r10⟩
    exact ⟨.ref s.heap.objs.size, _, I.laid (t' := tk) (fun b o e => k b o (Heap.lt_size e) e) (Nat.le_refl _) (setO_new R), rfl, q _ _ hn nd fun k => by rw [← r6 k, decide_eq_true_iff]⟩
end
end Ln


set_option Elab.async false
set_option linter.all false
set_option maxRecDepth 100000
set_option maxHeartbeats 4000000
namespace Ln
open PySem PySem.Spec PyProof.Rows L2
/-! ### enumerate of a list or a tuple, from any count -/
/-- a list (true) or a tuple (false) -/
def SqA (K : PySem.W.Frag) (b : Bool) (H : Hp) (a : Addr) (xs : List V) : Prop := match b with
  | true => SqL K H a xs
  | false => SqT K H a xs
def seqA (b : Bool) (h : Heap) (a : Addr) (its : Array Value) : Prop := match b with
  | true => h.IsList a its
  | false => h.IsTuple a its
def itA (b : Bool) (h : Heap) (it a : Addr) (i : Nat) : Prop := match b with
  | true => h.IsListIter it a i
  | false => h.IsTupleIter it a i
theorem draws_A {prog : Program} {w : World} {A : Around} {b : Bool} (hh : A.handled = none) (it a : Addr) (hne : a ≠ it) (items : Array Value) :
    Draws prog w A it [it, a] items.size (fun i v => items[i]? = some v) (fun i h => itA b h it a i ∧ seqA b h a items) := by
  cases b with
  | true => exact Draws.list hh it a hne items
  | false => exact Draws.tuple hh it a hne items
theorem itA_at {b : Bool} {h h' : Heap} {it a : Addr} {i : Nat} (q : itA b h it a i) (k : ∀ o, h.get? it = some o → h'.get? it = some o) : itA b h' it a i := by
  cases b with
  | true => exact Heap.IsListIter.at q k
  | false => exact Heap.IsTupleIter.at q k
theorem itA_obj {b : Bool} {h : Heap} {it a : Addr} {i : Nat} (q : itA b h it a i) : ∃ o, h.get? it = some o ∧ (∀ v, o.data ≠ .cell v) ∧ ∀ ys n, o.data ≠ .seq ys n := by
  cases b with
  | true =>
    obtain ⟨o, ho, hc, hd⟩ := q
    exact ⟨o, ho, fun v z => (by rw [hd] at z; cases z), fun ys n z => (by rw [hd] at z; cases z)⟩
  | false =>
    obtain ⟨o, ho, hc, hd⟩ := q
    exact ⟨o, ho, fun v z => (by rw [hd] at z; cases z), fun ys n z => (by rw [hd] at z; cases z)⟩
theorem seqA_obj {b : Bool} {h : Heap} {a : Addr} {its : Array Value} (q : seqA b h a its) : ∃ o n, h.get? a = some o ∧ o.data = .seq its n := by
  cases b with
  | true =>
    obtain ⟨o, ho, hc, n, hd⟩ := q
    exact ⟨o, n, ho, hd⟩
  | false =>
    obtain ⟨o, ho, hc, n, hd⟩ := q
    exact ⟨o, n, ho, hd⟩
section
variable {X : Cx} {pins : List (Addr × Obj)} {σ : L2.St} {H : Hp} {s : Shared} {a : Addr} {xs ys : List V}
theorem inv_seqA {b : Bool} (I : Inv X pins σ H s) (h : SqA X.K b H a xs) : ∃ its : List Value, Vals xs its ∧ seqA b s.heap a its.toArray := by
  cases b with
  | true =>
    obtain ⟨its, rv, p, _⟩ := I.list h
    exact ⟨its, rv, p.isList⟩
  | false =>
    obtain ⟨its, rv, p, _⟩ := I.tuple h
    exact ⟨its, rv, p⟩
theorem inv_injA {b : Bool} (I : Inv X pins σ H s) (h : SqA X.K b H a xs) (h' : SqA X.K b H a ys) : xs = ys := by
  cases b with
  | true => exact I.list_inj h h'
  | false => exact I.tuple_inj h h'
end
def IteA (K : PySem.W.Frag) (b : Bool) (k0 : Int) (a : Addr) : It :=
  ⟨fun i H => ∃ (xs : List V) (x : V), SqA K b H a xs ∧ xs[i]? = some x, fun i H v H' => ∃ T x, v = .ref T ∧ H T = none ∧ H' = upd H T (.tup [.int (k0 + (i : Nat)), x]) ∧ ∀ xs, SqA K b H a xs → xs[i]? = some x, fun i H => ∃ xs : List V, SqA K b H a xs ∧ xs.length = i⟩
theorem turn_enumA {P : Program} {w : World} {K : PySem.W.Frag} {elts : List Expr} {kk : Nat} {tpos : Pos} {b : Bool} {k0 : Int} (a e it : Addr) :
    Turn P w K (.Tuple elts kk tpos) (IteA K b k0 a) [e, it] e (fun i h => (∃ old, IsEnum h e it (k0 + (i : Nat)) old) ∧ itA b h it a i ∧ e ≠ it) where
  mem := by simp
  obj := fun i h st b hb => by
    obtain ⟨⟨old, he⟩, hi, _⟩ := st
    have e' : b = e ∨ b = it := by simpa using hb
    rcases e' with z | z
    · rw [z]; exact ⟨_, he, fun v q => nomatch q⟩
    · rw [z]
      obtain ⟨o, ho, hd, _⟩ := itA_obj hi
      exact ⟨o, ho, hd⟩
  keep := fun i h h' st k => let ⟨⟨old, he⟩, hi, hne⟩ := st; ⟨⟨old, k e (by simp) _ he⟩, itA_at hi fun o q => k it (by simp) o q, hne⟩
  item := by
    intro X hP hw hK hc i pins s σ H E I hf st hg
    subst hP hw hK
    obtain ⟨⟨old, he⟩, hit, hne⟩ := st
    obtain ⟨xs, x, hq, hx⟩ := hg
    obtain ⟨its, rv, p⟩ := inv_seqA I hq
    obtain ⟨u, hu, ru⟩ := rv.get hx
    obtain ⟨oa, na, ha, hda⟩ := seqA_obj p
    have hea : e ≠ a := fun z => by
      rw [← z, he] at ha
      cases ha
      cases hda
    have hia : it ≠ a := fun z => by
      obtain ⟨o, ho, _, hd⟩ := itA_obj hit
      rw [z, ha] at ho
      cases ho
      exact hd _ _ hda
    have hel : e < s.heap.objs.size := Heap.lt_size he
    have hil : it < s.heap.objs.size := by obtain ⟨_, q, _⟩ := itA_obj hit; exact Heap.lt_size q
    have hlt : i < its.toArray.size := by
      have := (List.getElem?_eq_some_iff.mp hu).1
      simpa using this
    refine wpAny_pyNext_enum_itemC (draws_A (b := b) (show X.A.in1.handled = none from I.ok.hd hc) it a (Ne.symm hia) its.toArray) he ⟨hit, p⟩ hlt hne (by simp [hne, hea]) fun x' h' tk hPx ho hs' hT hsz hk => ?_
    have hx' : x' = u := by
      have : its[i]? = some x' := by simpa using hPx
      rw [hu] at this
      exact (Option.some.inj this).symm
    subst hx'
    refine ⟨_, rfl, wpAny_letOwnedTupleGo_enum (s := { s with heap := h', toks := tk + 1 }) ho fun h'' he' sb => ?_⟩
    have hT2 : h''.get? s.heap.objs.size = some { cls := .type "tuple", data := .seq #[.int (k0 + (i : Nat)) tk, x'] } := (sb.2 _ (Nat.ne_of_gt hel)).trans hT
    have new : ObjOk X.prog X.w (upd H s.heap.objs.size (.tup [.int (k0 + (i : Nat)), x])) h'' s.heap.objs.size (.tup [.int (k0 + (i : Nat)), x]) :=
      ⟨by show 2 ≤ sizeLine; decide, [.int (k0 + (i : Nat)) tk, x'], .cons ⟨_, rfl⟩ (.cons ru .nil), ⟨_, hT2, rfl, _, rfl⟩⟩
    have I1 : Inv X pins σ (upd H s.heap.objs.size (.tup [.int (k0 + (i : Nat)), x])) { s with heap := h'', toks := tk + 1 } :=
      I.turnedNew (ch := [e, it]) (fun b o hb q => (sb.2 b (fun z => hb (by simp [z]))).trans (hk b o (fun z => hb (by simp [z])) (fun z => hb (by simp [z])) q)) hf (Nat.le_refl _) new
    refine ⟨.ref s.heap.objs.size, _, I1, rfl, ⟨_, x, rfl, I.hok.fresh (Nat.le_refl _), rfl, fun ys hy => by rw [inv_injA I hy hq]; exact hx⟩, ⟨⟨x', ?_⟩, itA_at hs'.1 fun o q => (sb.2 it (Ne.symm hne)).trans q, hne⟩, fun b hb => ?_⟩
    · have e1 : k0 + ((i + 1 : Nat) : Int) = k0 + (i : Nat) + 1 := by omega
      rw [e1]; exact he'
    · have hb' : b < s.heap.objs.size := by
        have e' : b = e ∨ b = it := by simpa using hb
        rcases e' with z | z
        · rw [z]; exact hel
        · rw [z]; exact hil
      rw [upd_ne (Nat.ne_of_lt hb')]
      exact (hf b hb).1
  done := by
    intro X hP hw hK hc i pins s σ H E I hf st hg
    subst hP hw hK
    obtain ⟨⟨old, he⟩, hit, hne⟩ := st
    obtain ⟨xs, hq, hx⟩ := hg
    obtain ⟨its, rv, p⟩ := inv_seqA I hq
    obtain ⟨f0, f1, f2, f3, f4, f5⟩ := hf it (by simp)
    have hl := rv.length
    have hia : it ≠ a := fun z => by
      obtain ⟨oa, na, ha, hda⟩ := seqA_obj p
      obtain ⟨o, ho, _, hd⟩ := itA_obj hit
      rw [z, ha] at ho
      cases ho
      exact hd _ _ hda
    have hn : its.toArray.size = i := by simp; omega
    exact wpAny_pyNext_enum_endD (draws_A (b := b) (show X.A.in1.handled = none from I.ok.hd hc) it a (Ne.symm hia) its.toArray) he (by rw [hn]; exact ⟨hit, p⟩) fun h' eb => ⟨rfl, I.turned (t' := s.toks) (fun b o hb q => eb b o hb q) f0 f1 f3 f4 f5⟩
  self := fun A i s Q E st h => let ⟨⟨_, he⟩, _⟩ := st; wpAny_pyIter_enum he h
def beginO (b : Bool) (a : Addr) : Obj := match b with
  | true => { cls := .type "list_iterator", data := .fields #[.ref a, .int 0 0] }
  | false => { cls := .type "tuple_iterator", data := .fields #[.ref a, .int 0 0] }
theorem begins_A (b : Bool) (a : Addr) (its : Array Value) : Begins (.ref a) (beginO b a) fun h => seqA b h a its := by
  cases b with
  | true => exact begins_list a its
  | false => exact begins_tuple a its
theorem itA_begin {b : Bool} {h : Heap} {it a : Addr} (q : h.get? it = some (beginO b a)) : itA b h it a 0 := by
  cases b with
  | true => exact ⟨_, q, rfl, rfl⟩
  | false => exact ⟨_, q, rfl, rfl⟩
set_option maxHeartbeats 8000000 in
theorem meets_enumerate_newB1 {v : Value} {o : Obj} {H : Heap → Prop} (B : Begins v o H) :
    Meets (Builtin.«enumerate.__new__» ⟨[.type "enumerate", v], []⟩) (fun _ R s => H s.heap ∧
      R (.ok (.ret (.ref (s.heap.push o).objs.size))) { s with heap := (s.heap.push o).push { cls := .type "enumerate", data := .fields #[.none, .bool false, .ref s.heap.objs.size, rawInt 0, .none, .none] } }) :=
  .of_wp fun prog w A R s h => by
    obtain ⟨hp, g, d, tk, os⟩ := s; obtain ⟨h1, h⟩ := h
    have hsub := sub_enumerate
    have q1 : ∀ {A' : Around} {E : Value → Shared → Prop} {Q : Value → Shared → Prop}, Q (.ref hp.objs.size) ⟨hp.push o, g, d, tk, os⟩ → wpAny (model prog w) A' (pyIter v) Q E ⟨hp, g, d, tk, os⟩ :=
      fun q => B.iter prog w _ _ ⟨hp, g, d, tk, os⟩ _ h1 q
    wp_walk using q1
    refine wpAny_stack_any fun st => wpAny_pure ?_
    split
    · rename_i c _ _ _ _ _
      cases (c == Value.type "enumerate")
      · wp_walk using q1
        exact ⟨_, rfl, h⟩
      · wp_walk using q1
        exact ⟨_, rfl, h⟩
    · wp_walk using q1
      exact ⟨_, rfl, h⟩
section
variable {prog : Program} {w : World} {A : Around} {E : Value → Shared → Prop} {s : Shared}
theorem enum_begins1 {v : Value} {o : Obj} {H : Heap → Prop} {Q : Value → Shared → Prop} (B : Begins v o H) (h1 : H s.heap)
    (h : ∀ h', IsEnum h' (s.heap.objs.size + 1) s.heap.objs.size 0 .none → h'.get? s.heap.objs.size = some o → h'.objs.size = s.heap.objs.size + 2 →
      (∀ b o, s.heap.get? b = some o → h'.get? b = some o) → Q (.ref (s.heap.objs.size + 1)) { s with heap := h' }) :
    wpAny (model prog w) A (call (.type "enumerate") [v]) Q E s := by
  refine callType_new F.called_enumerate (by decide) (F.typeCall_enumerate_1 _) (F.newCall_enumerate_1 _) (fun obj => F.args_object_init_2 obj _) F.entry_enumerate_new
    (meets_enumerate_newB1 B) ⟨h1, ?_⟩
  have hz : (s.heap.push o).objs.size = s.heap.objs.size + 1 := Heap.size_push ..
  show _ ∧ _
  rw [hz]
  have he : IsEnum ((s.heap.push o).push { cls := .type "enumerate", data := .fields #[.none, .bool false, .ref s.heap.objs.size, rawInt 0, .none, .none] }) (s.heap.objs.size + 1) s.heap.objs.size 0 .none := by
    have := Heap.get?_push_size (s.heap.push o) (o := { cls := .type "enumerate", data := .fields #[.none, .bool false, .ref s.heap.objs.size, rawInt 0, .none, .none] }) rfl
    rw [hz] at this; exact this
  refine ⟨⟨_, he, rfl⟩, h _ he (Heap.get?_push_of_some _ (Heap.get?_push_size _ B.free)) (by rw [Heap.size_push, hz]) fun b o x => Heap.get?_push_of_some _ (Heap.get?_push_of_some _ x)⟩
end
section
variable {X : Cx}
def iEnumA (K : PySem.W.Frag) (b : Bool) (k0 : Int) (q : List V → Addr → Prop) (ta : TA) : TI := fun σ H R => ta σ H fun vs H1 => ∃ a xs, q vs a ∧ SqA K b H1 a xs ∧ R (IteA K b k0 a) H1
/-- enumerate(a) -/
theorem pi_enumA (b : Bool) {e : Expr} {ta : TA} {p pos tpos : Pos} {elts : List Expr} {kk : Nat} (hg : Gl X "enumerate") (hm : X.mg "enumerate" = none) (ha : PA X [e] ta) (hs : starEach [e] X.env = [(false, eval e X.env)] := by rfl) :
    PI X (.Tuple elts kk tpos) (.Call (.Name "enumerate" p) [e] [] pos) (iEnumA X.K b 0 (fun vs a => vs = [.ref a]) ta) := by
  refine ⟨fun pins s σ H R I h => ?_⟩
  refine Call_ (ld_blt I hg hm boot_enumerate (PyProof.Rows.callWith_type1 (thn (ha.run pos pins s σ H _ I h) fun us s1 ⟨vs, H1, I1, r1, q1⟩ => ?_) hs rfl))
  obtain ⟨a, xs, ex, hq, q⟩ := q1
  subst ex
  cases r1 with
  | cons r rr =>
    cases rr
    cases r
    obtain ⟨its, rv, p'⟩ := inv_seqA I1 hq
    refine enum_begins1 (begins_A b a its.toArray) p' fun h' he hit hsz hk => wpAny_pyIter_enum he ?_
    have I2 : Inv X pins σ H1 { s1 with heap := h' } := I1.kept (t' := s1.toks) hk
    refine ⟨s1.heap.objs.size + 1, [s1.heap.objs.size + 1, s1.heap.objs.size], _, _, H1, rfl, I2, turn_enumA (b := b) (k0 := 0) a (s1.heap.objs.size + 1) s1.heap.objs.size, ⟨⟨.none, he⟩, itA_begin hit, Nat.succ_ne_self _⟩, fun b hb => ?_, q⟩
    have e' : b = s1.heap.objs.size + 1 ∨ b = s1.heap.objs.size := by simpa using hb
    have hle : s1.heap.objs.size ≤ b := by
      rcases e' with z | z
      · rw [z]; exact Nat.le_add_right _ _
      · rw [z]; exact Nat.le_refl _
    exact I1.fpOk hle (I1.hok.fresh hle)
/-- enumerate(a, k) -/
theorem pi_enumF (b : Bool) (k0 : Int) (hk0 : -(2 ^ 63) ≤ k0) (hk1 : k0 < 2 ^ 63) {e e2 : Expr} {ta : TA} {p pos tpos : Pos} {elts : List Expr} {kk : Nat} (hg : Gl X "enumerate") (hm : X.mg "enumerate" = none) (ha : PA X [e, e2] ta)
    (hs : starEach [e, e2] X.env = (false, eval e X.env) :: starEach [e2] X.env := by rfl) (hpl : (backTo pos (starEach [e2] X.env)).any (·.1) = false := by rfl) :
    PI X (.Tuple elts kk tpos) (.Call (.Name "enumerate" p) [e, e2] [] pos) (iEnumA X.K b k0 (fun vs a => vs = [.ref a, .int k0]) ta) := by
  refine ⟨fun pins s σ H R I h => ?_⟩
  refine Call_ (ld_blt I hg hm boot_enumerate (PyProof.Rows.callWith_type1 (thn (ha.run pos pins s σ H _ I h) fun us s1 ⟨vs, H1, I1, r1, q1⟩ => ?_) hs hpl))
  obtain ⟨a, xs, ex, hq, q⟩ := q1
  subst ex
  cases r1 with
  | cons r rr =>
    cases r
    cases rr with
    | cons r rr =>
      cases rr
      obtain ⟨t, rfl⟩ := r
      obtain ⟨its, rv, p'⟩ := inv_seqA I1 hq
      refine enum_begins (begins_A b a its.toArray) p' hk0 hk1 fun h' he hit hsz hk => wpAny_pyIter_enum he ?_
      have I2 : Inv X pins σ H1 { s1 with heap := h' } := I1.kept (t' := s1.toks) hk
      refine ⟨s1.heap.objs.size + 1, [s1.heap.objs.size + 1, s1.heap.objs.size], _, _, H1, rfl, I2, turn_enumA (b := b) (k0 := k0) a (s1.heap.objs.size + 1) s1.heap.objs.size, ⟨⟨.none, by rw [show k0 + ((0 : Nat) : Int) = k0 by omega]; exact he⟩, itA_begin hit, Nat.succ_ne_self _⟩, fun b hb => ?_, q⟩
      have e' : b = s1.heap.objs.size + 1 ∨ b = s1.heap.objs.size := by simpa using hb
      have hle : s1.heap.objs.size ≤ b := by
        rcases e' with z | z
        · rw [z]; exact Nat.le_add_right _ _
        · rw [z]; exact Nat.le_refl _
      exact I1.fpOk hle (I1.hok.fresh hle)
end
theorem walk_enumA {K : PySem.W.Frag} {b : Bool} {k0 : Int} {a : Addr} {xs : List V} : Walk (IteA K b k0 a) xs.length (fun H => SqA K b H a xs) (YPair (fun i => some (.int (k0 + (i : Nat)))) (fun i => xs[i]?)) := by
  refine ⟨fun i _ hi q => ⟨xs, xs[i], q, by simp [hi]⟩, fun _ q => ⟨xs, q, rfl⟩, fun i H v H' _ q y => ?_⟩
  obtain ⟨T, x, h1, h2, h3, h4⟩ := y
  exact ⟨T, .int (k0 + (i : Nat)), x, h1, h2, h3, rfl, h4 xs q⟩
end Ln


set_option Elab.async false
set_option linter.all false
set_option maxRecDepth 100000
set_option maxHeartbeats 4000000
namespace Ln
open PySem PySem.Spec PyProof.Rows L2 GxR
theorem scOpp : FnScope ["side"] ["side"] (defScope sOpp) := ⟨rfl, rfl, rfl, by decide +kernel, rfl, by decide +kernel, by decide +kernel⟩
theorem scDepC : FnScope ["log", "counts", "event"] ["log"] (defScope sDepC) := ⟨rfl, rfl, rfl, by decide +kernel, rfl, by decide +kernel, by decide +kernel⟩
theorem scExtras : FnScope ["start", "log", "cars", "stay", "present", "found", "event", "count", "car"] ["start", "log", "cars"] (defScope sExtras) := ⟨rfl, rfl, rfl, by decide +kernel, rfl, by decide +kernel, by decide +kernel⟩
theorem scFirstNeg : FnScope ["counts", "index", "count"] ["counts"] (defScope sFirstNeg) := ⟨rfl, rfl, rfl, by decide +kernel, rfl, by decide +kernel, by decide +kernel⟩
theorem scBlockR : FnScope ["start", "cars", "places", "place", "car"] ["start", "cars"] (defScope sBlockR) := ⟨rfl, rfl, rfl, by decide +kernel, rfl, by decide +kernel, by decide +kernel⟩
structure Bn (mg : Str → Option Value) : Prop where
  enm : mg "enumerate" = none
  rng : mg "range" = none
theorem inV_strs (x : Str) (F : List Str) : inV (.str x) (F.map V.str) = decide (x ∈ F) := by
  unfold inV
  rw [List.any_map]
  induction F with
  | nil => rfl
  | cons y r ih =>
    rw [List.any_cons, ih]
    show ((y == x) || decide (x ∈ r)) = decide (x ∈ y :: r)
    by_cases h : x = y
    · subst h
      rw [beq_self_eq_true, Bool.true_or, decide_eq_true List.mem_cons_self]
    · rw [beq_eq_false_iff_ne.mpr (fun e => h e.symm), Bool.false_or]
      refine decide_eq_decide.mpr ⟨fun q => List.mem_cons_of_mem _ q, fun q => ?_⟩
      rcases List.mem_cons.mp q with e | q
      · exact absurd e h
      · exact q
def Ev.dd : Ev → Int
  | .inn _ => 0
  | .out => 1
theorem depL_head (d : Int) (es : List Ev) : (depL d es)[0]? = some d := by
  cases es with
  | nil => rfl
  | cons e r => cases e <;> rfl
theorem depL_len : ∀ (d : Int) (es : List Ev), (depL d es).length = es.length + 1
  | _, [] => rfl
  | d, .inn _ :: r => by show (depL d r).length + 1 = _; rw [depL_len]; rfl
  | d, .out :: r => by show (depL (d + 1) r).length + 1 = _; rw [depL_len]; rfl
theorem depL_step : ∀ (d : Int) (es : List Ev) (i : Nat) (e : Ev) (k : Int), es[i]? = some e → (depL d es)[i]? = some k → (depL d es)[i + 1]? = some (k + e.dd)
  | d, [], i, e, k, h, _ => by simp at h
  | d, .inn c :: r, 0, e, k, h, h2 => by
    have e1 := Option.some.inj h
    have e2 := Option.some.inj h2
    subst e1 e2
    show (depL d r)[0]? = _
    rw [depL_head]
    show some d = some (d + 0)
    rw [Int.add_zero]
  | d, .out :: r, 0, e, k, h, h2 => by
    have e1 := Option.some.inj h
    have e2 := Option.some.inj h2
    subst e1 e2
    show (depL (d + 1) r)[0]? = _
    rw [depL_head]
    rfl
  | d, .inn c :: r, i + 1, e, k, h, h2 => depL_step d r i e k (by simpa using h) h2
  | d, .out :: r, i + 1, e, k, h, h2 => depL_step (d + 1) r i e k (by simpa using h) h2
def Ev.de (S : List Str) : Ev → Int
  | .inn c => if c ∈ S then 0 else 1
  | .out => -1
theorem extL_head (S : List Str) (x : Int) (es : List Ev) : (extL S x es)[0]? = some x := by
  cases es with
  | nil => rfl
  | cons e r => cases e <;> rfl
theorem extL_len (S : List Str) : ∀ (x : Int) (es : List Ev), (extL S x es).length = es.length + 1
  | _, [] => rfl
  | x, .inn c :: r => by show (extL S (if c ∈ S then x else x + 1) r).length + 1 = _; rw [extL_len]; rfl
  | x, .out :: r => by show (extL S (x - 1) r).length + 1 = _; rw [extL_len]; rfl
theorem extL_step (S : List Str) : ∀ (x : Int) (es : List Ev) (i : Nat) (e : Ev) (k : Int), es[i]? = some e → (extL S x es)[i]? = some k → (extL S x es)[i + 1]? = some (k + e.de S)
  | x, [], i, e, k, h, _ => by simp at h
  | x, .inn c :: r, 0, e, k, h, h2 => by
    have e1 := Option.some.inj h
    have e2 := Option.some.inj h2
    subst e1 e2
    show (extL S (if c ∈ S then x else x + 1) r)[0]? = some (x + if c ∈ S then 0 else 1)
    rw [extL_head]
    split
    · rw [Int.add_zero]
    · rfl
  | x, .out :: r, 0, e, k, h, h2 => by
    have e1 := Option.some.inj h
    have e2 := Option.some.inj h2
    subst e1 e2
    show (extL S (x - 1) r)[0]? = _
    rw [extL_head]
    rfl
  | x, .inn c :: r, i + 1, e, k, h, h2 => extL_step S _ r i e k (by simpa using h) h2
  | x, .out :: r, i + 1, e, k, h, h2 => extL_step S (x - 1) r i e k (by simpa using h) h2
theorem cut_one {xs : List V} (h : 0 < xs.length) : cutV xs (some 1) none = xs.drop 1 := by
  unfold cutV
  rw [HT.sIx_none, show ((1 : Int)) = ((1 : Nat) : Int) from rfl, HT.sIx_nat, Nat.min_eq_left h, List.take_of_length_le (by rw [List.length_drop]; exact Nat.le_refl _)]
section
variable {P : Program} {w : World} {K : PySem.W.Frag} {mg : Str → Option Value} {base : Heap} {Ps : List Addr}
def spOpp : Sp := fun vs H Q _ => ∃ x : Str, vs = [.str x] ∧ Q (.str (if x = "L" then "R" else "L")) H
theorem ok_opp {f : Addr} {fd : FuncData} (F : Fun K "opposite" "opposite" sOpp f fd) : FnOk P w K mg base CX0 1 f fd ["side"] spOpp := by
  refine F.ok scOpp (fun vs H Q E h => ?_) (fun cdv A outer s H vs Q E hr h => ?_)
  · obtain ⟨x, rfl, _⟩ := h
    rfl
  · obtain ⟨x, rfl, q⟩ := h
    refine ⟨_, pss_one (ps_ret (pe_ifExp (pt_cmpR op_eq (pv 0) pe_str (nomark _)) pe_str pe_str)), ?_⟩
    refine ⟨_, rfl, rfl, _, rfl, ?_⟩
    by_cases h : x = "L"
    · rw [if_pos h] at q
      rw [decide_eq_true (show V.str x = V.str "L" by rw [h])]
      exact iteT q
    · rw [if_neg h] at q
      rw [decide_eq_false (fun z => h (V.str.inj z))]
      exact iteF q
def spDepC (K : PySem.W.Frag) (Ps : List Addr) : Sp := fun vs H Q _ => ∃ (l : Addr) (as : List Addr) (es : List Ev), vs = [.ref l] ∧ LogAt K H l as es ∧ Tabs Ps H ∧
  ∀ H' p, Kp Ps H H' → H p = none → H' p = some (.lst ((depL 0 es).map V.int)) → Q (.ref p) H'
theorem ok_depC {f : Addr} {fd : FuncData} (F : Fun K "departure_counts" "departure_counts" sDepC f fd) : FnOk P w K mg base CX0 1 f fd ["log"] (spDepC K Ps) := by
  refine F.ok scDepC (fun vs H Q E h => ?_) (fun cdv A outer s H vs Q E hr h => ?_)
  · obtain ⟨l, as, es, rfl, _⟩ := h
    rfl
  · obtain ⟨l, as, es, rfl, hE, hT, q⟩ := h
    refine ⟨_, pss_cons (ps_set (i := 1) scDepC.nd rfl (.inl rfl) (pe_lst (pa_cons pe_int pa_nil)))
      (pss_cons (ps_for PassesOwn.never rfl (pi_list (pv 0)) (pg_name (i := 2) scDepC.nd rfl (.inl rfl))
        (pss_one (ps_expr (pe_bm PySem.F.plainAttrs_list PySem.F.slot_list_append PySem.F.type_list_append mt_append (pv 1) (pa_cons (pe_op op_add (pe_ix ix_list (pv 1) (pe_un un_neg pe_int) (fun _ _ => rfl)) (pe_ifExp (pt_cmpR op_eq (pe_ix ix_tup (pv 2) pe_int (fun _ _ => rfl)) pe_str (nomark _)) pe_int pe_int)) pa_nil)))))
      (pss_one (ps_ret (pv 1)))), ?_⟩
    refine ⟨by show 1 ≤ sizeLine; decide, fun o ho => ?_⟩
    have k2 : Kp Ps H (L2.upd H o (.lst [V.int 0])) := Kp.new hT ho
    have hlen := Paired.length hE.evs
    refine ⟨.ref l, rfl, l, rfl, ⟨_, (hE.kp k2 hT).at_⟩, for_list (K := K) (a := l) (xs := as.map V.ref) (fun i σ H' => ∃ v2 : Option V, σ = [some (.ref l), some (.ref o), v2] ∧ Kp Ps H H' ∧ i ≤ es.length ∧ H' o = some (.lst (((depL 0 es).take (i + 1)).map V.int))) ?_ ?_ ?_ ?_⟩
    · refine ⟨none, rfl, k2, Nat.zero_le _, ?_⟩
      rw [upd_same, List.take_add_one, depL_head]
      rfl
    · rintro i σ H' _ ⟨_, _, kp, _⟩
      exact (hE.kp kp hT).at_
    · rintro i y σ H' hi ⟨v2, rfl, kp, hie, ho'⟩
      have hlt : i < es.length := by
        have h1 := (List.getElem?_eq_some_iff.mp hi).1
        rw [List.length_map] at h1
        omega
      have hev : es[i]? = some es[i] := List.getElem?_eq_getElem hlt
      obtain ⟨b, hb, hbt⟩ := pair_at (hE.kp kp hT).evs i _ hev
      have hy : y = .ref b := by
        rw [List.getElem?_map, hb] at hi
        exact (Option.some.inj hi).symm
      subst hy
      have hz : i < (depL 0 es).length := by rw [depL_len]; omega
      have few2 := hE.few
      have hk : (depL 0 es)[i]? = some (depL 0 es)[i] := List.getElem?_eq_getElem hz
      have hlast : ((depL 0 es).take (i + 1)).map V.int = ((depL 0 es).take i).map V.int ++ [V.int (depL 0 es)[i]] := by
        rw [List.take_add_one, hk, List.map_append]
        rfl
      have hstep := depL_step _ es i _ _ hev hk
      have fin : ∀ d : Int, d = (es[i]).dd → L2.upd H' o (.lst (((depL 0 es).take (i + 1)).map V.int ++ [V.int ((depL 0 es)[i] + d)])) o = some (.lst (((depL 0 es).take (i + 1 + 1)).map V.int)) := fun d e => by
        rw [upd_same, List.take_add_one (i := i + 1), hstep, List.map_append, e]
        rfl
      have room : (((depL 0 es).take (i + 1)).map V.int).length < sizeLine := by
        rw [List.length_map, List.length_take]
        exact Nat.lt_of_le_of_lt (Nat.min_le_left _ _) (small1000 (by omega))
      have lastAt : atI (((depL 0 es).take (i + 1)).map V.int) (-1) = some (V.int (depL 0 es)[i]) := by
        rw [hlast]
        exact atI_last _ _
      cases hE2 : es[i] with
      | inn c =>
        rw [hE2] at hbt
        refine ⟨.ref o, rfl, .inl ⟨rfl, _, .inl (.inl ho')⟩, .ref o, rfl, 1, rfl, o, _, -1, _, rfl, rfl, .inl (.inl ho'), lastAt, .ref b, rfl, b, _, 0, .str "in", rfl, rfl, hbt, atI_nat (j := 0) rfl, rfl, _, rfl, ?_⟩
        rw [decide_eq_false (fun z => ne_io (V.str.inj z))]
        refine iteF ⟨_, _, rfl, rfl, o, _, _, rfl, rfl, ho', room, ?_⟩
        exact ⟨some (.ref b), rfl, kp.upd hT ho, hlt, fin 0 (by rw [hE2]; rfl)⟩
      | out =>
        rw [hE2] at hbt
        refine ⟨.ref o, rfl, .inl ⟨rfl, _, .inl (.inl ho')⟩, .ref o, rfl, 1, rfl, o, _, -1, _, rfl, rfl, .inl (.inl ho'), lastAt, .ref b, rfl, b, _, 0, .str "out", rfl, rfl, hbt, atI_nat (j := 0) rfl, rfl, _, rfl, ?_⟩
        rw [decide_eq_true (rfl : V.str "out" = V.str "out")]
        refine iteT ⟨_, _, rfl, rfl, o, _, _, rfl, rfl, ho', room, ?_⟩
        exact ⟨some (.ref b), rfl, kp.upd hT ho, hlt, fin 1 (by rw [hE2]; rfl)⟩
    · rintro σ H' ⟨v2, rfl, kp, hie, ho'⟩
      refine ⟨.ref o, rfl, q H' o kp ho ?_⟩
      rw [ho', List.length_map, hlen, List.take_of_length_le (by rw [depL_len]; exact Nat.le_refl _)]
def spFirstNeg (K : PySem.W.Frag) (Ps : List Addr) : Sp := fun vs H Q _ => ∃ (l : Addr) (xs : List Int), vs = [.ref l] ∧ SqL K H l (xs.map V.int) ∧ Tabs Ps H ∧
  ∀ H', Kp Ps H H' → Q (match fneg xs with | none => .non | some i => .int (i : Nat)) H'
theorem ok_firstNeg {f : Addr} {fd : FuncData} (F : Fun K "first_negative" "first_negative" sFirstNeg f fd) (B3 : Bn mg) : FnOk P w K mg base CX0 1 f fd ["counts"] (spFirstNeg K Ps) := by
  refine F.ok scFirstNeg (fun vs H Q E h => ?_) (fun cdv A outer s H vs Q E hr h => ?_)
  · obtain ⟨l, xs, rfl, _⟩ := h
    rfl
  · obtain ⟨l, xs, rfl, hS, hT, q⟩ := h
    refine ⟨_, pss_cons (ps_for PassesOwn.never rfl (pi_enumA true (by rfl) B3.enm (pa_cons (pv 0) pa_nil)) (pg_tup rfl (pgs_cons (pg_name (i := 1) scFirstNeg.nd rfl (.inl rfl)) (pgs_cons (pg_name (i := 2) scFirstNeg.nd rfl (.inl rfl)) pgs_nil)))
        (pss_one (ps_if (pt_cmpR op_lt (pv 2) pe_int (nomark _)) (pss_one (ps_ret (pv 1))) pss_nil)))
      (pss_one (ps_ret pe_non)), ?_⟩
    refine ⟨.ref l, rfl, l, xs.map V.int, rfl, hS, for_it (walk_enumA (K := K) (b := true) (k0 := 0) (a := l) (xs := xs.map V.int)) (fun i σ H' => ∃ v1 v2 : Option V, σ = [some (.ref l), v1, v2] ∧ Kp Ps H H' ∧ ∀ j, j < i → ∀ y, xs[j]? = some y → ¬ y < 0) ?_ ?_ ?_ ?_⟩
    · exact ⟨none, none, rfl, Kp.refl hT, fun j hj => absurd hj (Nat.not_lt_zero j)⟩
    · rintro i σ H' _ ⟨_, _, _, kp, _⟩
      exact kp.seqL hT hS
    · rintro i x σ H1 H2 hi ⟨v1, v2, rfl, kp, hno⟩ ⟨T, y1, y2, rfl, hTn, rfl, e1, e2⟩
      obtain rfl := Option.some.inj e1
      have hlt : i < xs.length := by
        rw [List.length_map] at hi
        exact hi
      have hk : xs[i]? = some xs[i] := List.getElem?_eq_getElem hlt
      have e2 : (xs.map V.int)[i]? = some y2 := e2
      rw [List.getElem?_map, hk] at e2
      obtain rfl := Option.some.inj e2
      have hT0 : H T = none := kp.free hT hTn
      have kp1 : Kp Ps H (L2.upd H1 T (.tup [.int (0 + (i : Nat)), .int xs[i]])) := kp.upd hT hT0
      refine ⟨T, _, rfl, .inl (.inl upd_same), rfl, _, _, rfl, _, _, rfl, rfl, ?_⟩
      refine ⟨_, rfl, _, _, rfl, rfl, _, rfl, ite2 (fun h => ?_) (fun h => ?_)⟩
      · have h : xs[i] < 0 := of_decide_eq_true h
        have hf : fneg xs = some i := by
          unfold fneg
          rw [List.findIdx?_eq_some_iff_getElem]
          refine ⟨hlt, decide_eq_true h, fun j hj => ?_⟩
          have := hno j hj _ (List.getElem?_eq_getElem (by omega))
          simpa using this
        have := q _ kp1
        rw [hf, Int.zero_add] at this
        refine ⟨_, rfl, ?_⟩
        show Q (.int (0 + (i : Nat))) _
        rw [Int.zero_add]
        exact this
      · have h : ¬ xs[i] < 0 := fun z => h (decide_eq_true z)
        refine ⟨_, _, rfl, kp1, fun j hj y hy => ?_⟩
        by_cases e : j = i
        · rw [e, hk] at hy
          obtain rfl := Option.some.inj hy
          exact h
        · exact hno j (by omega) y hy
    · rintro σ H' ⟨v1, v2, rfl, kp, hno⟩
      have hf : fneg xs = none := by
        unfold fneg
        rw [List.findIdx?_eq_none_iff]
        intro y hy
        obtain ⟨j, hj, rfl⟩ := List.mem_iff_getElem.mp hy
        have := hno j (by rw [List.length_map]; exact hj) _ (List.getElem?_eq_getElem hj)
        simpa using this
      have := q H' kp
      rw [hf] at this
      exact this
end
end Ln


set_option Elab.async false
set_option linter.all false
set_option maxRecDepth 100000
set_option maxHeartbeats 4000000
namespace Ln
open PySem PySem.Spec PyProof.Rows L2 GxR
theorem filt_take (xs S : List Str) (i : Nat) (c : Str) (h : xs[i]? = some c) : (xs.take (i + 1)).filter (fun c => decide (c ∈ S)) = (xs.take i).filter (fun c => decide (c ∈ S)) ++ if c ∈ S then [c] else [] := by
  rw [List.take_add_one, h, List.filter_append]
  congr 1
  show List.filter _ [c] = _
  by_cases q : c ∈ S
  · rw [if_pos q, List.filter_cons_of_pos (by simpa using q)]
    rfl
  · rw [if_neg q, List.filter_cons_of_neg (by simpa using q)]
    rfl
section
variable {P : Program} {w : World} {K : PySem.W.Frag} {mg : Str → Option Value} {base : Heap} {Ps : List Addr}
def spExtras (K : PySem.W.Frag) (Ps : List Addr) : Sp := fun vs H Q _ => ∃ (a l f : Addr) (xs : List Str) (as : List Addr) (es : List Ev) (S : List Str), vs = [.ref a, .ref l, .ref f] ∧ LaneAt K H a xs ∧ laneB xs = true ∧ LogAt K H l as es ∧ logB xs xs.length es = true ∧ SqT K H f (S.map V.str) ∧ Tabs Ps H ∧
  ∀ H' p, Kp Ps H H' → H p = none → H' p = some (.lst ((ext0 xs S es).map V.int)) → Q (.ref p) H'
theorem ok_extras {f fZ : Addr} {fd fdZ : FuncData} (F : Fun K "extras" "extras" sExtras f fd) (B : Bi mg)
    (GZ : FnOk P w K mg base CX0 8 fZ fdZ ["start", "log"] (spSizes K Ps)) (mgZ : mg "sizes" = some (.ref fZ)) (kZ : PySem.W.keepIn K (.ref fZ) = true) (bZ : Binds K fdZ ["start", "log"] []) : FnOk P w K mg base CX0 9 f fd ["start", "log", "cars"] (spExtras K Ps) := by
  refine F.ok scExtras (fun vs H Q E h => ?_) (fun cdv A outer s H vs Q E hr h => ?_)
  · obtain ⟨a, l, f, xs, as, es, S, rfl, _⟩ := h
    rfl
  · obtain ⟨a, l, f, xs, as, es, S, rfl, hL, hB, hE, hB2, hF, hT, q⟩ := h
    refine ⟨_, pss_cons (ps_set (i := 3) scExtras.nd rfl (.inl rfl) (pe_callB call_len_seq (by rfl) B.len PySem.boot_len (pa_cons
          (pe_lc (own := [("car", 8)]) (g := gName 8) (by rfl) scExtras.nd (pi_tup (pv 0)) (blkOk_by (own := [("car", 8)]) (N := ["start", "log", "cars", "stay", "present", "found", "event", "count", "car"]) (sc := defScope sExtras) (by decide +kernel))
            (fun _ _ _ _ _ => pg_name (i := 8) scExtras.nd rfl (Or.inl rfl)) (fun _ _ _ _ _ => pts_one (pt_cmpR (r := rIn K false) op_in_seq (pv 8) (pv 2) (by rfl))) (fun _ _ _ _ _ => pv 8)) pa_nil)))
      (pss_cons (ps_set (i := 4) scExtras.nd rfl (.inl rfl) (pe_call GZ hr (by rfl) mgZ kZ bZ .nil pass0 (pa_cons (pv 0) (pa_cons (pv 1) pa_nil))))
      (pss_cons (ps_set (i := 5) scExtras.nd rfl (.inl rfl) (pe_lst (pa_cons (pe_op op_sub (pe_ix ix_list (pv 4) pe_int (fun _ _ => rfl)) (pv 3)) pa_nil)))
      (pss_cons (ps_for PassesOwn.never rfl (pi_zip (by rfl) B.zip (pa_cons (pv 1) (pa_cons (pe_slice sl_list (pv 4) (po_some pe_int) po_none) pa_nil)))
          (pg_tup rfl (pgs_cons (pg_name (i := 6) scExtras.nd rfl (.inl rfl)) (pgs_cons (pg_name (i := 7) scExtras.nd rfl (.inl rfl)) pgs_nil)))
        (pss_cons (ps_if (PW.pt (pw_and (pt_cmpR op_eq (pe_ix ix_tup (pv 6) pe_int (fun _ _ => rfl)) pe_str (nomark _)) (pw_and1 (pt_cmpR op_in_seq (pe_ix ix_tup (pv 6) pe_int (fun _ _ => rfl)) (pv 2) (by rfl)))))
            (pss_one (ps_aug (i := 3) scExtras.nd rfl (.inl rfl) pe_int ip_add)) pss_nil)
        (pss_one (ps_expr (pe_bm PySem.F.plainAttrs_list PySem.F.slot_list_append PySem.F.type_list_append mt_append (pv 5) (pa_cons (pe_op op_sub (pv 7) (pv 3)) pa_nil))))))
      (pss_one (ps_ret (pv 5)))))), ?_⟩
    have few1 := hL.few
    have few2 := hE.few
    have hlen := Paired.length hE.evs
    -- stay
    refine ⟨.ref a, rfl, a, rfl, ⟨_, hL.at_⟩, fun D hD => ?_⟩
    refine lc_tup (K := K) (a := a) (xs := xs.map V.str) (fun i H' => Kp Ps H H' ∧ H' D = some (.lst (((xs.take i).filter fun c => decide (c ∈ S)).map V.str))) ?_ ?_ ?_ ?_
    · exact ⟨Kp.new hT hD, upd_same⟩
    · rintro i H' _ ⟨kp, _⟩
      exact (hL.kp kp hT).at_
    · rintro i y H' hi ⟨kp, hD'⟩
      have hlt : i < xs.length := by
        have h1 := (List.getElem?_eq_some_iff.mp hi).1
        rw [List.length_map] at h1
        omega
      have hc : xs[i]? = some xs[i] := List.getElem?_eq_getElem hlt
      rw [List.getElem?_map, hc] at hi
      obtain rfl := Option.some.inj hi
      have hft := filt_take xs S i _ hc
      refine ⟨rfl, _, rfl, .ref f, rfl, f, _, rfl, .inr (kp.seqT hT hF), rfl, flat_strs S, _, rfl, ?_⟩
      show if inV (.str xs[i]) (S.map V.str) = true then _ else _
      rw [inV_strs]
      by_cases hin : xs[i] ∈ S
      · rw [decide_eq_true hin]
        rw [if_pos hin] at hft
        refine iteT ⟨_, rfl, _, hD', ?_, kp.upd hT hD, ?_⟩
        · rw [List.length_map]
          have := List.length_filter_le (fun c => decide (c ∈ S)) (xs.take i)
          rw [List.length_take] at this
          exact small1000 (by omega)
        · rw [upd_same, hft, List.map_append]
          rfl
      · rw [decide_eq_false hin]
        rw [if_neg hin, List.append_nil] at hft
        refine iteF ⟨kp, ?_⟩
        rw [hft]
        exact hD'
    rintro H1 ⟨k1, hD1⟩
    rw [List.length_map, List.take_length] at hD1
    refine ⟨D, _, rfl, .inl (.inl (.inl hD1)), ?_⟩
    have hst : ((((xs.filter fun c => decide (c ∈ S)).map V.str).length : Nat) : Int) = stayN xs S := by rw [List.length_map]; rfl
    rw [hst]
    -- present
    refine ⟨.ref a, rfl, .ref l, rfl, a, l, xs, as, es, rfl, hL.kp k1 hT, hB, hE.kp k1 hT, hB2, k1.tab, fun H2 u k2' hu1 hu2 => ?_⟩
    have k2 := k1.trans k2'
    have hu0 : H u = none := k1.free hT hu1
    have hU : SqL K H2 u ((szs xs.length es).map V.int) := SqL.of hu2
    have hz0 : atI ((szs xs.length es).map V.int) 0 = some (V.int xs.length) := atI_nat (j := 0) (by rw [List.getElem?_map, szs_head]; rfl)
    refine ⟨.ref u, rfl, u, _, 0, _, rfl, rfl, hU, hz0, _, rfl, _, _, rfl, rfl, by show 1 ≤ sizeLine; decide, fun o ho => ?_⟩
    have ho0 : H o = none := k2.free hT ho
    have nou : u ≠ o := ne_of_none hu2 ho
    have k3 : Kp Ps H (L2.upd H2 o (.lst [V.int ((xs.length : Int) - stayN xs S)])) := k2.upd hT ho0
    have hu3 : (L2.upd H2 o (.lst [V.int ((xs.length : Int) - stayN xs S)])) u = some (.lst ((szs xs.length es).map V.int)) := by rw [upd_ne nou]; exact hu2
    refine ⟨.ref l, rfl, .ref u, rfl, 1, rfl, u, _, rfl, SqL.of hu3, fun c hc => ?_⟩
    have hc0 : H c = none := k3.free hT hc
    have nuc : u ≠ c := ne_of_none hu3 hc
    have noc : o ≠ c := fun z => by
      rw [← z, upd_same] at hc
      cases hc
    have k4 := k3.upd (o := .lst (cutV ((szs xs.length es).map V.int) (some 1) none)) hT hc0
    have hcut : cutV ((szs xs.length es).map V.int) (some 1) none = ((szs xs.length es).drop 1).map V.int := by
      rw [cut_one (by rw [List.length_map, szs_len]; omega), List.map_drop]
    rw [hcut] at k4 ⊢
    refine ⟨l, c, as.map V.ref, ((szs xs.length es).drop 1).map V.int, rfl, (hE.kp k4 hT).at_, SqL.of upd_same, RZ.for_zipL (K := K) (a := l) (b := c) (xs := as.map V.ref) (ys := ((szs xs.length es).drop 1).map V.int) (by rw [List.length_map, List.length_map, List.length_drop, szs_len]; omega)
      (fun i σ H' => ∃ (v6 v7 : Option V) (st : Int), σ = [some (.ref a), some (.ref l), some (.ref f), some (.int st), some (.ref u), some (.ref o), v6, v7, none] ∧ Kp Ps H H' ∧ i ≤ es.length ∧ H' c = some (.lst (((szs xs.length es).drop 1).map V.int)) ∧
        H' o = some (.lst (((ext0 xs S es).take (i + 1)).map V.int)) ∧ ∃ k, (szs xs.length es)[i]? = some k ∧ (ext0 xs S es)[i]? = some (k - st)) ?_ ?_ ?_ ?_⟩
    · refine ⟨none, none, _, rfl, k4, Nat.zero_le _, upd_same, ?_, xs.length, szs_head _ _, extL_head _ _ _⟩
      rw [upd_ne noc, upd_same, List.take_add_one, extL_head]
      rfl
    · rintro i σ H' ⟨_, _, _, _, kp, _, hc', _⟩
      exact ⟨(hE.kp kp hT).at_, SqL.of hc'⟩
    · rintro i y z T σ H' hi hsi ⟨v6, v7, st, rfl, kp, hie, hc', ho', k, hk, hx⟩ hTn
      have hlt : i < es.length := by
        have h1 := (List.getElem?_eq_some_iff.mp hi).1
        rw [List.length_map] at h1
        omega
      have hev : es[i]? = some es[i] := List.getElem?_eq_getElem hlt
      have hT0 : H T = none := kp.free hT hTn
      have kp1 : Kp Ps H (L2.upd H' T (.tup [y, z])) := kp.upd hT hT0
      have nTo : o ≠ T := ne_of_none ho' hTn
      have nTc : c ≠ T := ne_of_none hc' hTn
      obtain ⟨b, hb, hbt⟩ := pair_at (hE.kp kp1 hT).evs i _ hev
      have hy : y = .ref b := by
        rw [List.getElem?_map, hb] at hi
        exact (Option.some.inj hi).symm
      subst hy
      have hstep := szs_step _ es i _ _ hev hk
      have hz : z = .int (k + (es[i]).dn) := by
        rw [List.getElem?_map, List.getElem?_drop, show 1 + i = i + 1 by omega, hstep] at hsi
        exact (Option.some.inj hsi).symm
      subst hz
      have hxstep := extL_step S _ es i _ _ hev hx
      have ho1 : (L2.upd H' T (.tup [.ref b, .int (k + (es[i]).dn)])) o = some (.lst (((ext0 xs S es).take (i + 1)).map V.int)) := by rw [upd_ne nTo]; exact ho'
      have hc1 : (L2.upd H' T (.tup [.ref b, .int (k + (es[i]).dn)])) c = some (.lst (((szs xs.length es).drop 1).map V.int)) := by rw [upd_ne nTc]; exact hc'
      have room : (((ext0 xs S es).take (i + 1)).map V.int).length < sizeLine := by
        rw [List.length_map, List.length_take]
        exact Nat.lt_of_le_of_lt (Nat.min_le_left _ _) (small1000 (by omega))
      have fin : ∀ (st' : Int) (v6 v7 : Option V), (k + (es[i]).dn) - st' = (k - st) + (es[i]).de S →
          ∃ (v6' v7' : Option V) (st2 : Int), [some (V.ref a), some (.ref l), some (.ref f), some (.int st'), some (.ref u), some (.ref o), v6, v7, none] = [some (.ref a), some (.ref l), some (.ref f), some (.int st2), some (.ref u), some (.ref o), v6', v7', none] ∧
            Kp Ps H (L2.upd (L2.upd H' T (.tup [.ref b, .int (k + (es[i]).dn)])) o (.lst (((ext0 xs S es).take (i + 1)).map V.int ++ [V.int ((k + (es[i]).dn) - st')]))) ∧ i + 1 ≤ es.length ∧
            (L2.upd (L2.upd H' T (.tup [.ref b, .int (k + (es[i]).dn)])) o (.lst (((ext0 xs S es).take (i + 1)).map V.int ++ [V.int ((k + (es[i]).dn) - st')]))) c = some (.lst (((szs xs.length es).drop 1).map V.int)) ∧
            (L2.upd (L2.upd H' T (.tup [.ref b, .int (k + (es[i]).dn)])) o (.lst (((ext0 xs S es).take (i + 1)).map V.int ++ [V.int ((k + (es[i]).dn) - st')]))) o = some (.lst (((ext0 xs S es).take (i + 1 + 1)).map V.int)) ∧ ∃ k', (szs xs.length es)[i + 1]? = some k' ∧ (ext0 xs S es)[i + 1]? = some (k' - st2) := fun st' v6 v7 e => by
        refine ⟨v6, v7, st', rfl, kp1.upd hT ho0, hlt, ?_, ?_, _, hstep, ?_⟩
        · rw [upd_ne noc.symm]
          exact hc1
        · rw [upd_same, List.take_add_one (i := i + 1), hxstep, List.map_append, e]
          rfl
        · rw [hxstep, e]
      refine ⟨T, _, rfl, .inl (.inl upd_same), rfl, _, _, rfl, _, _, rfl, rfl, ?_⟩
      cases hE2 : es[i] with
      | inn d =>
        rw [hE2] at hbt fin kp1 ho1
        have hd1 : (Ev.inn d).dn = 1 := rfl
        refine ⟨.ref b, rfl, b, _, 0, .str "in", rfl, rfl, hbt, atI_nat (j := 0) rfl, rfl, _, rfl, ?_⟩
        rw [decide_eq_true (rfl : V.str "in" = V.str "in")]
        refine iteT ⟨.ref b, rfl, b, _, 1, .str d, rfl, rfl, hbt, atI_nat (j := 1) rfl, .ref f, rfl, f, _, rfl, .inr (kp1.seqT hT hF), rfl, flat_strs S, _, rfl, ?_⟩
        show if inV (.str d) (S.map V.str) = true then _ else _
        rw [inV_strs]
        by_cases hin : d ∈ S
        · rw [decide_eq_true hin]
          refine iteT ⟨_, rfl, _, _, rfl, rfl, ?_⟩
          refine ⟨.ref o, rfl, .inl ⟨rfl, _, .inl (.inl ho1)⟩, _, rfl, _, rfl, _, _, rfl, rfl, o, _, _, rfl, rfl, ho1, room, ?_⟩
          refine fin (st + 1) _ _ ?_
          show k + 1 - (st + 1) = (k - st) + if d ∈ S then 0 else 1
          rw [if_pos hin]
          omega
        · rw [decide_eq_false hin]
          refine iteF ?_
          refine ⟨.ref o, rfl, .inl ⟨rfl, _, .inl (.inl ho1)⟩, _, rfl, _, rfl, _, _, rfl, rfl, o, _, _, rfl, rfl, ho1, room, ?_⟩
          refine fin st _ _ ?_
          show k + 1 - st = (k - st) + if d ∈ S then 0 else 1
          rw [if_neg hin]
          omega
      | out =>
        rw [hE2] at hbt fin kp1 ho1
        refine ⟨.ref b, rfl, b, _, 0, .str "out", rfl, rfl, hbt, atI_nat (j := 0) rfl, rfl, _, rfl, ?_⟩
        rw [decide_eq_false (fun z => ne_oi (V.str.inj z))]
        refine iteF (iteF ?_)
        refine ⟨.ref o, rfl, .inl ⟨rfl, _, .inl (.inl ho1)⟩, _, rfl, _, rfl, _, _, rfl, rfl, o, _, _, rfl, rfl, ho1, room, ?_⟩
        refine fin st _ _ ?_
        show k + -1 - st = (k - st) + -1
        omega
    · rintro σ H' ⟨v6, v7, st, rfl, kp, hie, hc', ho', _⟩
      refine ⟨.ref o, rfl, q H' o kp ho0 ?_⟩
      rw [ho', List.length_map, hlen, List.take_of_length_le (by rw [extL_len]; exact Nat.le_refl _)]
end
end Ln


set_option Elab.async false
set_option linter.all false
set_option maxRecDepth 100000
set_option maxHeartbeats 2000000
namespace Ln.GC
open PySem PySem.Spec PyProof.Rows L2 GxR
theorem isCell_kept {h h' : Heap} {c : Addr} {v : Option Value} (z : h.IsCell c v) (k : ∀ b o, h.get? b = some o → h'.get? b = some o) : h'.IsCell c v := by
  obtain ⟨o, ho, hd⟩ := z
  exact ⟨o, k c o ho, hd⟩
/-- the context of a generator expression's own frame -/
def genCx (X : Cx) (cenv : Env) (A' : Around) (N : List Str) (fp : List Addr) (s4 : Shared) (H4 : Hp) (pn : List (Addr × Obj)) : Cx where
  prog := X.prog
  w := X.w
  K := X.K
  mg := X.mg
  base := X.base
  A := A'
  N := N
  s_0 := s4
  H_0 := H4
  env := cenv
  outer := X.stack
  stack := cenv :: X.stack
  ex := fp
  fn := fun _ => false
  calm := true
  pn := pn
  xe := fun _ _ => False

structure GSc (scope sc : Scope) (x : Str) (ys : List Str) : Prop where
  kind : scope.kind = .function
  co : scope.isCoroutine = false
  cell : ∀ y ∈ scope.names, y.2 ≠ .cell
  free : ∀ y ∈ scope.names, y.2 = .free → sc.names.lookup y.1 = some .cell ∨ sc.names.lookup y.1 = some .free
  cap : ∀ y ∈ ys, scope.names.lookup y = some .free
  nd : (x :: ys).Nodup
  dot : scope.names.lookup (".0" : Str) = some NameKind.local
  loc : scope.names.lookup x = some .local

def YA (Y : Cx) (τ : L2.St) (Q : VK) : Protocol := fun _ _ v s kap =>
  ∃ (b : Bool) (H : Hp), v = .bool b ∧ Inv Y [] (none :: τ) H s ∧ if b = true then ∀ s', s'.heap = s.heap → s'.os = s.os → AllBare s'.gens → kap (.send .none) s' else Q (.bl false) H
def RA (Y : Cx) (τ : L2.St) (Q : VK) : Nat → Shared → Shared → Prop := fun _ _ s => ∃ H, Inv Y [] (none :: τ) H s ∧ Q (.bl true) H
def RestA (Y : Cx) (τ : L2.St) (fp : List Addr) (tn : Nat → Heap → Prop) (W : Nat → Nat → Hp → Prop) (n i : Nat) (s : Shared) : Prop :=
  ∃ m H, m < n ∧ Inv Y [] (none :: τ) H s ∧ tn i s.heap ∧ (∀ b ∈ fp, H b = none) ∧ W i m H
/-- what is asked of each turn -/
def TurnA (J : It) (te : TE) (τ : L2.St) (W : Nat → Nat → Hp → Prop) (Q : VK) : Prop := ∀ i m H, W i m H →
  (J.stop i H ∧ Q (.bl true) H) ∨ (J.go i H ∧ ∀ v H', J.yld i H v H' → te (some v :: τ) H' fun y H3 => ∃ b, y = .bl b ∧ if b = true then ∃ m', m' < m ∧ W (i + 1) m' H3 else Q (.bl false) H3)
theorem inv_none {Y : Cx} {τ : L2.St} {v : Option V} {pins : List (Addr × Obj)} {H : Hp} {s : Shared} (I : Inv Y pins (v :: τ) H s) : Inv Y pins (none :: τ) H s :=
  I.weak rfl fun i u e => by
    match i, e with
    | 0, e => cases e
    | i + 1, e => exact e
section
variable {X : Cx} {elt iter : Expr} {x : Str} {px pos : Pos} {scope : Scope} {it : Addr} {fp : List Addr} {tn : Nat → Heap → Prop} {J : It} {te : TE} {W : Nat → Nat → Hp → Prop} {Q : VK} {cenv : Env} {s4 : Shared} {H4 : Hp} {pn : List (Addr × Obj)} {A2 : Around} {ys : List Str} {sc : Scope} {τ : L2.St}
theorem seg_all (hsc : GSc scope sc x ys) (hcs : cenv.scope = scope)
    (hE : PE (genCx X cenv (A2.deeper cenv) (x :: ys) fp s4 H4 pn) elt te) (T : Turn X.prog X.w X.K (.Name x px) J fp it tn)
    (hst : ∀ H : Hp, (∀ b ∈ fp, H b = none) → ∀ b ∈ fp, FpOk (genCx X cenv (A2.deeper cenv) (x :: ys) fp s4 H4 pn) [] H b) (turn : TurnA J te τ W Q) :
    ∀ (n i : Nat) (s₀ s : Shared), RestA (genCx X cenv (A2.deeper cenv) (x :: ys) fp s4 H4 pn) τ fp tn W n i s →
      Seg (model X.prog X.w) A2 (fun n s₀ r s₁ => r = .ok .next ∧ RA (genCx X cenv (A2.deeper cenv) (x :: ys) fp s4 H4 pn) τ Q n s₀ s₁) (YA (genCx X cenv (A2.deeper cenv) (x :: ys) fp s4 H4 pn) τ Q) n s₀
        (.compLoop (.GeneratorExp elt [⟨.Name x px, iter, [], 0⟩] scope pos) 0 (.ref it) .none cenv)
        ((model X.prog X.w).den (.compLoop (.GeneratorExp elt [⟨.Name x px, iter, [], 0⟩] scope pos) 0 (.ref it) .none cenv)) [] s := by
  intro n
  induction n with
  | zero =>
    intro i s₀ s ⟨m, _, hm, _⟩
    exact absurd hm (Nat.not_lt_zero m)
  | succ n ih =>
    intro i s₀ s ⟨m, H, hm, I, st, fr, w⟩
    have ov : A2.over (.compLoop (.GeneratorExp elt [⟨.Name x px, iter, [], 0⟩] scope pos) 0 (.ref it) .none cenv) [] = A2.deeper cenv := over_comp
    show Seg _ A2 _ _ _ s₀ _ ((compTurn (.GeneratorExp elt [⟨.Name x px, iter, [], 0⟩] scope pos) 0 (.ref it) .none cenv).onRaise (leaving cenv)) [] s
    rw [compTurn_gen, Sem.onRaise_eq_wrap]
    refine seg_bind_wrap (wpAny_standAt (seg_bind_wrap ?_))
    rw [ov]
    rcases turn i m H w with ⟨stop, q⟩ | ⟨go, step⟩
    · refine thn (T.done (genCx X cenv (A2.deeper cenv) (x :: ys) fp s4 H4 pn) rfl rfl rfl rfl i [] s (none :: τ) H _ I (hst H fr) st stop) fun r s1 h1 => ?_
      obtain ⟨rfl, I1⟩ := h1
      exact seg_end (.ok .next) ⟨rfl, H, I1, q⟩
    · refine thn (T.item (genCx X cenv (A2.deeper cenv) (x :: ys) fp s4 H4 pn) rfl rfl rfl rfl i [] s (none :: τ) H _ I (hst H fr) st go) fun r s1 h1 => ?_
      obtain ⟨u, rfl, h1⟩ := h1
      refine seg_bind_wrap ?_
      rw [ov]
      refine thn h1 fun _ s2 h2 => ?_
      obtain ⟨v, H2, I2, r2, y2, st2, fr2⟩ := h2
      have I2' := I2.pinned (hst H2 fr2) (T.obj _ _ st2)
      refine seg_bind_wrap ?_
      rw [ov]
      have hpg : PG (genCx X cenv (A2.deeper cenv) (x :: ys) fp s4 H4 pn) (.Name x px) (gName 0) := pg_name (X := genCx X cenv (A2.deeper cenv) (x :: ys) fp s4 H4 pn) hsc.nd rfl (.inl (by show cenv.scope.names.lookup x = _; rw [hcs]; exact hsc.loc)) (.inr (by show cenv.scope.names.lookup x = _; rw [hcs]; exact hsc.loc))
      refine wpAny_mono (hpg.run _ s2 (none :: τ) H2 v u (fun σ' H' => σ' = (some v :: τ) ∧ H' = H2) I2' r2 ⟨rfl, rfl⟩) (fun _ s3 h3 => ?_) fun _ _ z => False.elim z
      obtain ⟨σ3, H3, I3, e3, e4⟩ := h3
      subst e3
      have e4 := e4.symm
      subst e4
      refine seg_bind_wrap ?_
      refine wpAny_of_eq (a := true) (by simp only [List.forIn_nil]) ?_
      simp only [if_true]
      have hy : ∀ v, yieldOut cenv v = yieldValue v := fun v => by simp only [yieldOut, hcs, hsc.co, Bool.false_eq_true, if_false]
      simp only [hy]
      rw [Sem.bind_eq_wrap', Sem.bind_eq_wrap', Sem.wrap_wrap, Sem.wrap_wrap]
      refine seg_wrap ?_
      rw [ov]
      refine wpAny_mono (hE.run _ s3 (some v :: τ) H2 _ I3 (step v H2 y2)) (fun y s5 h5 => ?_) fun _ _ z => False.elim z
      obtain ⟨v5, H5, I5, r5, b, rfl, hb⟩ := h5
      obtain rfl : y = Value.bool b := r5
      have I6 := inv_none I5
      have fr5 : ∀ b ∈ fp, H5 b = none := fun c hc => by
        obtain ⟨o, e, d⟩ := T.obj _ _ st2 c hc
        exact (I5.pin (c, o) (List.mem_append_right _ (List.mem_append_right _ (mem_pinsAt hc e)))).2.1
      have st5 : tn (i + 1) s5.heap := T.keep _ _ _ st2 fun c hc o e => (I5.pin (c, o) (List.mem_append_right _ (List.mem_append_right _ (mem_pinsAt hc e)))).1
      refine seg_at (seg_yield rfl rfl rfl ⟨b, H5, rfl, I6.unpinned, ?_⟩)
      cases b with
      | false => exact hb
      | true =>
        obtain ⟨m', hm', w'⟩ := hb
        intro s6 hh ho hbare
        refine seg_again rfl (ih (i + 1) s6 s6 ⟨m', H5, by omega, inv_same I6.unpinned hh ho hbare, by rw [hh]; exact st5, fr5, w'⟩)
end

section
variable {X : Cx} {elt iter : Expr} {x : Str} {px pos : Pos} {scope : Scope} {it : Addr} {fp : List Addr} {tn : Nat → Heap → Prop} {J : It} {te : TE} {W : Nat → Nat → Hp → Prop} {Q : VK} {cenv : Env} {s4 : Shared} {H4 : Hp} {pn : List (Addr × Obj)} {A2 : Around} {ys : List Str} {sc : Scope} {τ : L2.St}
theorem seg_all0 (hsc : GSc scope sc x ys) (hcs : cenv.scope = scope)
    (hE : PE (genCx X cenv (A2.deeper cenv) (x :: ys) fp s4 H4 pn) elt te) (T : Turn X.prog X.w X.K (.Name x px) J fp it tn)
    (hst : ∀ H : Hp, (∀ b ∈ fp, H b = none) → ∀ b ∈ fp, FpOk (genCx X cenv (A2.deeper cenv) (x :: ys) fp s4 H4 pn) [] H b) (turn : TurnA J te τ W Q)
    (n : Nat) (s₀ s : Shared) (h : RestA (genCx X cenv (A2.deeper cenv) (x :: ys) fp s4 H4 pn) τ fp tn W n 0 s) :
      Seg (model X.prog X.w) A2 (fun n s₀ r s₁ => r = .ok .next ∧ RA (genCx X cenv (A2.deeper cenv) (x :: ys) fp s4 H4 pn) τ Q n s₀ s₁) (YA (genCx X cenv (A2.deeper cenv) (x :: ys) fp s4 H4 pn) τ Q) n s₀
        (.compStart (.GeneratorExp elt [⟨.Name x px, iter, [], 0⟩] scope pos) 0 (.ref it) .none cenv)
        ((model X.prog X.w).den (.compStart (.GeneratorExp elt [⟨.Name x px, iter, [], 0⟩] scope pos) 0 (.ref it) .none cenv)) [] s := by
  have hl := seg_all (iter := iter) (pos := pos) hsc hcs hE T hst turn n 0 s₀ s h
  obtain ⟨m, H, _, I, st, _⟩ := h
  show Seg _ A2 _ _ _ s₀ _ ((compStart (.GeneratorExp elt [⟨.Name x px, iter, [], 0⟩] scope pos) 0 (.ref it) .none cenv).onRaise (leaving cenv)) [] s
  unfold compStart
  rw [Sem.onRaise_eq_wrap]
  show Seg _ A2 _ _ _ s₀ _ (Sem.wrap _ _ _ _ (ask >>= _)) [] s
  refine seg_bind_wrap (wpAny_askSetting ?_)
  split
  · exact seg_again rfl hl
  · first
      | exact seg_bind_wrap (wpAny_rule (seg_bind_wrap (wpAny_standAt (seg_bind_wrap (T.self _ 0 s _ _ st (seg_again rfl hl))))))
      | (refine seg_bind_wrap (wpAny_rule ?_)
         show Seg _ A2 _ _ _ s₀ _ (Sem.wrap _ _ _ _ (standAt iter.pos >>= _)) [] s
         exact seg_bind_wrap (wpAny_standAt (seg_bind_wrap (T.self _ 0 s _ _ st (seg_again rfl hl)))))

theorem loop_all {Y : Cx} {τ : L2.St} {ag : Addr} {go : Obj} {g : Nat} {A : Around} {R : Result → Shared → Prop} (hpn : (ag, go) ∈ Y.pn) (hgo : ∀ h : Heap, h.get? ag = some go → h.IsGen ag g) (hh : A.handled = none) (hd : A.depth < recursionLimit)
    (hR : ∀ (b : Bool) (H : Hp) (s : Shared), Inv Y [] (none :: τ) H s → Q (.bl b) H → R (.ok (.ret (.bool b))) s) :
    ∀ (n : Nat) (s : Shared), s.heap.IsGen ag g → s.heap.NoLimit →
      (∃ gs, s.gens[g]? = some gs ∧ gs.Goes (model Y.prog Y.w) A.in1.in1 (fun n s₀ r s₁ => r = .ok .next ∧ RA Y τ Q n s₀ s₁) (YA Y τ Q) n (.send .none) (s.setGen g .running)) →
      codeAny (model Y.prog Y.w) A (.builtin "all.loop" ⟨[.ref ag], []⟩) R s := by
  have ends : ∀ (n : Nat) (s s₁ : Shared), RA Y τ Q n (s.setGen g .running) s₁ → ∀ h', (∀ b o, s₁.heap.get? b = some o → h'.get? b = some o) → R (.ok (.ret (.bool true))) { s₁.setGen g .finished with heap := h' } := by
    intro n s s₁ ⟨H, I, q⟩ h' hk
    refine hR true H _ ?_ q
    exact I.call' (ch := []) rfl (Un.kept hk) (I.hok.kept hk) (bare_set I.bare rfl) fun b z => by simp at z
  intro n
  induction n with
  | zero =>
    intro s hg hl ⟨gs, hgs, hgo'⟩
    refine codeAny_builtin F.entry_all_loop ?_
    rw [Around.under_plainId F.plain_all_loop _]
    show wpAny _ A.in1 (pyNext (.ref ag) >>= fun r => _) _ _ s
    refine wpAny_bind (wpAny_pyNext_genexpQ (A := A.in1) (P := RA Y τ Q) hh hl hd hg hgs hgo' (fun v s₁ gs' hbare hv => ?_) fun s₁ hp h' hk => ?_)
    · obtain ⟨b, H, rfl, I, hb⟩ := hv
      refine wpAny_bind (wpAny_holding (wpAny_truthy_bool ?_))
      refine wpAny_bind (wpAny_letGo ?_)
      cases b with
      | true => exact False.elim (hb s₁ rfl rfl I.bare)
      | false =>
        simp only [Bool.false_eq_true, if_false]
        exact wpAny_bind (wpAny_rule (wpAny_pure (hR false H _ (inv_same I rfl rfl (bare_set I.bare hbare)) hb)))
    · exact wpAny_bind (wpAny_rule (wpAny_pure (ends _ _ _ hp h' hk)))
  | succ n ih =>
    intro s hg hl ⟨gs, hgs, hgo'⟩
    have hgl : g < s.gens.size := (Array.getElem?_eq_some_iff.mp hgs).1
    refine codeAny_builtin F.entry_all_loop ?_
    rw [Around.under_plainId F.plain_all_loop _]
    show wpAny _ A.in1 (pyNext (.ref ag) >>= fun r => _) _ _ s
    refine wpAny_bind (GenW.wpAny_gsz (n := g + 1) hgl (wpAny_pyNext_genexpQ (A := A.in1) (P := RA Y τ Q) hh hl hd hg hgs hgo' (fun v s₁ gs' hbare hv => ?_) fun s₁ hp h' hk => ?_))
    · intro hsz
      obtain ⟨b, H, rfl, I, hb⟩ := hv
      refine wpAny_bind (wpAny_holding (wpAny_truthy_bool ?_))
      refine wpAny_bind (wpAny_letGo ?_)
      have sz : (s₁.setGen g gs').gens.size = s₁.gens.size := by simp [Shared.setGen]
      have hsz1 : g < s₁.gens.size := by
        have : g + 1 ≤ (s₁.setGen g gs').gens.size := hsz
        omega
      cases b with
      | true =>
        simp only [if_true]
        refine wpAny_pure ⟨plainId_quiet F.plain_all_loop _, ih _ (hgo _ ?_) I.nolimit ⟨gs', ?_, ?_⟩⟩
        · exact (I.pin (ag, go) (List.mem_append_left _ hpn)).1
        · show (s₁.gens.setIfInBounds g gs')[g]? = some gs'
          simp [hsz1]
        · exact hb _ rfl rfl (bare_set (s := s₁.setGen g gs') (bare_set I.bare hbare) rfl)
      | false =>
        simp only [Bool.false_eq_true, if_false]
        exact wpAny_bind (wpAny_rule (wpAny_pure (hR false H _ (inv_same I rfl rfl (bare_set I.bare hbare)) hb)))
    · intro _
      exact wpAny_bind (wpAny_rule (wpAny_pure (ends _ _ _ hp h' hk)))
end

def capt (σ : L2.St) (is : List Nat) : L2.St := is.map fun i => (σ[i]?).join
def tAllG (P : Addr) (wi : TI) (te : TE) (is : List Nat) : TE := fun σ H Q => wi σ H fun J H1 => TabG H1 P ∧ ∃ W : Nat → Nat → Hp → Prop, (∀ H2, Tabbed P H1 H2 → ∃ m, W 0 m H2) ∧ TurnA J te (capt σ is) W Q
section
variable {X : Cx}
/-- all(elt for x in iter): elt anything that raises nothing -/
theorem pe_allG {c P : Addr} {elt iter : Expr} {x : Str} {px p pos gpos : Pos} {scope : Scope} {wi : TI} {te : TE} {k : Nat} {ys : List Str} (is : List Nat)
    (hr : Room (k + 1) X.A) (hc : X.calm = true) (hg : Gl X "all") (hm : X.mg "all" = none) (TB : TabB X.base X.mg c P) (hcode : X.env.code = .ref c) (S : GSc scope X.env.scope x ys) (hix : ∀ (j : Nat) (y : Str) (i : Nat), ys[j]? = some y → is[j]? = some i → X.N[i]? = some y) (hil : is.length = ys.length) (hi : PI X (.Name x px) iter wi)
    (hE : ∀ (C : Addr) (code : Value) (bi : Addr) (A' : Around) (fp : List Addr) (s4 : Shared) (H4 : Hp) (pn : List (Addr × Obj)), Room k A' → PE (genCx X (genEnv scope (cloFrom X.env.cells scope.names []) C code bi X.env) A' (x :: ys) fp s4 H4 pn) elt te)
    (hs : ∀ v, genFold iter X.env v = pure v := by intro _; rfl)
    (he : starEach [.GeneratorExp elt [⟨.Name x px, iter, [], 0⟩] scope gpos] X.env = (false, eval (.GeneratorExp elt [⟨.Name x px, iter, [], 0⟩] scope gpos) X.env) :: starEach [] X.env := by rfl) :
    PE X (.Call (.Name "all" p) [.GeneratorExp elt [⟨.Name x px, iter, [], 0⟩] scope gpos] [] pos) (tAllG P wi te is) := by
  refine ⟨fun pins s σ H Q I h => ?_⟩
  refine wpAny_Call_Name_kw (ld_blt I hg hm boot_all ?_)
  refine PyProof.Rows.callWith_builtin1 ?_ he (by rfl)
  rw [he]
  show wpAny (model X.prog X.w) X.A (spliced ((false, eval (.GeneratorExp elt [⟨.Name x px, iter, [], 0⟩] scope gpos) X.env) :: backTo pos (starEach [] X.env))) _ _ s
  have hfree : ∀ y ∈ scope.names, y.2 = .free → ∃ c, X.env.cells.lookup y.1 = some c := fun y hy e => by
    rcases S.free y hy e with k | k
    · exact I.ok.has _ (.inl k)
    · exact I.ok.has _ (.inr k)
  have hclo : closureFor scope X.env = pure (cloFrom X.env.cells scope.names []) := closure_ok hfree
  generalize hcl : cloFrom X.env.cells scope.names [] = clo at *
  have cm : ∀ {y c}, clo.lookup y = some c → X.env.cells.lookup y = some c := fun {y c} e => by
    have hm := PySem.mem_of_lookup e
    rw [← hcl] at hm
    rcases cloFrom_mem hm with hm | ⟨h1, rfl⟩
    · cases hm
    · obtain ⟨c, hc⟩ := hfree _ h1 rfl
      rw [hc]
      rfl
  have look : ∀ {y}, (y, NameKind.free) ∈ scope.names → ∃ c, clo.lookup y = some c ∧ X.env.cells.lookup y = some c := fun {y} hy => by
    obtain ⟨c', e'⟩ := mem_lookup (cloFrom_has (cells := X.env.cells) (acc := []) hy)
    rw [hcl] at e'
    exact ⟨c', e', cm e'⟩
  refine Calls.spliced_cons (wpAny_GeneratorExp_make S.co hclo S.cell S.dot S.kind hr.depth ?_ hs)
  refine thn (hi.run pins s σ H _ I h) fun xv s1 h1 => thn h1 fun itv s2 h2 => ?_
  obtain ⟨it, fp, tn, J, H2, rfl, I2, T, st2, f2, ⟨ps, hP, htr⟩, W, hW, turn⟩ := h2
  refine ⟨I2.nolimit, ?_⟩
  have hPs : s2.heap.get? P = some { cls := .none, data := .fields ps } := I2.hok P _ hP
  have cd : PySem.W.CodeHd s2.heap c P := TB.code.keeps I2.bk
  have fpP : ∀ b ∈ fp, b ≠ P := fun b hb e => by
    have := (f2 b hb).1
    rw [e, hP] at this
    cases this
  have cont : ∀ (code : Value) (h3 : Heap) (tk : Nat) (H3 : Hp), Inv X pins σ H3 { s2 with heap := h3, toks := tk } → Tabbed P H2 H3 → tn 0 h3 →
      wpAny (model X.prog X.w) X.A (builtinsFor X.env.globals X.env.builtins) (fun bi s4 =>
        ∀ h', h'.Ns s4.heap.objs.size (fun y => if y = ".0" then some (.ref it) else none) → Heap.SameBut s4.heap.objs.size (s4.heap.push { cls := .type "frame", data := .dict #[] }) h' →
          wpAny (model X.prog X.w) X.A (call (.builtin "all") [.ref h'.objs.size]) (EP X pins σ Q) X.xe { s4 with
            gens := s4.gens.push (.fresh (.compStart (.GeneratorExp elt [⟨.Name x px, iter, [], 0⟩] scope gpos) 0 (.ref it) .none (genEnv scope clo s4.heap.objs.size code bi X.env))),
            toks := s4.toks + 1 + 1 + 1,
            heap := h'.push { cls := .type "generator", data := .fields #[.int s4.gens.size 0, .str "<genexpr>" (s4.toks + 1), .str (X.env.qual ++ "<genexpr>") (s4.toks + 1 + 1)] } }) X.xe { s2 with heap := h3, toks := tk } := by
    intro code h3 tk H3 I3 hT st3
    have fr3 : ∀ b ∈ fp, H3 b = none := fun b hb => (hT.2 b (fpP b hb)).trans (f2 b hb).1
    obtain ⟨bm, ob, e1, e2, e3, e4, e5, e6, e7, e8⟩ := TB.bm
    refine wpAny_builtinsFor (m := X.mg) (by rw [I3.ok.glob]; exact I3.mod.glob.keeps I3.bk) e1 e2 (I3.bk _ _ e5) e6 e7 e8 ?_
    intro h' hn' hs'
    generalize hs3 : ({ s2 with heap := h3, toks := tk } : Shared) = s3 at *
    generalize hgo : ({ cls := .type "generator", data := .fields #[.int s3.gens.size 0, .str "<genexpr>" (s3.toks + 1), .str (X.env.qual ++ "<genexpr>") (s3.toks + 1 + 1)] } : Obj) = go
    have hgd : ∀ h : Heap, ∀ a, h.get? a = some go → h.IsGen a s3.gens.size := fun h a e => ⟨go, _, _, e, by rw [← hgo], by rw [← hgo], by rw [← hgo]⟩
    have hgp : ∀ h : Heap, (h.push go).get? h.objs.size = some go := fun h => Heap.get?_push_size _ (by rw [← hgo]; rfl)
    have hgc : ∀ v, go.data ≠ .cell v := fun v e => by rw [← hgo] at e; cases e
    have hsz : h'.objs.size = s3.heap.objs.size + 1 := by rw [hs'.1, Heap.size_push]
    have keep' : ∀ b o, s3.heap.get? b = some o → h'.get? b = some o := fun b o e => hs'.extBut b o (Nat.ne_of_lt (Heap.lt_size e)) (Heap.get?_push_of_some _ e)
    have keepG : ∀ b o, s3.heap.get? b = some o → (h'.push go).get? b = some o := fun b o e => Heap.get?_push_of_some _ (keep' b o e)
    have st3' : tn 0 s3.heap := by rw [← hs3]; exact st3
    have nstk : ∀ b, s3.heap.objs.size ≤ b → b ∉ frs X.stack := fun b hb z => by
      rcases List.mem_cons.mp (I3.stkSub b z) with e | e
      · have := I3.lt
        rw [e] at hb
        exact Nat.lt_irrefl _ (Nat.lt_of_lt_of_le this hb)
      · exact I3.nofs hb e
    have fpl : ∀ b ∈ fp, b < s3.heap.objs.size := fun b hb => by
      obtain ⟨o, e, _⟩ := T.obj _ _ st3' b hb
      exact Heap.lt_size e
    have fpS : ∀ b ∈ fp, b ∉ frs X.stack := fun b hb z => by
      obtain ⟨_, g1, g2, _⟩ := f2 b hb
      rcases List.mem_cons.mp (I3.stkSub b z) with e | e
      · exact g1 e
      · exact g2 e
    have hH3 : ∀ b, s3.heap.objs.size ≤ b → H3 b = none := fun b hb => I3.hok.fresh hb
    refine call_function_tree F.kind_all F.plain_all F.entry_all (F.args_all1 _) ?_
    unfold Builtin.«all»
    refine wpAny_bind (m := oneArg "all" _) (wpAny_pure ?_)
    refine wpAny_bind (wpAny_pyIter_gen (g := s3.gens.size) (hgd _ _ (hgp h')) ?_)
    refine wpAny_pure ⟨plainId_quiet F.plain_all_loop _, ?_⟩
    have hroomk : Room k (X.A.in1.in1.deeper (genEnv scope clo s3.heap.objs.size code builtinsNs X.env)) :=
      ⟨hr.hd, by have := hr.dp; show X.A.depth + 1 + 3 * k + 5 < _; omega, by have := hr.un; show X.A.units + 1 + 1 + 3 + 16 * k + 200 < _; omega⟩
    have kin : ∀ {y : Str}, (scope.names.lookup y = some .cell ∨ scope.names.lookup y = some .free) → ∃ c, clo.lookup y = some c := fun {y} e => by
      rcases e with e | e
      · exact absurd rfl (S.cell _ (PySem.mem_of_lookup e))
      · obtain ⟨c, h1, _⟩ := look (PySem.mem_of_lookup e)
        exact ⟨c, h1⟩
    have IY : Inv (genCx X (genEnv scope clo s3.heap.objs.size code builtinsNs X.env) (X.A.in1.in1.deeper (genEnv scope clo s3.heap.objs.size code builtinsNs X.env)) (x :: ys) fp s3 H3 [(h'.objs.size, go)]) [] (none :: capt σ is) H3
        { s3 with gens := (s3.gens.push (.fresh (.compStart (.GeneratorExp elt [⟨.Name x px, iter, [], 0⟩] scope gpos) 0 (.ref it) .none (genEnv scope clo s3.heap.objs.size code builtinsNs X.env)))), toks := s3.toks + 1 + 1 + 1, heap := h'.push go } := by
      refine ⟨⟨I3.ok.mod, S.kind, I3.ok.glob, rfl, Nat.le_refl _, fun y z c' e e' => I3.ok.inj y z c' (cm e) (cm e'), fun y e => kin e, fun y c' e _ => (nomatch e), fun _ => hr.hd, Around.frames_deeper I3.ok.frames, .inr ⟨rfl, rfl⟩,
        fun b hb => ⟨Nat.ne_of_lt (fpl b hb), fun y c' e => (f2 b hb).2.2.2.2.1 y c' (cm e)⟩, I3.bs, Nat.le_trans I3.ok.bsz I3.sz, fun b o e hb => ?_, fpS, I3.stack, I3.stkFree⟩,
        rfl, I3.bare.push rfl, Un.kept keepG, ⟨_, hn'.keeps fun b o e => Heap.get?_push_of_some _ e, fun i y v e1 e2 _ => ?_⟩, fun y c' e => (I3.cell y c' (cm e)).elim fun v z => ⟨v, isCell_kept z keepG⟩, hH3 _ (Nat.le_refl _), fun y c' e => I3.freeC y c' (cm e), fun p hp => ?_, I3.hok.kept keepG, by show (capt σ is).length + 1 = ys.length + 1; rw [capt, List.length_map, hil]⟩
      · obtain ⟨_, _, _, g3, _⟩ := f2 b hb
        rcases g3 with g3 | g3
        · exact I2.ok.noex b o e g3
        · have h1 := Heap.lt_size e
          have h2 := I2.ok.bsz
          exact Nat.lt_irrefl _ (Nat.lt_of_lt_of_le h1 (Nat.le_trans h2 g3))
      · match i, e2 with
        | 0, e2 => cases e2
        | i + 1, e2 =>
          have e1 : ys[i]? = some y := e1
          have e2 : (capt σ is)[i]? = some (some v) := e2
          unfold capt at e2
          rw [List.getElem?_map] at e2
          cases hk : is[i]? with
          | none => rw [hk] at e2; cases e2
          | some k =>
            rw [hk] at e2
            have e2 : (σ[k]?).join = some v := Option.some.inj e2
            have e3 : σ[k]? = some (some v) := by
              cases hσ : σ[k]? with
              | none => rw [hσ] at e2; cases e2
              | some o => rw [hσ] at e2; exact congrArg some e2
            have hfr := PySem.mem_of_lookup (S.cap y (List.mem_of_getElem? e1))
            have hX := S.free _ hfr rfl
            obtain ⟨m, _, hl⟩ := I3.loc
            obtain ⟨u, ru, lk⟩ := hl k y v (hix i y k e1 hk) e3 (.inr hX)
            refine ⟨u, ru, ?_⟩
            obtain ⟨c, hc1, hc2⟩ := look hfr
            rcases lk with ⟨l1, _⟩ | ⟨_, c', hc', z⟩
            · have l1 : X.env.scope.names.lookup y = some .local := l1
              rcases hX with hX | hX
              · rw [hX] at l1; cases l1
              · rw [hX] at l1; cases l1
            · rw [hc2] at hc'
              cases hc'
              exact .inr ⟨.inr (S.cap y (List.mem_of_getElem? e1)), c, hc1, isCell_kept z keepG⟩
      · have hp2 : p ∈ ([(h'.objs.size, go)] ++ [] : List (Addr × Obj)) := hp
        have hp' : p = (h'.objs.size, go) := by simpa using hp2
        subst hp'
        exact ⟨hgp h', hH3 _ (by rw [hsz]; exact Nat.le_succ _), by show h'.objs.size ≠ s3.heap.objs.size; rw [hsz]; exact Nat.succ_ne_self _, nstk _ (by rw [hsz]; exact Nat.le_succ _), hgc⟩
    have hst : ∀ H' : Hp, (∀ b ∈ fp, H' b = none) → ∀ b ∈ fp, FpOk (genCx X (genEnv scope clo s3.heap.objs.size code builtinsNs X.env) (X.A.in1.in1.deeper (genEnv scope clo s3.heap.objs.size code builtinsNs X.env)) (x :: ys) fp s3 H3 [(h'.objs.size, go)]) [] H' b :=
      fun H' hf b hb => ⟨hf b hb, Nat.ne_of_lt (fpl b hb), fpS b hb, .inl hb, fun y c' e => (f2 b hb).2.2.2.2.1 y c' (cm e), fun p hp => by
        have hp2 : p ∈ ([(h'.objs.size, go)] ++ [] : List (Addr × Obj)) := hp
        have hp' : p = (h'.objs.size, go) := by simpa using hp2
        subst hp'
        show h'.objs.size ≠ b
        rw [hsz]
        exact Nat.ne_of_gt (Nat.lt_succ_of_lt (fpl b hb))⟩
    obtain ⟨m, w0⟩ := hW H3 hT
    refine loop_all (τ := capt σ is) (Q := Q) (go := go) (g := s3.gens.size) (A := X.A) (Y := genCx X (genEnv scope clo s3.heap.objs.size code builtinsNs X.env) (X.A.in1.in1.deeper (genEnv scope clo s3.heap.objs.size code builtinsNs X.env)) (x :: ys) fp s3 H3 [(h'.objs.size, go)])
      (by exact List.mem_singleton.mpr rfl) (fun h e => hgd h _ e) hr.hd hr.depth (fun b H' s' I' q' => ?_) (m + 1) _ (hgd _ _ (hgp h')) IY.nolimit ⟨_, Array.getElem?_push_size .., rfl, ?_⟩
    · refine ⟨.bl b, H', ?_, rfl, q'⟩
      refine I3.call' (ch := fp) I'.os I'.base I'.hok I'.bare fun b hb => ?_
      obtain ⟨_, g1, _, g3, g4, g5⟩ := f2 b hb
      exact ⟨g3, g1, g4, g5⟩
    · exact seg_all0 S rfl (hE _ _ _ _ _ _ _ _ hroomk) T hst turn (m + 1) _ _ ⟨m, H3, Nat.lt_succ_self m, inv_same IY rfl rfl (bare_set IY.bare rfl), T.keep _ _ _ st3' fun b _ o e => keepG b o e, fr3, w0⟩
  cases hf : codeAmong gpos ps.toList with
  | none =>
    refine wpAny_genexprCodeX hcode (cd.code hPs htr) (cd.tab hPs) hf fun c' h' tk hx hge hlt hco' _ htab' _ => ?_
    obtain ⟨o1, vs, f1, tf, fl, tg, inF, tx, tt, op, _, _, _, _, _, _, _, _, _, htr', _⟩ := hco'
    have J3 := inv_tab (h' := h') (g' := s2.gens) (d' := s2.drawn) (t' := tk) I2 hP (fun b u hb e => hx b u hb e) htab'.2 I2.bare
    exact thn (cont _ h' tk _ J3 ⟨⟨_, upd_same, htr'⟩, fun b hb => upd_ne hb⟩ (T.keep _ _ _ st2 fun b hb o e => hx b o (fpP b hb) e)) fun bi s4 h4 h'' a1 a2 => Calls.spliced_nil (h4 h'' a1 a2)
  | some cv =>
    refine wpAny_genexprCode_hit hcode (cd.code hPs htr) hf ?_
    exact thn (cont cv s2.heap s2.toks H2 I2 ⟨⟨ps, hP, htr⟩, fun _ _ => rfl⟩ st2) fun bi s4 h4 h'' a1 a2 => Calls.spliced_nil (h4 h'' a1 a2)
end
end Ln.GC


set_option Elab.async false
set_option linter.all false
set_option maxRecDepth 100000
set_option maxHeartbeats 4000000
namespace Ln
open PySem PySem.Spec PyProof.Rows L2 GxR
theorem scReqFin : FnScope ["start", "log", "lane"] ["start", "log", "lane"] (defScope sReqFin) := ⟨rfl, rfl, rfl, by decide +kernel, rfl, by decide +kernel, by decide +kernel⟩
theorem scHasRC : FnScope ["start", "log", "lane", "known"] ["start", "log", "lane"] (defScope sHasRC) := ⟨rfl, rfl, rfl, by decide +kernel, rfl, by decide +kernel, by decide +kernel⟩
theorem scHasBlk : FnScope ["start", "lane", "low", "high", "begin", "end"] ["start", "lane"] (defScope sHasBlk) := ⟨rfl, rfl, rfl, by decide +kernel, rfl, by decide +kernel, by decide +kernel⟩
theorem freeRC : ∀ y ∈ ([(".0", .local), ("car", .local), ("known", .free)] : List (Str × NameKind)), y.2 = .free → (defScope sHasRC).names.lookup y.1 = some .cell ∨ (defScope sHasRC).names.lookup y.1 = some .free := by decide +kernel
theorem plcs_take (xs S : List Str) (i : Nat) (c : Str) (h : xs[i]? = some c) : plcs S 0 (xs.take (i + 1)) = plcs S 0 (xs.take i) ++ if c ∈ S then [i] else [] := by
  rw [List.take_add_one, h, plcs_app]
  have hi := (List.getElem?_eq_some_iff.mp h).1
  rw [Nat.zero_add, List.length_take, Nat.min_eq_left (Nat.le_of_lt hi)]
  rfl
theorem plcs_len (S : List Str) : ∀ (xs : List Str) (i : Nat), (plcs S i xs).length ≤ xs.length
  | [], _ => Nat.le_refl _
  | c :: r, i => by
    have := plcs_len S r (i + 1)
    show (if c ∈ S then i :: plcs S (i + 1) r else plcs S (i + 1) r).length ≤ r.length + 1
    split
    · exact Nat.succ_le_succ this
    · exact Nat.le_succ_of_le this
theorem plcs_lt (S : List Str) : ∀ (xs : List Str) (i : Nat), ∀ p ∈ plcs S i xs, p < i + xs.length
  | [], _, p, h => by cases h
  | c :: r, i, p, h => by
    have ih := plcs_lt S r (i + 1)
    rw [List.length_cons]
    have h : p ∈ (if c ∈ S then i :: plcs S (i + 1) r else plcs S (i + 1) r) := h
    split at h
    · rcases List.mem_cons.mp h with e | h
      · omega
      · have := ih p h
        omega
    · have := ih p h
      omega
theorem brg_le (xs S : List Str) : (brg xs S).1 ≤ xs.length ∧ (brg xs S).2 ≤ xs.length := by
  have h := plcs_lt S xs 0
  unfold brg
  cases hp : plcs S 0 xs with
  | nil => exact ⟨Nat.zero_le _, Nat.zero_le _⟩
  | cons a r =>
    rw [hp] at h
    have h1 := h a List.mem_cons_self
    have h2 := h _ (List.getLast_mem (List.cons_ne_nil a r))
    exact ⟨by show a ≤ _; omega, by show (a :: r).getLast _ + 1 ≤ _; omega⟩
theorem eqv_strs : ∀ xs ys : List Str, PyData.eqv (.tuple (xs.map PyData.str)) (.tuple (ys.map PyData.str)) = decide (xs = ys) := by
  have key : ∀ xs ys : List Str, PyData.eqvAll (xs.map PyData.str) (ys.map PyData.str) = decide (xs = ys) := by
    intro xs
    induction xs with
    | nil =>
      intro ys
      cases ys with
      | nil => rfl
      | cons y r => rfl
    | cons x r ih =>
      intro ys
      cases ys with
      | nil => rfl
      | cons y q =>
        show ((x == y) && PyData.eqvAll (r.map PyData.str) (q.map PyData.str)) = _
        rw [ih q]
        by_cases h : x = y
        · subst h
          rw [beq_self_eq_true, Bool.true_and]
          exact decide_eq_decide.mpr ⟨fun e => by rw [e], fun e => (List.cons.inj e).2⟩
        · rw [beq_eq_false_iff_ne.mpr h, Bool.false_and]
          exact (decide_eq_false fun e => h (List.cons.inj e).1).symm
  exact key
theorem dp_str {K : PySem.W.Frag} {H : Hp} : ∀ xs : List Str, DpAll K H (xs.map V.str) (xs.map PyData.str)
  | [] => .nil
  | x :: r => .cons (.str x) (dp_str r)
theorem cutV_nat {xs : List V} {lo hi : Nat} (h1 : lo ≤ xs.length) (h2 : hi ≤ xs.length) : cutV xs (some ((lo : Nat) : Int)) (some ((hi : Nat) : Int)) = (xs.take hi).drop lo := by
  unfold cutV
  rw [HT.sIx_nat, HT.sIx_nat, Nat.min_eq_left h1, Nat.min_eq_left h2, List.drop_take]
section
variable {P : Program} {w : World} {K : PySem.W.Frag} {mg : Str → Option Value} {base : Heap} {Ps : List Addr}
def spBlockR (K : PySem.W.Frag) (Ps : List Addr) : Sp := fun vs H Q _ => ∃ (a f : Addr) (xs S : List Str), vs = [.ref a, .ref f] ∧ SqT K H a (xs.map V.str) ∧ SqT K H f (S.map V.str) ∧ xs.length ≤ 400 ∧ Tabs Ps H ∧
  ∀ H' p, Kp Ps H H' → H p = none → H' p = some (.tup [.int (brg xs S).1, .int (brg xs S).2]) → Q (.ref p) H'
theorem ok_blockR {f : Addr} {fd : FuncData} (F : Fun K "block_range" "block_range" sBlockR f fd) (B3 : Bn mg) : FnOk P w K mg base CX0 1 f fd ["start", "cars"] (spBlockR K Ps) := by
  refine F.ok scBlockR (fun vs H Q E h => ?_) (fun cdv A outer s H vs Q E hr h => ?_)
  · obtain ⟨a, f, xs, S, rfl, _⟩ := h
    rfl
  · obtain ⟨a, f, xs, S, rfl, hA, hF, few, hT, q⟩ := h
    refine ⟨_, pss_cons (ps_setLc (i := 2) (own := [("place", 3), ("car", 4)]) (g := gTup K 2 (gCons (gName 3) (gCons (gName 4) gNil))) (by rfl) scBlockR.nd rfl rfl (sw_true rfl rfl rfl (by decide +kernel)) (pi_enumA false (by rfl) B3.enm (pa_cons (pv 0) pa_nil))
          (blkOk_by (own := [("place", 3), ("car", 4)]) (N := ["start", "cars", "places", "place", "car"]) (sc := defScope sBlockR) (by decide +kernel))
          (fun _ _ _ _ _ => pg_tup rfl (pgs_cons (pg_name (i := 3) scBlockR.nd rfl (Or.inl rfl)) (pgs_cons (pg_name (i := 4) scBlockR.nd rfl (Or.inl rfl)) pgs_nil)))
          (fun _ _ _ _ _ => pts_one (pt_cmpR (r := rIn K false) op_in_seq (pv 4) (pv 1) (by rfl))) (fun _ _ _ _ _ => pv 3))
      (pss_one (ps_ret (pe_ifExp (pt_truth (pv 2) (by intro _; rfl)) (pe_tup (pa_cons (pe_ix ix_list (pv 2) pe_int (fun _ _ => rfl)) (pa_cons (pe_op op_add (pe_ix ix_list (pv 2) (pe_un un_neg pe_int) (fun _ _ => rfl)) pe_int) pa_nil)))
        (pe_tup (pa_cons pe_int (pa_cons pe_int pa_nil)))))), ?_⟩
    refine ⟨.ref a, rfl, a, xs.map V.str, rfl, hA, fun D hD => ?_⟩
    refine lc_it (walk_enumA (K := K) (b := false) (k0 := 0) (a := a) (xs := xs.map V.str)) (fun i H' => Kp Ps H H' ∧ H' D = some (.lst ((plcs S 0 (xs.take i)).map fun n => V.int (n : Nat)))) ?_ ?_ ?_ ?_
    · exact ⟨Kp.new hT hD, upd_same⟩
    · rintro i H' _ ⟨kp, _⟩
      exact kp.seqT hT hA
    · rintro i x H1 H2 hi ⟨kp, hD'⟩ ⟨T, y1, y2, rfl, hTn, rfl, e1, e2⟩
      obtain rfl := Option.some.inj e1
      have hlt : i < xs.length := by
        rw [List.length_map] at hi
        exact hi
      have hc : xs[i]? = some xs[i] := List.getElem?_eq_getElem hlt
      have e2 : (xs.map V.str)[i]? = some y2 := e2
      rw [List.getElem?_map, hc] at e2
      obtain rfl := Option.some.inj e2
      have hT0 : H T = none := kp.free hT hTn
      have kp1 : Kp Ps H (L2.upd H1 T (.tup [.int (0 + (i : Nat)), .str xs[i]])) := kp.upd hT hT0
      have nDT : D ≠ T := ne_of_none hD' hTn
      have hD1 : (L2.upd H1 T (.tup [.int (0 + (i : Nat)), .str xs[i]])) D = some (.lst ((plcs S 0 (xs.take i)).map fun n => V.int (n : Nat))) := by rw [upd_ne nDT]; exact hD'
      have hpt := plcs_take xs S i _ hc
      refine ⟨T, _, rfl, .inl (.inl upd_same), rfl, _, _, rfl, _, _, rfl, rfl, rfl, _, rfl, .ref f, rfl, f, _, rfl, .inr (kp1.seqT hT hF), rfl, flat_strs S, _, rfl, ?_⟩
      show if inV (.str xs[i]) (S.map V.str) = true then _ else _
      rw [inV_strs]
      by_cases hin : xs[i] ∈ S
      · rw [decide_eq_true hin]
        rw [if_pos hin] at hpt
        refine iteT ⟨_, rfl, _, hD1, ?_, kp1.upd hT hD, ?_⟩
        · rw [List.length_map]
          have := plcs_len S (xs.take i) 0
          rw [List.length_take] at this
          exact small1000 (by omega)
        · rw [upd_same, hpt, List.map_append]
          show _ = some (HO.lst (_ ++ [V.int ((i : Nat) : Int)]))
          rw [Int.zero_add]
      · rw [decide_eq_false hin]
        rw [if_neg hin, List.append_nil] at hpt
        refine iteF ⟨kp1, ?_⟩
        rw [hpt]
        exact hD1
    rintro H1 ⟨k1, hD1⟩
    rw [List.length_map, List.take_length] at hD1
    refine ⟨.ref D, rfl, _, .inl ⟨_, SqL.of hD1, rfl⟩, ?_⟩
    cases hp : plcs S 0 xs with
    | nil =>
      refine iteF ⟨by show 2 ≤ sizeLine; decide, fun p hpn => ?_⟩
      have hpp : H p = none := k1.free hT hpn
      refine q _ p (k1.upd hT hpp) hpp ?_
      rw [upd_same]
      unfold brg
      rw [hp]
      rfl
    | cons a0 r0 =>
      rw [hp] at hD1
      have hlast : atI ((a0 :: r0).map fun n => V.int (n : Nat)) (-1) = some (V.int ((a0 :: r0).getLast (List.cons_ne_nil a0 r0) : Nat)) := by
        have e : (a0 :: r0) = (a0 :: r0).dropLast ++ [(a0 :: r0).getLast (List.cons_ne_nil a0 r0)] := (List.dropLast_concat_getLast _).symm
        have e2 : ((a0 :: r0).map fun n => V.int (n : Nat)) = ((a0 :: r0).dropLast.map fun n => V.int (n : Nat)) ++ [V.int ((a0 :: r0).getLast (List.cons_ne_nil a0 r0) : Nat)] := by
          conv => lhs; rw [e]
          rw [List.map_append]
          rfl
        rw [e2]
        exact atI_last _ _
      refine iteT ⟨.ref D, rfl, D, _, 0, _, rfl, rfl, SqL.of hD1, atI_nat (j := 0) rfl, .ref D, rfl, 1, rfl, D, _, -1, _, rfl, rfl, SqL.of hD1, hlast, _, _, rfl, rfl, by show 2 ≤ sizeLine; decide, fun p hpn => ?_⟩
      have hpp : H p = none := k1.free hT hpn
      refine q _ p (k1.upd hT hpp) hpp ?_
      rw [upd_same]
      unfold brg
      rw [hp]
      rfl
def spReqFin (K : PySem.W.Frag) (Ps : List Addr) : Sp := fun vs H Q _ => ∃ (a l f : Addr) (xs : List Str) (as : List Addr) (es : List Ev) (F : List Str), vs = [.ref a, .ref l, .ref f] ∧ LaneAt K H a xs ∧ laneB xs = true ∧ LogAt K H l as es ∧ logB xs xs.length es = true ∧ LaneAt K H f F ∧ laneB F = true ∧ Tabs Ps H ∧ ∀ H', Kp Ps H H' → Q .non H'
theorem ok_reqFin {f fL fN : Addr} {fd fdL fdN : FuncData} (F : Fun K "require_final_lane" "require_final_lane" sReqFin f fd)
    (GL : FnOk P w K mg base CX0 7 fL fdL ["start", "log"] (spReqLog K Ps)) (mgL : mg "require_log" = some (.ref fL)) (kL : PySem.W.keepIn K (.ref fL) = true) (bL : Binds K fdL ["start", "log"] [])
    (GN : FnOk P w K mg base CX0 5 fN fdN ["value"] (spReqLane K Ps)) (mgN : mg "require_lane" = some (.ref fN)) (kN : PySem.W.keepIn K (.ref fN) = true) (bN : Binds K fdN ["value"] []) : FnOk P w K mg base CX0 8 f fd ["start", "log", "lane"] (spReqFin K Ps) := by
  refine F.ok scReqFin (fun vs H Q E h => ?_) (fun cdv A outer s H vs Q E hr h => ?_)
  · obtain ⟨a, l, f, xs, as, es, F, rfl, _⟩ := h
    rfl
  · obtain ⟨a, l, f, xs, as, es, F, rfl, hL, hB, hE, hB2, hF, hFB, hT, q⟩ := h
    refine ⟨_, pss_cons (ps_expr (pe_call GL hr (by rfl) mgL kL bL .nil pass0 (pa_cons (pv 0) (pa_cons (pv 1) pa_nil))))
      (pss_one (ps_expr (pe_call GN (hr.mono (by decide)) (by rfl) mgN kN bN .nil pass0 (pa_cons (pv 2) pa_nil)))), ?_⟩
    refine ⟨.ref a, rfl, .ref l, rfl, a, l, xs, as, es, rfl, hL, hB, hE, hB2, hT, fun H1 k1 => ?_⟩
    have hF1 := hF.kp k1 hT
    exact ⟨.ref f, rfl, f, F, rfl, hF1.at_, by have := hF1.few; omega, hF1.sz, hFB, k1.tab, fun H2 k2 => q H2 (k1.trans k2)⟩
theorem szs_last : ∀ (n : Int) (es : List Ev), ∃ r, szs n es = r ++ [endI n es]
  | n, [] => ⟨[], rfl⟩
  | n, .inn _ :: r => by
    obtain ⟨q, e⟩ := szs_last (n + 1) r
    exact ⟨n :: q, by show n :: szs (n + 1) r = _; rw [e]; rfl⟩
  | n, .out :: r => by
    obtain ⟨q, e⟩ := szs_last (n - 1) r
    exact ⟨n :: q, by show n :: szs (n - 1) r = _; rw [e]; rfl⟩
def spHasRC (K : PySem.W.Frag) (Ps : List Addr) : Sp := fun vs H Q _ => ∃ (a l f : Addr) (xs : List Str) (as : List Addr) (es : List Ev) (F : List Str), vs = [.ref a, .ref l, .ref f] ∧ LaneAt K H a xs ∧ laneB xs = true ∧ LogAt K H l as es ∧ logB xs xs.length es = true ∧ SqT K H f (F.map V.str) ∧ Tabs Ps H ∧ ∀ H', Kp Ps H H' → Q (.bl (carsOk xs es F)) H'
theorem ok_hasRC {f c P1 fZ fN : Addr} {fd fdZ fdN : FuncData} (F : FunC K "has_right_cars" "has_right_cars" sHasRC f fd c) (B : Bi mg) (TB : TabB base mg c P1) (hP : P1 ∈ Ps)
    (GN : FnOk P w K mg base CX0 8 fN fdN ["start", "log"] (spNumbers K Ps)) (mgN : mg "numbers" = some (.ref fN)) (kN : PySem.W.keepIn K (.ref fN) = true) (bN : Binds K fdN ["start", "log"] [])
    (GZ : FnOk P w K mg base CX0 8 fZ fdZ ["start", "log"] (spSizes K Ps)) (mgZ : mg "sizes" = some (.ref fZ)) (kZ : PySem.W.keepIn K (.ref fZ) = true) (bZ : Binds K fdZ ["start", "log"] []) : FnOk P w K mg base CX0 9 f fd ["start", "log", "lane"] (spHasRC K Ps) := by
  refine F.ok scHasRC (fun vs H Q E h => ?_) (fun A outer s H vs Q E hr h => ?_)
  · obtain ⟨a, l, f, xs, as, es, F, rfl, _⟩ := h
    rfl
  · obtain ⟨a, l, f, xs, as, es, F, rfl, hL, hB, hE, hB2, hF, hT, q⟩ := h
    refine ⟨_, pss_cons (ps_set (i := 3) scHasRC.nd rfl (.inr rfl) (pe_call GN hr (by rfl) mgN kN bN .nil pass0 (pa_cons (pv 0) (pa_cons (pv 1) pa_nil))))
      (pss_one (ps_ret (pe_and (pe_cmpR op_eq (pe_callB call_len_seq (by rfl) B.len PySem.boot_len (pa_cons (pv 2) pa_nil)) (pe_ix ix_list (pe_call GZ hr (by rfl) mgZ kZ bZ .nil pass0 (pa_cons (pv 0) (pa_cons (pv 1) pa_nil))) (pe_un un_neg pe_int) (fun _ _ => rfl)) (nomark _))
        (pe_one (GC.pe_allG (k := 7) (x := "car") (ys := ["known"]) [3] hr rfl (by rfl) B.all TB rfl ⟨rfl, rfl, by decide +kernel, freeRC, by decide +kernel, by decide +kernel, rfl, rfl⟩ (fun j y i h1 h2 => by
            match j, h1, h2 with
            | 0, h1, h2 =>
              obtain rfl := Option.some.inj h1
              obtain rfl := Option.some.inj h2
              rfl
            | j + 1, h1, h2 => simp at h1) rfl (pi_tup (pv 2))
          (fun _ _ _ _ _ _ _ _ hk => pe_cmpR (r := rIn K false) op_in_seq (pv 0) (pv 1) (by rfl))))))), ?_⟩
    refine ⟨.ref a, rfl, .ref l, rfl, a, l, xs, as, es, rfl, hL, hB, hE, hB2, hT, fun H1 u k1 hu hu1 => ?_⟩
    refine ⟨.ref f, rfl, f, _, rfl, .inr (k1.seqT hT hF), .ref a, rfl, .ref l, rfl, a, l, xs, as, es, rfl, hL.kp k1 hT, hB, hE.kp k1 hT, hB2, k1.tab, fun H2 z k2' hz hz2 => ?_⟩
    have k2 := k1.trans k2'
    obtain ⟨r0, hr0⟩ := szs_last xs.length es
    have hlastZ : atI ((szs xs.length es).map V.int) (-1) = some (V.int (endI xs.length es)) := by
      rw [hr0, List.map_append]
      exact atI_last _ _
    refine ⟨1, rfl, z, _, -1, _, rfl, rfl, SqL.of hz2, hlastZ, rfl, _, rfl, ?_⟩
    have e1 : decide (V.int (((F.map V.str).length : Nat) : Int) = V.int (endI xs.length es)) = decide ((F.length : Int) = endI xs.length es) := by
      rw [List.length_map]
      exact decide_eq_decide.mpr ⟨fun h => V.int.inj h, fun h => by rw [h]⟩
    rw [e1]
    by_cases hn : (F.length : Int) = endI xs.length es
    · rw [decide_eq_true hn]
      have hcar : carsOk xs es F = F.all fun c => decide (c ∈ xs ++ arrs es) := by
        unfold carsOk
        rw [decide_eq_true hn, Bool.true_and]
      have hu2 : H2 u = some (.lst ((xs ++ arrs es).map V.str)) := k2'.lst k1.tab hu1
      refine iteT ⟨.ref f, rfl, f, rfl, ⟨_, k2.seqT hT hF⟩, k2.tab P1 hP, fun i n H' => n = F.length - i ∧ Kp Ps H2 H' ∧ i ≤ F.length ∧ ∀ c ∈ F.take i, c ∈ xs ++ arrs es, fun H3 hH => ⟨F.length, by omega, Kp.tabbed k2.tab hP hH, Nat.zero_le _, fun c hc => by cases hc⟩, fun i n H' hW => ?_⟩
      obtain ⟨rfl, kp, hi, hall⟩ := hW
      have kpH := k2.trans kp
      have hS' := kpH.seqT hT hF
      by_cases hlt : i < F.length
      · have hx : (F.map V.str)[i]? = some (V.str F[i]) := by rw [List.getElem?_map, List.getElem?_eq_getElem hlt]; rfl
        refine .inr ⟨⟨_, _, hS', hx⟩, fun v H3 hy => ?_⟩
        obtain ⟨rfl, fv⟩ := hy
        obtain rfl : v = V.str F[i] := Option.some.inj ((fv _ hS').symm.trans hx)
        refine ⟨_, rfl, .ref u, rfl, u, _, rfl, .inl (SqL.of (kp.lst k2.tab hu2)), rfl, flat_strs _, _, rfl, ?_⟩
        show if (inV (.str F[i]) ((xs ++ arrs es).map V.str)) = true then _ else _
        rw [inV_strs]
        by_cases hin : F[i] ∈ xs ++ arrs es
        · rw [decide_eq_true hin]
          refine iteT ⟨_, by omega, rfl, kp, hlt, fun c hc => ?_⟩
          rw [List.take_add_one, List.getElem?_eq_getElem hlt] at hc
          rcases List.mem_append.mp hc with h | h
          · exact hall c h
          · rw [List.mem_singleton.mp h]
            exact hin
        · rw [decide_eq_false hin]
          refine iteF ?_
          have hf : carsOk xs es F = false := by
            rw [hcar]
            refine Bool.eq_false_iff.mpr fun z => hin ?_
            exact of_decide_eq_true (List.all_eq_true.mp z _ (List.getElem_mem hlt))
          have := q _ kpH
          rw [hf] at this
          exact this
      · refine .inl ⟨⟨_, hS', by rw [List.length_map]; omega⟩, ?_⟩
        have hf : carsOk xs es F = true := by
          rw [hcar]
          refine List.all_eq_true.mpr fun c hc => decide_eq_true (hall c ?_)
          rw [List.take_of_length_le (by omega)]
          exact hc
        have := q H' kpH
        rw [hf] at this
        exact this
    · rw [decide_eq_false hn]
      refine iteF ?_
      have hf : carsOk xs es F = false := by
        unfold carsOk
        rw [decide_eq_false hn]
        rfl
      have := q H2 k2
      rw [hf] at this
      exact this
end
end Ln


set_option Elab.async false
set_option linter.all false
set_option maxRecDepth 100000
set_option maxHeartbeats 4000000
namespace Ln
open PySem PySem.Spec PyProof.Rows L2 GxR
theorem scFirstPk : FnScope ["known", "lane", "order", "index", "car"] ["known", "lane"] (defScope sFirstPk) := ⟨rfl, rfl, rfl, by decide +kernel, rfl, by decide +kernel, by decide +kernel⟩
theorem isPk_none {o : List Nat} {i : Nat} (h : ∀ j, j < i → isPk o (1 + j) = false) (hi : i = o.length - 2) : fpk o = none := by
  unfold fpk
  rw [List.find?_eq_none]
  intro j hj
  rw [List.mem_range'_1] at hj
  have := h (j - 1) (by omega)
  rw [show 1 + (j - 1) = j by omega] at this
  simp [this]
theorem isPk_some {o : List Nat} {i : Nat} (h : ∀ j, j < i → isPk o (1 + j) = false) (hi : i < o.length - 2) (hp : isPk o (1 + i) = true) : fpk o = some (1 + i) := by
  unfold fpk
  rw [List.find?_range'_eq_some]
  refine ⟨hp, by rw [List.mem_range'_1]; omega, fun j h1 h2 => ?_⟩
  have := h (j - 1) (by omega)
  rw [show 1 + (j - 1) = j by omega] at this
  rw [this]
  rfl
section
variable {P : Program} {w : World} {K : PySem.W.Frag} {mg : Str → Option Value} {base : Heap} {Ps : List Addr}
def spHasBlk (K : PySem.W.Frag) (Ps : List Addr) : Sp := fun vs H Q _ => ∃ (a f : Addr) (xs F : List Str), vs = [.ref a, .ref f] ∧ SqT K H a (xs.map V.str) ∧ SqT K H f (F.map V.str) ∧ xs.length ≤ 400 ∧ F.length ≤ 400 ∧ (∀ x ∈ xs, carB x = true) ∧ (∀ x ∈ F, carB x = true) ∧ Tabs Ps H ∧
  ∀ H', Kp Ps H H' → Q (.bl (hasBlk xs F)) H'
theorem ok_hasBlk {f fB : Addr} {fd fdB : FuncData} (F : Fun K "has_block" "has_block" sHasBlk f fd)
    (GB : FnOk P w K mg base CX0 1 fB fdB ["start", "cars"] (spBlockR K Ps)) (mgB : mg "block_range" = some (.ref fB)) (kB : PySem.W.keepIn K (.ref fB) = true) (bB : Binds K fdB ["start", "cars"] []) : FnOk P w K mg base CX0 2 f fd ["start", "lane"] (spHasBlk K Ps) := by
  refine F.ok scHasBlk (fun vs H Q E h => ?_) (fun cdv A outer s H vs Q E hr h => ?_)
  · obtain ⟨a, f, xs, F, rfl, _⟩ := h
    rfl
  · obtain ⟨a, f, xs, F, rfl, hA, hF, few1, few2, hc1, hc2, hT, q⟩ := h
    have hu : A.units + 3 + 64 < cLine := hr.units
    refine ⟨_, pss_cons (ps_asg (pe_call GB hr (by rfl) mgB kB bB .nil pass0 (pa_cons (pv 0) (pa_cons (pv 1) pa_nil))) (pg_tup (by rfl) (pgs_cons (pg_name (i := 2) scHasBlk.nd rfl (.inl rfl)) (pgs_cons (pg_name (i := 3) scHasBlk.nd rfl (.inl rfl)) pgs_nil))))
      (pss_cons (ps_asg (pe_call GB hr (by rfl) mgB kB bB .nil pass0 (pa_cons (pv 1) (pa_cons (pv 0) pa_nil))) (pg_tup (by rfl) (pgs_cons (pg_name (i := 4) scHasBlk.nd rfl (.inl rfl)) (pgs_cons (pg_name (i := 5) scHasBlk.nd rfl (.inl rfl)) pgs_nil))))
      (pss_one (ps_ret (pe_cmpR (op_eqD hu) (pe_slice sl_tupA (pv 0) (po_some (pv 2)) (po_some (pv 3))) (pe_slice sl_tupA (pv 1) (po_some (pv 4)) (po_some (pv 5))) (nomark _))))), ?_⟩
    refine ⟨.ref a, rfl, .ref f, rfl, a, f, xs, F, rfl, hA, hF, few1, hT, fun H1 p1 k1 hp1 hp1' => ⟨p1, _, rfl, SqT.of hp1', rfl, _, _, rfl, _, _, rfl, rfl, ?_⟩⟩
    refine ⟨.ref f, rfl, .ref a, rfl, f, a, F, xs, rfl, k1.seqT hT hF, k1.seqT hT hA, few2, k1.tab, fun H2 p2 k2' hp2 hp2' => ⟨p2, _, rfl, SqT.of hp2', rfl, _, _, rfl, _, _, rfl, rfl, ?_⟩⟩
    have k2 := k1.trans k2'
    have b1 := brg_le xs F
    have b2 := brg_le F xs
    -- a slice of a tuple
    have sl : ∀ (H3 : Hp) (a : Addr) (xs : List Str) (p : Nat × Nat) (Q : VK), Kp Ps H H3 → SqT K H a (xs.map V.str) → p.1 ≤ xs.length → p.2 ≤ xs.length → (∀ H4 z, Kp Ps H H4 → SqT K H4 z ((cutN xs p).map V.str) → (∀ b ys, SqT K H3 b ys → SqT K H4 b ys) → Q (.ref z) H4) →
        rSlA K (.ref a) (some ((p.1 : Nat) : Int)) (some ((p.2 : Nat) : Int)) H3 Q := fun H3 a xs p Q k3 hA h1 h2 q => by
      have hA3 := k3.seqT hT hA
      have hcut : cutV (xs.map V.str) (some ((p.1 : Nat) : Int)) (some ((p.2 : Nat) : Int)) = (cutN xs p).map V.str := by
        rw [cutV_nat (by rw [List.length_map]; exact h1) (by rw [List.length_map]; exact h2)]
        unfold cutN
        rw [← List.map_take, ← List.map_drop]
      refine ⟨a, _, rfl, hA3, fun hw => ?_, fun _ z hz => ?_⟩
      · refine q H3 a k3 ?_ fun _ _ h => h
        rw [HT.sIx_nat, HT.sIx_nat, List.length_map, Nat.min_eq_left h1, Nat.min_eq_left h2] at hw
        have e : cutN xs p = xs := by
          unfold cutN
          rw [hw.1, hw.2, List.take_length]
          rfl
        rw [e]
        exact hA3
      · have hz0 : H z = none := k3.free hT hz
        rw [hcut]
        exact q _ z (k3.upd hT hz0) (SqT.of upd_same) fun b ys h => (Kp.upd (Kp.refl k3.tab) k3.tab hz).seqT k3.tab h
    refine ⟨.ref a, rfl, _, rfl, _, rfl, _, rfl, _, rfl, sl H2 a xs (brg xs F) _ k2 hA b1.1 b1.2 fun H3 z3 k3 hz3 _ => ?_⟩
    refine ⟨.ref f, rfl, _, rfl, _, rfl, _, rfl, _, rfl, sl H3 f F (brg F xs) _ k3 hF b2.1 b2.2 fun H4 z4 k4 hz4 keep => ?_⟩
    have m1 : ∀ x ∈ cutN xs (brg xs F), carB x = true := fun x hx => hc1 x (List.mem_of_mem_take (List.mem_of_mem_drop hx))
    have m2 : ∀ x ∈ cutN F (brg F xs), carB x = true := fun x hx => hc2 x (List.mem_of_mem_take (List.mem_of_mem_drop hx))
    refine ⟨.tuple ((cutN xs (brg xs F)).map PyData.str), .tuple ((cutN F (brg F xs)).map PyData.str), .tup (keep _ _ hz3) (dp_str _), .tup hz4 (dp_str _), shapedT _ m1, shapedT _ m2, ?_⟩
    rw [eqv_strs]
    exact q H4 k4
def spFirstPk (K : PySem.W.Frag) (Ps : List Addr) : Sp := fun vs H Q _ => ∃ (k f : Addr) (kn F : List Str), vs = [.ref k, .ref f] ∧ SqL K H k (kn.map V.str) ∧ SqT K H f (F.map V.str) ∧ F.length ≤ 400 ∧ (∀ c ∈ F, c ∈ kn) ∧ Tabs Ps H ∧
  ∀ H', Kp Ps H H' → Q (match fpk (F.map fun c => kn.idxOf c) with | none => .non | some i => .int (i : Nat)) H'
theorem ok_firstPk {f : Addr} {fd : FuncData} (F : Fun K "first_peak" "first_peak" sFirstPk f fd) (B : Bi mg) (B3 : Bn mg) : FnOk P w K mg base CX0 1 f fd ["known", "lane"] (spFirstPk K Ps) := by
  refine F.ok scFirstPk (fun vs H Q E h => ?_) (fun cdv A outer s H vs Q E hr h => ?_)
  · obtain ⟨k, f, kn, F, rfl, _⟩ := h
    rfl
  · obtain ⟨k, f, kn, F, rfl, hN, hF, few, hall, hT, q⟩ := h
    refine ⟨_, pss_cons (ps_setLc (i := 2) (own := [("car", 4)]) (g := gName 4) (tt := tYes) (te := tBM K "list" (rIndex K) (tVar 0) (tCons (tVar 4) tNil)) (by rfl) scFirstPk.nd rfl rfl (sw_true rfl rfl rfl (by decide +kernel)) (pi_tup (pv 1))
          (blkOk_by (own := [("car", 4)]) (N := ["known", "lane", "order", "index", "car"]) (sc := defScope sFirstPk) (by decide +kernel))
          (fun _ _ _ _ _ => pg_name (i := 4) scFirstPk.nd rfl (Or.inl rfl))
          (fun _ _ _ _ _ => pts_nil) (fun _ _ _ _ _ => pe_bm PySem.F.plainAttrs_list PySem.F.slot_list_index PySem.F.type_list_index mt_index (pv 0) (pa_cons (pv 4) pa_nil)))
      (pss_cons (ps_for PassesOwn.never rfl (pi_range2 (by rfl) B3.rng (pa_cons pe_int (pa_cons (pe_op op_sub (pe_callB call_len_seq (by rfl) B.len PySem.boot_len (pa_cons (pv 2) pa_nil)) pe_int) pa_nil))) (pg_name (i := 3) scFirstPk.nd rfl (.inl rfl))
        (pss_one (ps_if (pt_chain op_lt op_gt (pe_ix ix_list (pv 2) (pe_op op_sub (pv 3) pe_int) (fun _ _ => rfl)) (pe_ix ix_list (pv 2) (pv 3) (fun _ _ => rfl)) (pe_ix ix_list (pv 2) (pe_op op_add (pv 3) pe_int) (fun _ _ => rfl))) (pss_one (ps_ret (pv 3))) pss_nil)))
      (pss_one (ps_ret pe_non))), ?_⟩
    refine ⟨.ref f, rfl, f, rfl, ⟨_, hF⟩, fun D hD => ?_⟩
    refine lc_tup (K := K) (a := f) (xs := F.map V.str) (fun i H' => Kp Ps H H' ∧ H' D = some (.lst ((F.take i).map fun c => V.int (kn.idxOf c : Nat)))) ?_ ?_ ?_ ?_
    · exact ⟨Kp.new hT hD, upd_same⟩
    · rintro i H' _ ⟨kp, _⟩
      exact kp.seqT hT hF
    · rintro i y H' hi ⟨kp, hD'⟩
      have hlt : i < F.length := by
        have h1 := (List.getElem?_eq_some_iff.mp hi).1
        rw [List.length_map] at h1
        omega
      have hc : F[i]? = some F[i] := List.getElem?_eq_getElem hlt
      rw [List.getElem?_map, hc] at hi
      obtain rfl := Option.some.inj hi
      have hin := hall _ (List.getElem_mem hlt)
      have hix : kn.idxOf F[i] < kn.length := List.idxOf_lt_length_of_mem hin
      refine ⟨rfl, .ref k, rfl, .inl ⟨rfl, _, kp.seqL hT hN⟩, _, rfl, k, kn.map V.str, .str F[i], kn.idxOf F[i], .str F[i], rfl, rfl, kp.seqL hT hN, rfl, flat_strs kn, ?_, ?_, fun m z' hm hz => ?_, ?_⟩
      · rw [List.getElem?_map, List.getElem?_eq_getElem hix, List.getElem_idxOf]
        rfl
      · show (F[i] == F[i]) = true
        exact beq_self_eq_true _
      · rw [List.getElem?_map] at hz
        have hml : m < kn.length := by omega
        rw [List.getElem?_eq_getElem hml] at hz
        obtain rfl := Option.some.inj hz
        show (kn[m] == F[i]) = false
        have := List.not_of_lt_findIdx (p := (· == F[i])) hm
        simpa using this
      · refine ⟨_, hD', ?_, kp.upd hT hD, ?_⟩
        · rw [List.length_map, List.length_take]
          exact small1000 (by omega)
        · rw [upd_same, List.take_add_one, hc, List.map_append]
          rfl
    rintro H1 ⟨k1, hD1⟩
    rw [List.length_map, List.take_length] at hD1
    generalize hO : (F.map fun c => kn.idxOf c) = O at q
    have hOl : O.length = F.length := by rw [← hO, List.length_map]
    have hD2 : H1 D = some (.lst (O.map fun n => V.int (n : Nat))) := by
      rw [hD1, ← hO, List.map_map]
      rfl
    have hS2 : SqL K H1 D (O.map fun n => V.int (n : Nat)) := SqL.of hD2
    have hn : ((((O.map fun n => V.int (n : Nat)).length : Nat) : Int) - 1 - 1).toNat = O.length - 2 := by rw [List.length_map]; omega
    refine ⟨.ref D, rfl, D, _, rfl, .inl hS2, _, _, rfl, rfl, 1, _, rfl, ⟨by decide, by decide, by rw [List.length_map]; omega, by rw [List.length_map]; omega⟩, ?_⟩
    rw [hn]
    have at_ : ∀ (z : Int) (j : Nat), z = (j : Nat) → j < O.length → atI (O.map fun n => V.int (n : Nat)) z = some (V.int (O.getD j 0 : Nat)) := fun z j e hj => by
      rw [e]
      refine atI_nat ?_
      rw [List.getElem?_map, List.getElem?_eq_getElem hj, List.getD_eq_getElem?_getD, List.getElem?_eq_getElem hj]
      rfl
    refine for_range (lo := 1) (n := O.length - 2) (fun i σ H' => ∃ v3 : Option V, σ = [some (.ref k), some (.ref f), some (.ref D), v3, none] ∧ H' = H1 ∧ ∀ j, j < i → isPk O (1 + j) = false) ?_ ?_ ?_
    · exact ⟨none, rfl, rfl, fun j hj => absurd hj (Nat.not_lt_zero j)⟩
    · rintro i σ H' hi ⟨v3, rfl, rfl, hno⟩
      have eP : isPk O (1 + i) = (decide (((O.getD i 0 : Nat) : Int) < ((O.getD (1 + i) 0 : Nat) : Int)) && decide (((O.getD (2 + i) 0 : Nat) : Int) < ((O.getD (1 + i) 0 : Nat) : Int))) := by
        unfold isPk
        rw [show 1 + i - 1 = i by omega, show 1 + i + 1 = 2 + i by omega]
        congr 1
        · exact decide_eq_decide.mpr (by omega)
        · exact decide_eq_decide.mpr (by omega)
      have next : isPk O (1 + i) = false → ∃ v3' : Option V, [some (V.ref k), some (.ref f), some (.ref D), some (.int (1 + (i : Nat))), none] = [some (V.ref k), some (.ref f), some (.ref D), v3', none] ∧ H' = H' ∧ ∀ j, j < i + 1 → isPk O (1 + j) = false := fun hp => ⟨_, rfl, rfl, fun j hj => by
        by_cases e : j = i
        · rw [e]
          exact hp
        · exact hno j (by omega)⟩
      refine ⟨.ref D, rfl, _, rfl, _, _, rfl, rfl, D, _, _, _, rfl, rfl, hS2, at_ _ i (by omega) (by omega), .ref D, rfl, _, rfl, D, _, _, _, rfl, rfl, hS2, at_ _ (1 + i) (by omega) (by omega), _, _, rfl, rfl, _, rfl, ?_⟩
      refine ite2 (fun h1 => ?_) (fun h1 => ?_)
      · refine ⟨.ref D, rfl, _, rfl, _, _, rfl, rfl, D, _, _, _, rfl, rfl, hS2, at_ _ (2 + i) (by omega) (by omega), _, _, rfl, rfl, _, rfl, ite2 (fun h2 => ?_) (fun h2 => ?_)⟩
        · have hp : isPk O (1 + i) = true := by
            rw [eP, Bool.and_eq_true]
            exact ⟨h1, h2⟩
          have := q _ k1
          rw [isPk_some hno (by omega) hp] at this
          exact ⟨_, rfl, this⟩
        · refine next ?_
          rw [eP, h1, Bool.true_and]
          exact Bool.eq_false_iff.mpr h2
      · refine ⟨_, rfl, iteF (next ?_)⟩
        rw [eP, Bool.eq_false_iff.mpr h1, Bool.false_and]
    · rintro σ H' ⟨v3, rfl, rfl, hno⟩
      have := q _ k1
      rw [isPk_none hno rfl] at this
      exact this
end
end Ln


set_option Elab.async false
set_option linter.all false
set_option maxRecDepth 100000
set_option maxHeartbeats 4000000
namespace Ln
open PySem PySem.Spec PyProof.Rows L2 GxR
theorem scArrSt : FnScope ["start", "log", "lane", "low", "high", "found", "moment", "event", "place"] ["start", "log", "lane"] (defScope sArrSt) := ⟨rfl, rfl, rfl, by decide +kernel, rfl, by decide +kernel, by decide +kernel⟩
/-- the side of a stayer -/
def sdV : Option Bool → V
  | none => .non
  | some true => .str "L"
  | some false => .str "R"
def stV (r : Str × Nat × Option Bool) : List V := [.str r.1, .int (r.2.1 : Nat), sdV r.2.2]
def StsT (H : Hp) (ts : List Addr) (rs : List (Str × Nat × Option Bool)) : Prop := Paired (fun t r => H t = some (.tup (stV r))) ts rs
theorem StsT.kt {H H' : Hp} {ts : List Addr} {rs : List (Str × Nat × Option Bool)} (h : StsT H ts rs) (k : KT H H') : StsT H' ts rs := Paired.imp h fun t r q => k t _ q
theorem StsT.kp {Ps : List Addr} {H H1 : Hp} {ts : List Addr} {rs : List (Str × Nat × Option Bool)} (h : StsT H ts rs) (k : Kp Ps H H1) (hT : Tabs Ps H) : StsT H1 ts rs := Paired.imp h fun t r q => k.tup hT q
/-- what stands in low and high -/
def LoR : Option Nat → Int → Int → Prop
  | none, _, h => h = 0
  | some l, lo, h => lo = l ∧ h ≠ 0
theorem first_at {F : List Str} {c : Str} (h : c ∈ F) : F[F.idxOf c]? = some c ∧ ∀ m, m < F.idxOf c → F[m]? ≠ some c := by
  have hl : F.idxOf c < F.length := List.idxOf_lt_length_of_mem h
  refine ⟨by rw [List.getElem?_eq_getElem hl, List.getElem_idxOf], fun m hm z => ?_⟩
  have hml : m < F.length := by omega
  rw [List.getElem?_eq_getElem hml] at z
  have := List.not_of_lt_findIdx (p := (· == c)) hm
  rw [Option.some.inj z] at this
  simp at this
section
variable {P : Program} {w : World} {K : PySem.W.Frag} {mg : Str → Option Value} {base : Heap} {Ps : List Addr}
def spArrSt (K : PySem.W.Frag) (Ps : List Addr) : Sp := fun vs H Q _ => ∃ (a l f : Addr) (xs : List Str) (as : List Addr) (es : List Ev) (F : List Str), vs = [.ref a, .ref l, .ref f] ∧ SqT K H a (xs.map V.str) ∧ LogAt K H l as es ∧ TupD H f (F.map V.str) ∧ F.length ≤ 400 ∧ Tabs Ps H ∧
  ∀ H' p ts, Kp Ps H H' → H p = none → H' p = some (.lst (ts.map V.ref)) → StsT H' ts (arrSt F (lo0 (brg F xs)) 1 es) → Q (.ref p) H'
theorem ok_arrSt {f fB : Addr} {fd fdB : FuncData} (F : Fun K "arriving_stayers" "arriving_stayers" sArrSt f fd) (B3 : Bn mg)
    (GB : FnOk P w K mg base CX0 1 fB fdB ["start", "cars"] (spBlockR K Ps)) (mgB : mg "block_range" = some (.ref fB)) (kB : PySem.W.keepIn K (.ref fB) = true) (bB : Binds K fdB ["start", "cars"] []) : FnOk P w K mg base CX0 2 f fd ["start", "log", "lane"] (spArrSt K Ps) := by
  refine F.ok scArrSt (fun vs H Q E h => ?_) (fun cdv A outer s H vs Q E hr h => ?_)
  · obtain ⟨a, l, f, xs, as, es, F, rfl, _⟩ := h
    rfl
  · obtain ⟨a, l, f, xs, as, es, F, rfl, hA, hE, hF, few, hT, q⟩ := h
    refine ⟨_, pss_cons (ps_asg (pe_call GB hr (by rfl) mgB kB bB .nil pass0 (pa_cons (pv 2) (pa_cons (pv 0) pa_nil))) (pg_tup (by rfl) (pgs_cons (pg_name (i := 3) scArrSt.nd rfl (.inl rfl)) (pgs_cons (pg_name (i := 4) scArrSt.nd rfl (.inl rfl)) pgs_nil))))
      (pss_cons (ps_set (i := 5) scArrSt.nd rfl (.inl rfl) (pe_lst pa_nil))
      (pss_cons (ps_for PassesOwn.never rfl (pi_enumF true 1 (by decide) (by decide) (by rfl) B3.enm (pa_cons (pv 1) (pa_cons pe_int pa_nil))) (pg_tup rfl (pgs_cons (pg_name (i := 6) scArrSt.nd rfl (.inl rfl)) (pgs_cons (pg_name (i := 7) scArrSt.nd rfl (.inl rfl)) pgs_nil)))
        (pss_cons (ps_if (PW.pt (pw_or (pt_cmpR op_eq (pe_ix ix_tup (pv 7) pe_int (fun _ _ => rfl)) pe_str (nomark _)) (pw_or1 (pt_cmpR op_notIn_seq (pe_ix ix_tup (pv 7) pe_int (fun _ _ => rfl)) (pv 2) (by rfl))))) (pss_one ps_continue) pss_nil)
        (pss_cons (ps_set (i := 8) scArrSt.nd rfl (.inl rfl) (pe_bmT PySem.F.plainAttrs_tuple PySem.F.slot_tuple_index PySem.F.type_tuple_index mt_tup_index (pv 2) (pa_cons (pe_ix ix_tup (pv 7) pe_int (fun _ _ => rfl)) pa_nil)))
        (pss_one (ps_if (pt_cmpR op_eq (pv 4) pe_int (nomark _))
          (pss_cons (ps_par (i := 3) (j := 4) (by rfl) scArrSt.nd rfl rfl (by decide) rfl rfl (pa_cons (pv 8) (pa_cons (pe_op op_add (pv 8) pe_int) pa_nil)) (by rfl))
            (pss_one (ps_expr (pe_bm PySem.F.plainAttrs_list PySem.F.slot_list_append PySem.F.type_list_append mt_append (pv 5) (pa_cons (pe_tup (pa_cons (pe_ix ix_tup (pv 7) pe_int (fun _ _ => rfl)) (pa_cons (pv 6) (pa_cons pe_non pa_nil)))) pa_nil)))))
          (pss_one (ps_expr (pe_bm PySem.F.plainAttrs_list PySem.F.slot_list_append PySem.F.type_list_append mt_append (pv 5) (pa_cons (pe_tup (pa_cons (pe_ix ix_tup (pv 7) pe_int (fun _ _ => rfl)) (pa_cons (pv 6) (pa_cons (pe_ifExp (pt_cmpR op_lt (pv 8) (pv 3) (nomark _)) pe_str pe_str) pa_nil)))) pa_nil)))))))))
      (pss_one (ps_ret (pv 5))))), ?_⟩
    refine ⟨.ref f, rfl, .ref a, rfl, f, a, F, xs, rfl, hF.sq, hA, few, hT, fun H1 p1 k1 hp1 hp1' => ⟨p1, _, rfl, SqT.of hp1', rfl, _, _, rfl, _, _, rfl, rfl, ?_⟩⟩
    refine ⟨Nat.zero_le _, fun o ho => ?_⟩
    have ho0 : H o = none := k1.free hT ho
    have k2 : Kp Ps H (L2.upd H1 o (.lst [])) := k1.upd hT ho0
    have hlen := Paired.length hE.evs
    have few2 := hE.few
    refine ⟨.ref l, rfl, l, as.map V.ref, rfl, (hE.kp k2 hT).at_, for_it (walk_enumA (K := K) (b := true) (k0 := 1) (a := l) (xs := as.map V.ref)) (fun i σ H' => ∃ (v6 v7 v8 : Option V) (lI hI : Int) (ts : List Addr) (acc : List (Str × Nat × Option Bool)) (lo : Option Nat),
      σ = [some (.ref a), some (.ref l), some (.ref f), some (.int lI), some (.int hI), some (.ref o), v6, v7, v8] ∧ Kp Ps H H' ∧ i ≤ es.length ∧ H' o = some (.lst (ts.map V.ref)) ∧ StsT H' ts acc ∧ arrSt F (lo0 (brg F xs)) 1 es = acc ++ arrSt F lo (i + 1) (es.drop i) ∧ acc.length ≤ i ∧ LoR lo lI hI) ?_ ?_ ?_ ?_⟩
    · refine ⟨none, none, none, _, _, [], [], lo0 (brg F xs), rfl, k2, Nat.zero_le _, upd_same, .nil, rfl, Nat.le_refl _, ?_⟩
      unfold lo0
      by_cases h : (brg F xs).2 = 0
      · rw [if_pos h]
        show (((brg F xs).2 : Nat) : Int) = 0
        omega
      · rw [if_neg h]
        exact ⟨rfl, by omega⟩
    · rintro i σ H' _ ⟨_, _, _, _, _, _, _, _, _, kp, _⟩
      exact (hE.kp kp hT).at_
    · rintro i x σ H1' H2' hi ⟨v6, v7, v8, lI, hI, ts, acc, lo, rfl, kp, hie, ho', hst, heq, hac, hlo⟩ ⟨T, y1, y2, rfl, hTn, rfl, e1, e2⟩
      obtain rfl := Option.some.inj e1
      have hlt : i < es.length := by
        rw [List.length_map] at hi
        omega
      have hev : es[i]? = some es[i] := List.getElem?_eq_getElem hlt
      have hT0 : H T = none := kp.free hT hTn
      have kp1 : Kp Ps H (L2.upd H1' T (.tup [.int (1 + (i : Nat)), y2])) := kp.upd hT hT0
      have noT : o ≠ T := ne_of_none ho' hTn
      have ho1 : (L2.upd H1' T (.tup [.int (1 + (i : Nat)), y2])) o = some (.lst (ts.map V.ref)) := by rw [upd_ne noT]; exact ho'
      have hst1 : StsT (L2.upd H1' T (.tup [.int (1 + (i : Nat)), y2])) ts acc := hst.kt (KT.upd fun xs e => by rw [hTn] at e; cases e)
      obtain ⟨b, hb, hbt⟩ := pair_at (hE.kp kp1 hT).evs i _ hev
      have hy : y2 = .ref b := by
        have e2 : (as.map V.ref)[i]? = some y2 := e2
        rw [List.getElem?_map, hb] at e2
        exact (Option.some.inj e2).symm
      subst hy
      have hdrop : es.drop i = es[i] :: es.drop (i + 1) := List.drop_eq_getElem_cons hlt
      rw [hdrop] at heq
      refine ⟨T, _, rfl, .inl (.inl upd_same), rfl, _, _, rfl, _, _, rfl, rfl, ?_⟩
      generalize L2.upd H1' T (.tup [.int (1 + (i : Nat)), .ref b]) = Ha at kp1 ho1 hst1 hbt ⊢
      cases hE2 : es[i] with
      | out =>
        rw [hE2] at hbt heq
        refine ⟨.ref b, rfl, b, _, 0, .str "out", rfl, rfl, hbt, atI_nat (j := 0) rfl, rfl, _, rfl, ?_⟩
        rw [decide_eq_true (rfl : V.str "out" = V.str "out")]
        refine iteT (iteT ?_)
        exact ⟨_, _, _, lI, hI, ts, acc, lo, rfl, kp1, hlt, ho1, hst1, heq, by omega, hlo⟩
      | inn c =>
        rw [hE2] at hbt heq
        refine ⟨.ref b, rfl, b, _, 0, .str "in", rfl, rfl, hbt, atI_nat (j := 0) rfl, rfl, _, rfl, ?_⟩
        rw [decide_eq_false (fun z => ne_io (V.str.inj z))]
        refine iteF ⟨.ref b, rfl, b, _, 1, .str c, rfl, rfl, hbt, atI_nat (j := 1) rfl, .ref f, rfl, f, _, rfl, .inr (hF.kp kp1 hT).sq, rfl, flat_strs F, _, rfl, ?_⟩
        show if (!inV (.str c) (F.map V.str)) = true then _ else _
        rw [inV_strs]
        by_cases hin : c ∈ F
        · rw [decide_eq_true hin]
          obtain ⟨hix, hno⟩ := first_at hin
          refine iteF ?_
          refine ⟨.ref f, rfl, ⟨f, _, rfl, hF.kp kp1 hT⟩, .ref b, rfl, b, _, 1, .str c, rfl, rfl, hbt, atI_nat (j := 1) rfl, f, F, c, F.idxOf c, rfl, rfl, (hF.kp kp1 hT).sq, hix, hno, ?_⟩
          have room : (ts.map V.ref).length < sizeLine := by
            rw [List.length_map, Paired.length hst1]
            exact small1000 (by omega)
          have em : (1 : Int) + (i : Nat) = ((i + 1 : Nat) : Int) := by omega
          cases lo with
          | none =>
            have hI0 : hI = 0 := hlo
            subst hI0
            have heq : arrSt F (lo0 (brg F xs)) 1 es = acc ++ (if c ∈ F then (c, i + 1, none) :: arrSt F (some (F.idxOf c)) (i + 1 + 1) (es.drop (i + 1)) else _) := heq
            rw [if_pos hin] at heq
            refine ⟨_, rfl, rfl, _, rfl, iteT ?_⟩
            refine ⟨_, rfl, _, rfl, _, _, rfl, rfl, _, _, rfl, ?_⟩
            refine ⟨.ref o, rfl, .inl ⟨rfl, _, SqL.of ho1⟩, .ref b, rfl, b, _, 1, .str c, rfl, rfl, hbt, atI_nat (j := 1) rfl, _, rfl, by show 3 ≤ sizeLine; decide, fun t ht => ?_⟩
            have ht0 : H t = none := kp1.free hT ht
            have not_ : o ≠ t := ne_of_none ho1 ht
            refine ⟨o, _, _, rfl, rfl, by rw [upd_ne not_]; exact ho1, room, ?_⟩
            refine ⟨_, _, _, _, _, ts ++ [t], acc ++ [(c, i + 1, none)], some (F.idxOf c), rfl, (kp1.upd hT ht0).upd hT ho0, hlt, ?_, ?_, ?_, ?_, rfl, ?_⟩
            · rw [upd_same, List.map_append]
              rfl
            · refine Paired.snoc ((hst1.kt (KT.upd fun xs e => by rw [ht] at e; cases e)).kt (KT.upd fun xs e => by rw [upd_ne not_, ho1] at e; cases e)) ?_
              show (L2.upd _ _ _) t = _
              rw [upd_ne not_.symm, upd_same, em]
              rfl
            · rw [heq, List.append_assoc]
              rfl
            · rw [List.length_append]
              show acc.length + 1 ≤ _
              omega
            · omega
          | some lw =>
            obtain ⟨rfl, hI0⟩ := hlo
            have heq : arrSt F (lo0 (brg F xs)) 1 es = acc ++ (if c ∈ F then (c, i + 1, some (decide (F.idxOf c < lw))) :: arrSt F (some lw) (i + 1 + 1) (es.drop (i + 1)) else _) := heq
            rw [if_pos hin] at heq
            refine ⟨_, rfl, rfl, _, rfl, ?_⟩
            rw [decide_eq_false (fun z => hI0 (V.int.inj z))]
            refine iteF ?_
            have fin : ∀ (Hb : Hp) (t : Addr), Ha t = none → Hb = L2.upd Ha t (.tup [.str c, .int (1 + (i : Nat)), sdV (some (decide (F.idxOf c < lw)))]) → ∀ v6 v7 v8 : Option V, ∃ (v6' v7' v8' : Option V) (lI' hI' : Int) (ts' : List Addr) (acc' : List (Str × Nat × Option Bool)) (lo' : Option Nat),
                [some (V.ref a), some (.ref l), some (.ref f), some (.int lw), some (.int hI), some (.ref o), v6, v7, v8] = [some (V.ref a), some (.ref l), some (.ref f), some (.int lI'), some (.int hI'), some (.ref o), v6', v7', v8'] ∧ Kp Ps H (L2.upd Hb o (.lst (ts.map V.ref ++ [V.ref t]))) ∧ i + 1 ≤ es.length ∧ (L2.upd Hb o (.lst (ts.map V.ref ++ [V.ref t]))) o = some (.lst (ts'.map V.ref)) ∧ StsT (L2.upd Hb o (.lst (ts.map V.ref ++ [V.ref t]))) ts' acc' ∧ arrSt F (lo0 (brg F xs)) 1 es = acc' ++ arrSt F lo' (i + 1 + 1) (es.drop (i + 1)) ∧ acc'.length ≤ i + 1 ∧ LoR lo' lI' hI' := fun Hb t ht e v6 v7 v8 => by
              subst e
              have ht0 : H t = none := kp1.free hT ht
              have not_ : o ≠ t := ne_of_none ho1 ht
              refine ⟨v6, v7, v8, _, _, ts ++ [t], acc ++ [(c, i + 1, some (decide (F.idxOf c < lw)))], some lw, rfl, (kp1.upd hT ht0).upd hT ho0, hlt, ?_, ?_, ?_, ?_, rfl, hI0⟩
              · rw [upd_same, List.map_append]
                rfl
              · refine Paired.snoc ((hst1.kt (KT.upd fun xs e => by rw [ht] at e; cases e)).kt (KT.upd fun xs e => by rw [upd_ne not_, ho1] at e; cases e)) ?_
                show (L2.upd _ _ _) t = _
                rw [upd_ne not_.symm, upd_same, em]
                rfl
              · rw [heq, List.append_assoc]
                rfl
              · rw [List.length_append]
                show acc.length + 1 ≤ _
                omega
            refine ⟨.ref o, rfl, .inl ⟨rfl, _, SqL.of ho1⟩, .ref b, rfl, b, _, 1, .str c, rfl, rfl, hbt, atI_nat (j := 1) rfl, _, rfl, _, rfl, _, rfl, _, _, rfl, rfl, _, rfl, ?_⟩
            by_cases hl : F.idxOf c < lw
            · rw [decide_eq_true (show ((F.idxOf c : Nat) : Int) < (lw : Nat) by omega)]
              refine iteT ⟨by show 3 ≤ sizeLine; decide, fun t ht => ?_⟩
              have not_ : o ≠ t := ne_of_none ho1 ht
              refine ⟨o, _, _, rfl, rfl, by rw [upd_ne not_]; exact ho1, room, ?_⟩
              exact fin _ t ht (by rw [decide_eq_true hl]; rfl) _ _ _
            · rw [decide_eq_false (show ¬ ((F.idxOf c : Nat) : Int) < (lw : Nat) by omega)]
              refine iteF ⟨by show 3 ≤ sizeLine; decide, fun t ht => ?_⟩
              have not_ : o ≠ t := ne_of_none ho1 ht
              refine ⟨o, _, _, rfl, rfl, by rw [upd_ne not_]; exact ho1, room, ?_⟩
              exact fin _ t ht (by rw [decide_eq_false hl]; rfl) _ _ _
        · rw [decide_eq_false hin]
          have heq : arrSt F (lo0 (brg F xs)) 1 es = acc ++ (if c ∈ F then _ else arrSt F lo (i + 1 + 1) (es.drop (i + 1))) := heq
          rw [if_neg hin] at heq
          refine iteT ?_
          exact ⟨_, _, _, lI, hI, ts, acc, lo, rfl, kp1, hlt, ho1, hst1, heq, by omega, hlo⟩
    · rintro σ H' ⟨v6, v7, v8, lI, hI, ts, acc, lo, rfl, kp, hie, ho', hst, heq, hac, hlo⟩
      rw [List.length_map, hlen, List.drop_length] at heq
      have heq : arrSt F (lo0 (brg F xs)) 1 es = acc ++ [] := heq
      rw [List.append_nil] at heq
      exact ⟨.ref o, rfl, q H' o ts kp ho0 ho' (by rw [heq]; exact hst)⟩
end
end Ln


set_option Elab.async false
set_option linter.all false
set_option maxRecDepth 100000
set_option maxHeartbeats 4000000
namespace Ln
open PySem
/-! ### lanes by the possible numbers of leavers on the left, event by event -/
/-- the numbers behind an event, before a row without stayers is made whole -/
def dpP (F : List Str) (P : Int → Prop) (run : List Str) (total : Int) : Ev → Int → Prop
  | .out, k => (P k ∧ k ≤ total - 1) ∨ (P (k + 1) ∧ k + 1 > 0)
  | .inn c, k => if c ∈ F then
      (if run = [] then k = 0 ∨ k = total else if F.idxOf c < F.idxOf (run.headD c) then P k ∧ k = 0 else P k ∧ k = total)
    else P k ∨ P (k - 1)
def dpRun (F run : List Str) : Ev → List Str
  | .out => run
  | .inn c => if c ∈ F then (if run = [] ∨ F.idxOf c < F.idxOf (run.headD c) then c :: run else run ++ [c]) else run
def dpT (F : List Str) (total : Int) : Ev → Int
  | .out => total - 1
  | .inn c => if c ∈ F then total else total + 1
def dpN (F : List Str) (P : Int → Prop) (run : List Str) (total : Int) (e : Ev) (k : Int) : Prop :=
  if dpRun F run e = [] then 0 ≤ k ∧ k ≤ dpT F total e else dpP F P run total e k
def dpR (F : List Str) : (Int → Prop) → List Str → Int → List Ev → Prop
  | _, run, total, [] => run = F ∧ total = 0
  | P, run, total, e :: r => (∃ k, dpP F P run total e k) ∧ 0 ≤ dpT F total e ∧ dpR F (dpN F P run total e) (dpRun F run e) (dpT F total e) r
theorem dpN_ne {F : List Str} {P : Int → Prop} {run : List Str} {total : Int} {e : Ev} (h : dpRun F run e ≠ []) : dpN F P run total e = dpP F P run total e := by
  funext k
  unfold dpN
  rw [if_neg h]
theorem dpN_nil {F : List Str} {P : Int → Prop} {run : List Str} {total : Int} {e : Ev} (h : dpRun F run e = []) : dpN F P run total e = fun k => 0 ≤ k ∧ k ≤ dpT F total e := by
  funext k
  unfold dpN
  rw [if_pos h]
/-- each number is that of some history -/
theorem dp_sound {F xs : List Str} : ∀ (r : List Ev) (pre : List Ev) (P : Int → Prop) (run : List Str) (total : Int),
    (∀ k, P k → ∃ A C : List Str, (A.length : Int) = k ∧ ((A.length + C.length : Nat) : Int) = total ∧ Run xs pre (A ++ run ++ C)) → (∃ k, P k) → dpR F P run total r → Run xs (pre ++ r) F
  | [], pre, P, run, total, hP, ⟨k, hk⟩, h => by
    obtain ⟨h1, h2⟩ : run = F ∧ total = 0 := h
    obtain ⟨A, C, e1, e2, hr⟩ := hP k hk
    have hA : A = [] := List.eq_nil_of_length_eq_zero (by omega)
    have hC : C = [] := List.eq_nil_of_length_eq_zero (by omega)
    rw [hA, hC, h1] at hr
    simpa using hr
  | e :: r, pre, P, run, total, hP, hne, h => by
    obtain ⟨⟨k1, hk1⟩, ht, hd⟩ := h
    have wit : ∀ k, dpP F P run total e k → ∃ A C : List Str, (A.length : Int) = k ∧ ((A.length + C.length : Nat) : Int) = dpT F total e ∧ Run xs (pre ++ [e]) (A ++ dpRun F run e ++ C) := fun k hk => by
      cases e with
      | out =>
        rcases (show (P k ∧ k ≤ total - 1) ∨ (P (k + 1) ∧ k + 1 > 0) from hk) with ⟨h1, h2⟩ | ⟨h1, h2⟩
        · obtain ⟨A, C, e1, e2, hr⟩ := hP k h1
          obtain ⟨C', x, rfl⟩ : ∃ C' x, C = C' ++ [x] := by
            rcases List.eq_nil_or_concat C with rfl | ⟨C', x, rfl⟩
            · simp at e2
              omega
            · exact ⟨C', x, by simp⟩
          refine ⟨A, C', e1, ?_, hr.snoc ?_⟩
          · show _ = total - 1
            rw [List.length_append, List.length_singleton] at e2
            omega
          · show Mv _ .out (A ++ run ++ C')
            rw [← List.append_assoc]
            exact .outR x _
        · obtain ⟨A, C, e1, e2, hr⟩ := hP (k + 1) h1
          cases A with
          | nil => simp at e1; omega
          | cons x A =>
            rw [List.length_cons] at e1 e2
            refine ⟨A, C, by omega, ?_, hr.snoc (.outL x _)⟩
            show _ = total - 1
            omega
      | inn c =>
        by_cases hc : c ∈ F
        · have hT : dpT F total (.inn c) = total := by
            show (if c ∈ F then total else _) = _
            rw [if_pos hc]
          rw [hT]
          have hR : dpRun F run (.inn c) = if run = [] ∨ F.idxOf c < F.idxOf (run.headD c) then c :: run else run ++ [c] := by
            show (if c ∈ F then _ else _) = _
            rw [if_pos hc]
          have hkk : (if run = [] then k = 0 ∨ k = total else if F.idxOf c < F.idxOf (run.headD c) then P k ∧ k = 0 else P k ∧ k = total) := by
            have h2 : (if c ∈ F then (if run = [] then k = 0 ∨ k = total else if F.idxOf c < F.idxOf (run.headD c) then P k ∧ k = 0 else P k ∧ k = total) else P k ∨ P (k - 1)) := hk
            rw [if_pos hc] at h2
            exact h2
          rw [hR]
          by_cases hn : run = []
          · rw [if_pos hn] at hkk
            rw [if_pos (.inl hn)]
            subst hn
            obtain ⟨k0, hk0⟩ := hne
            obtain ⟨A, C, e1, e2, hr⟩ := hP k0 hk0
            have e3 : (((A ++ C).length : Nat) : Int) = total := by rw [List.length_append]; exact e2
            rw [List.append_nil] at hr
            rcases hkk with rfl | rfl
            · refine ⟨[], A ++ C, rfl, by rw [List.length_nil, Nat.zero_add]; exact e3, hr.snoc ?_⟩
              show Mv _ _ (c :: (A ++ C))
              exact .inL c _
            · refine ⟨A ++ C, [], e3, by rw [List.length_nil, Nat.add_zero]; exact e3, hr.snoc ?_⟩
              show Mv _ _ (A ++ C ++ [c] ++ [])
              rw [List.append_nil]
              exact .inR c _
          · rw [if_neg hn] at hkk
            by_cases hl : F.idxOf c < F.idxOf (run.headD c)
            · rw [if_pos hl] at hkk
              rw [if_pos (.inr hl)]
              obtain ⟨hq, rfl⟩ := hkk
              obtain ⟨A, C, e1, e2, hr⟩ := hP 0 hq
              have hA : A = [] := List.eq_nil_of_length_eq_zero (by omega)
              subst hA
              exact ⟨[], C, rfl, e2, hr.snoc (.inL c _)⟩
            · rw [if_neg hl] at hkk
              rw [if_neg (fun z => z.elim hn hl)]
              obtain ⟨hq, hkt⟩ := hkk
              obtain ⟨A, C, e1, e2, hr⟩ := hP _ hq
              have hC : C = [] := List.eq_nil_of_length_eq_zero (by omega)
              subst hC
              refine ⟨A, [], e1, e2, hr.snoc ?_⟩
              have : A ++ (run ++ [c]) ++ [] = A ++ run ++ [] ++ [c] := by simp
              rw [this]
              exact .inR c _
        · have hT : dpT F total (.inn c) = total + 1 := by
            show (if c ∈ F then total else _) = _
            rw [if_neg hc]
          have hR : dpRun F run (.inn c) = run := by
            show (if c ∈ F then _ else run) = _
            rw [if_neg hc]
          rw [hT, hR]
          have hk : P k ∨ P (k - 1) := by
            have h2 : (if c ∈ F then (if run = [] then k = 0 ∨ k = total else if F.idxOf c < F.idxOf (run.headD c) then P k ∧ k = 0 else P k ∧ k = total) else P k ∨ P (k - 1)) := hk
            rw [if_neg hc] at h2
            exact h2
          rcases hk with h1 | h1
          · obtain ⟨A, C, e1, e2, hr⟩ := hP k h1
            refine ⟨A, C ++ [c], e1, by rw [List.length_append, List.length_singleton]; omega, hr.snoc ?_⟩
            rw [← List.append_assoc]
            exact .inR c _
          · obtain ⟨A, C, e1, e2, hr⟩ := hP (k - 1) h1
            exact ⟨c :: A, C, by rw [List.length_cons]; omega, by rw [List.length_cons]; omega, hr.snoc (.inL c _)⟩
    have e1 : pre ++ e :: r = (pre ++ [e]) ++ r := by simp
    rw [e1]
    refine dp_sound r (pre ++ [e]) _ _ _ (fun k hk => ?_) ?_ hd
    · by_cases hn : dpRun F run e = []
      · rw [dpN_nil hn] at hk
        obtain ⟨A, C, _, e2, hr⟩ := wit k1 hk1
        rw [hn, List.append_nil] at hr
        have hl : (((A ++ C).length : Nat) : Int) = dpT F total e := by rw [List.length_append]; exact e2
        refine ⟨(A ++ C).take k.toNat, (A ++ C).drop k.toNat, ?_, ?_, ?_⟩
        · rw [List.length_take]
          omega
        · rw [List.length_take, List.length_drop]
          omega
        · rw [hn, List.append_nil, List.take_append_drop]
          exact hr
      · rw [dpN_ne hn] at hk
        exact wit k hk
    · by_cases hn : dpRun F run e = []
      · exact ⟨0, by rw [dpN_nil hn]; exact ⟨Int.le_refl _, ht⟩⟩
      · exact ⟨k1, by rw [dpN_ne hn]; exact hk1⟩
/-- .. and that of each history is there -/
theorem dp_full {F A B C D E : List Str} {r : List Ev} (h : Spl F A B C D E r) (hF : F.Nodup) : ∀ P : Int → Prop, (B ≠ [] → P A.length) → (B = [] → P 0) → dpR F P B ((A.length + C.length : Nat) : Int) r := by
  induction h with
  | nil => exact fun _ _ _ => ⟨rfl, rfl⟩
  | @mid A C A' C' D E r e _ ih =>
    intro P _ h0
    have : A'.length + C'.length = A.length + C.length := by rw [← List.length_append, e, List.length_append]
    rw [this]
    exact ih P (fun z => absurd rfl z) h0
  | @stL B C D E r c hS ih =>
    intro P h1 h0
    have e : F = D ++ c :: (B ++ E) := by rw [hS.eqF]; simp
    have hc : c ∈ F := by rw [e]; simp
    have hi : F.idxOf c = D.length := by
      have hn := hF
      rw [e] at hn ⊢
      exact idx_mid hn
    have hT : dpT F ((([] : List Str).length + C.length : Nat) : Int) (.inn c) = ((([] : List Str).length + C.length : Nat) : Int) := by
      show (if c ∈ F then _ else _) = _
      rw [if_pos hc]
    have hlt : B = [] ∨ F.idxOf c < F.idxOf (B.headD c) := by
      cases B with
      | nil => exact .inl rfl
      | cons b B =>
        refine .inr ?_
        have e2 : F = (D ++ [c]) ++ b :: (B ++ E) := by rw [hS.eqF]; simp
        have hb : F.idxOf b = (D ++ [c]).length := by
          have hn := hF
          rw [e2] at hn ⊢
          exact idx_mid hn
        show F.idxOf c < F.idxOf b
        rw [hi, hb, List.length_append, List.length_singleton]
        omega
    have hR : dpRun F B (.inn c) = c :: B := by
      show (if c ∈ F then _ else _) = _
      rw [if_pos hc, if_pos hlt]
    have h00 : dpP F P B ((([] : List Str).length + C.length : Nat) : Int) (.inn c) 0 := by
      show (if c ∈ F then _ else _)
      rw [if_pos hc]
      by_cases hB : B = []
      · rw [if_pos hB]
        exact .inl rfl
      · rw [if_neg hB, if_pos (hlt.resolve_left hB)]
        exact ⟨h1 hB, rfl⟩
    refine ⟨⟨0, h00⟩, by rw [hT]; omega, ?_⟩
    rw [hT, dpN_ne (by rw [hR]; exact List.cons_ne_nil _ _), hR]
    exact ih _ (fun _ => h00) (fun z => absurd z (List.cons_ne_nil _ _))
  | @stR A B D E r c hS ih =>
    intro P h1 h0
    have e : F = (D ++ B) ++ c :: E := by rw [hS.eqF]; simp
    have hc : c ∈ F := by rw [e]; simp
    have hi : F.idxOf c = D.length + B.length := by
      have hn := hF
      rw [e] at hn ⊢
      rw [idx_mid hn, List.length_append]
    have hT : dpT F ((A.length + ([] : List Str).length : Nat) : Int) (.inn c) = ((A.length + ([] : List Str).length : Nat) : Int) := by
      show (if c ∈ F then _ else _) = _
      rw [if_pos hc]
    have hge : B ≠ [] → ¬ F.idxOf c < F.idxOf (B.headD c) := fun hB => by
      obtain ⟨b, B', rfl⟩ := List.exists_cons_of_ne_nil hB
      have e2 : F = D ++ b :: (B' ++ [c] ++ E) := by rw [hS.eqF]; simp
      have hb : F.idxOf b = D.length := by
        have hn := hF
        rw [e2] at hn ⊢
        exact idx_mid hn
      show ¬ F.idxOf c < F.idxOf b
      rw [hi, hb]
      omega
    have hR : dpRun F B (.inn c) = B ++ [c] := by
      show (if c ∈ F then _ else _) = _
      rw [if_pos hc]
      by_cases hB : B = []
      · rw [if_pos (.inl hB), hB]
        rfl
      · rw [if_neg (fun z => z.elim hB (hge hB))]
    have h00 : dpP F P B ((A.length + ([] : List Str).length : Nat) : Int) (.inn c) A.length := by
      show (if c ∈ F then _ else _)
      rw [if_pos hc]
      by_cases hB : B = []
      · rw [if_pos hB]
        exact .inr (by rw [List.length_nil, Nat.add_zero])
      · rw [if_neg hB, if_neg (hge hB)]
        exact ⟨h1 hB, by rw [List.length_nil, Nat.add_zero]⟩
    refine ⟨⟨_, h00⟩, by rw [hT]; omega, ?_⟩
    rw [hT, dpN_ne (by rw [hR]; simp), hR]
    exact ih _ (fun _ => h00) (fun z => by simp at z)
  | @lvL A B C D E r c hc _ ih =>
    intro P h1 h0
    have hT : dpT F ((A.length + C.length : Nat) : Int) (.inn c) = (((c :: A).length + C.length : Nat) : Int) := by
      show (if c ∈ F then _ else _) = _
      rw [if_neg hc, List.length_cons]
      omega
    have hR : dpRun F B (.inn c) = B := by
      show (if c ∈ F then _ else B) = _
      rw [if_neg hc]
    have hp : ∀ k, P k → dpP F P B ((A.length + C.length : Nat) : Int) (.inn c) (k + 1) := fun k hk => by
      show (if c ∈ F then _ else _)
      rw [if_neg hc]
      exact .inr (by rw [show k + 1 - 1 = k by omega]; exact hk)
    have hex : ∃ k, dpP F P B ((A.length + C.length : Nat) : Int) (.inn c) k := by
      by_cases hB : B = []
      · exact ⟨_, hp 0 (h0 hB)⟩
      · exact ⟨_, hp _ (h1 hB)⟩
    refine ⟨hex, by rw [hT]; omega, ?_⟩
    rw [hR, hT]
    refine ih _ (fun hB => ?_) (fun hB => ?_)
    · rw [dpN_ne (by rw [hR]; exact hB)]
      have := hp _ (h1 hB)
      rw [List.length_cons]
      exact this
    · rw [dpN_nil (by rw [hR]; exact hB), hT]
      exact ⟨Int.le_refl _, by omega⟩
  | @lvR A B C D E r c hc _ ih =>
    intro P h1 h0
    have hT : dpT F ((A.length + C.length : Nat) : Int) (.inn c) = ((A.length + (C ++ [c]).length : Nat) : Int) := by
      show (if c ∈ F then _ else _) = _
      rw [if_neg hc, List.length_append, List.length_singleton]
      omega
    have hR : dpRun F B (.inn c) = B := by
      show (if c ∈ F then _ else B) = _
      rw [if_neg hc]
    have hp : ∀ k, P k → dpP F P B ((A.length + C.length : Nat) : Int) (.inn c) k := fun k hk => by
      show (if c ∈ F then _ else _)
      rw [if_neg hc]
      exact .inl hk
    have hex : ∃ k, dpP F P B ((A.length + C.length : Nat) : Int) (.inn c) k := by
      by_cases hB : B = []
      · exact ⟨_, hp 0 (h0 hB)⟩
      · exact ⟨_, hp _ (h1 hB)⟩
    refine ⟨hex, by rw [hT]; omega, ?_⟩
    rw [hR, hT]
    refine ih _ (fun hB => ?_) (fun hB => ?_)
    · rw [dpN_ne (by rw [hR]; exact hB)]
      exact hp _ (h1 hB)
    · rw [dpN_nil (by rw [hR]; exact hB), hT]
      exact ⟨Int.le_refl _, by omega⟩
  | @outL A B C D E r x _ ih =>
    intro P h1 h0
    have hT : dpT F (((x :: A).length + C.length : Nat) : Int) .out = ((A.length + C.length : Nat) : Int) := by
      show (((x :: A).length + C.length : Nat) : Int) - 1 = _
      rw [List.length_cons]
      omega
    have hp : B ≠ [] → dpP F P B (((x :: A).length + C.length : Nat) : Int) .out A.length := fun hB => .inr ⟨by have := h1 hB; rw [List.length_cons] at this; exact this, by omega⟩
    have h00 : B = [] → dpP F P B (((x :: A).length + C.length : Nat) : Int) .out 0 := fun hB => .inl ⟨h0 hB, by rw [List.length_cons]; omega⟩
    have hex : ∃ k, dpP F P B (((x :: A).length + C.length : Nat) : Int) .out k := by
      by_cases hB : B = []
      · exact ⟨_, h00 hB⟩
      · exact ⟨_, hp hB⟩
    refine ⟨hex, by rw [hT]; omega, ?_⟩
    rw [hT]
    refine ih _ (fun hB => ?_) (fun hB => ?_)
    · rw [dpN_ne (show dpRun F B .out ≠ [] from hB)]
      exact hp hB
    · rw [dpN_nil (show dpRun F B .out = [] from hB), hT]
      exact ⟨Int.le_refl _, by omega⟩
  | @outR A B C D E r x _ ih =>
    intro P h1 h0
    have hT : dpT F ((A.length + (C ++ [x]).length : Nat) : Int) .out = ((A.length + C.length : Nat) : Int) := by
      show ((A.length + (C ++ [x]).length : Nat) : Int) - 1 = _
      rw [List.length_append, List.length_singleton]
      omega
    have hp : B ≠ [] → dpP F P B ((A.length + (C ++ [x]).length : Nat) : Int) .out A.length := fun hB => .inl ⟨h1 hB, by rw [List.length_append, List.length_singleton]; omega⟩
    have h00 : B = [] → dpP F P B ((A.length + (C ++ [x]).length : Nat) : Int) .out 0 := fun hB => .inl ⟨h0 hB, by rw [List.length_append, List.length_singleton]; omega⟩
    have hex : ∃ k, dpP F P B ((A.length + (C ++ [x]).length : Nat) : Int) .out k := by
      by_cases hB : B = []
      · exact ⟨_, h00 hB⟩
      · exact ⟨_, hp hB⟩
    refine ⟨hex, by rw [hT]; omega, ?_⟩
    rw [hT]
    refine ih _ (fun hB => ?_) (fun hB => ?_)
    · rw [dpN_ne (show dpRun F B .out ≠ [] from hB)]
      exact hp hB
    · rw [dpN_nil (show dpRun F B .out = [] from hB), hT]
      exact ⟨Int.le_refl _, by omega⟩
/-- what the law decides -/
def canAr (xs : List Str) (es : List Ev) (F : List Str) : Prop :=
  (∀ c ∈ F, c ∈ xs ++ arrs es) ∧ cutN xs (brg xs F) = F.filter (fun c => decide (c ∈ xs)) ∧
    dpR F (fun k => k = (brg xs F).1) (F.filter fun c => decide (c ∈ xs)) ((xs.length : Int) - ((F.filter fun c => decide (c ∈ xs)).length : Nat)) es
theorem canAr_iff {xs F : List Str} {es : List Ev} (hn : (xs ++ arrs es).Nodup) : canAr xs es F ↔ Run xs es F := by
  constructor
  · rintro ⟨_, h2, h3⟩
    obtain ⟨A, M, C, e, hA, hC, hb1, hb2⟩ := brg_cut xs F
    rw [hb1] at h2
    rw [← h2] at h3
    have := dp_sound (xs := xs) es [] (fun k => k = ((brg xs F).1 : Int)) _ _ (fun k hk => ?_) ⟨_, rfl⟩ h3
    · exact this
    · by_cases hM : M = []
      · have hk : k = ((brg xs F).1 : Int) := hk
        rw [hb2, if_pos hM] at hk
        refine ⟨[], xs, by rw [hk]; rfl, ?_, ?_⟩
        · rw [hM]
          show ((0 + xs.length : Nat) : Int) = (xs.length : Int) - ((0 : Nat) : Int)
          omega
        · rw [hM]
          exact .nil _
      · have hk : k = ((brg xs F).1 : Int) := hk
        rw [hb2, if_neg hM] at hk
        refine ⟨A, C, hk.symm, ?_, ?_⟩
        · rw [e, List.length_append, List.length_append]
          omega
        · rw [← e]
          exact .nil _
  · intro h
    have hF := h.nodup hn
    refine ⟨h.mem, ?_⟩
    obtain ⟨A, B, C, D, E, rfl, hS, hA⟩ := split h hn
    obtain ⟨b1, b2⟩ := hS.blk hn hA
    have hl : ∀ x ∈ D ++ E, x ∉ A ++ B ++ C := fun x hx z => (List.nodup_append.mp hn).2.2 x z x (hS.late x hx) rfl
    have hfil : F.filter (fun c => decide (c ∈ A ++ B ++ C)) = B := by
      have e1 : D.filter (fun c => decide (c ∈ A ++ B ++ C)) = [] := List.filter_eq_nil_iff.mpr fun x hx => by simpa using hl x (List.mem_append_left _ hx)
      have e2 : E.filter (fun c => decide (c ∈ A ++ B ++ C)) = [] := List.filter_eq_nil_iff.mpr fun x hx => by simpa using hl x (List.mem_append_right _ hx)
      have e3 : B.filter (fun c => decide (c ∈ A ++ B ++ C)) = B := List.filter_eq_self.mpr fun x hx => decide_eq_true (by simp [hx])
      have : (D ++ B ++ E).filter (fun c => decide (c ∈ A ++ B ++ C)) = B := by rw [List.filter_append, List.filter_append, e1, e2, e3]; simp
      rw [← hS.eqF] at this
      exact this
    rw [hfil]
    have ht : (((A ++ B ++ C).length : Nat) : Int) - (B.length : Nat) = ((A.length + C.length : Nat) : Int) := by
      rw [List.length_append, List.length_append]
      omega
    rw [ht]
    refine ⟨?_, dp_full hS hF _ (fun hB => ?_) (fun hB => ?_)⟩
    · rw [b1]
      by_cases q : B = []
      · rw [if_pos q, q]
        rfl
      · rw [if_neg q, cut_mid]
    · show ((A.length : Nat) : Int) = ((brg (A ++ B ++ C) F).1 : Int)
      rw [b1, if_neg hB]
    · show (0 : Int) = ((brg (A ++ B ++ C) F).1 : Int)
      rw [b1, if_pos hB]
      rfl
end Ln


set_option Elab.async false
set_option linter.all false
set_option maxRecDepth 100000
set_option maxHeartbeats 4000000
namespace Ln
open PySem PySem.Spec PyProof.Rows L2 GxR
structure Bs (mg : Str → Option Value) : Prop where
  srt : mg "sorted" = none
theorem filt_takeI (xs : List Int) (p : Int → Bool) (i : Nat) (c : Int) (h : xs[i]? = some c) : (xs.take (i + 1)).filter p = (xs.take i).filter p ++ if p c = true then [c] else [] := by
  rw [List.take_add_one, h, List.filter_append]
  congr 1
  show List.filter p [c] = _
  by_cases q : p c = true
  · rw [if_pos q, List.filter_cons_of_pos q]
    rfl
  · rw [if_neg q, List.filter_cons_of_neg q]
    rfl
theorem nd_len : ∀ {L M : List Int}, L.Nodup → (∀ x ∈ L, x ∈ M) → L.length ≤ M.length
  | [], M, _, _ => Nat.zero_le _
  | x :: r, M, h, hs => by
    obtain ⟨h1, h2⟩ := List.nodup_cons.mp h
    have hx := hs x List.mem_cons_self
    have ih := nd_len (L := r) (M := M.erase x) h2 fun y hy => (List.mem_erase_of_ne fun e => h1 (by rw [← e]; exact hy)).mpr (hs y (List.mem_cons_of_mem _ hy))
    rw [List.length_erase_of_mem hx] at ih
    have : 0 < M.length := List.length_pos_of_mem hx
    rw [List.length_cons]
    omega
theorem sm_refl {H : Hp} : L2.Same H H := fun _ _ e => e
theorem sm_trans {H H1 H2 : Hp} (a : L2.Same H H1) (b : L2.Same H1 H2) : L2.Same H H2 := fun c u e => b c u (a c u e)
theorem sm_none {H H1 : Hp} {a : Addr} (k : L2.Same H H1) (h : H1 a = none) : H a = none := by
  cases e : H a with
  | none => rfl
  | some u =>
    rw [k _ _ e] at h
    cases h
/-- a list that is new: writing to it leaves the old as it is -/
theorem sm_upd {H H1 : Hp} {a : Addr} {o : HO} (k : L2.Same H H1) (h : H a = none) : L2.Same H (L2.upd H1 a o) := fun b u e => by
  rw [upd_ne (fun z => by rw [z, h] at e; cases e)]
  exact k b u e
theorem sm_new {H H1 : Hp} {p : Addr} {o : HO} (k : L2.Same H H1) (hp : H1 p = none) : L2.Same H (L2.upd H1 p o) := sm_upd k (sm_none k hp)
theorem sq_sm {K : PySem.W.Frag} {H H1 : Hp} {a : Addr} {xs : List V} (h : SqL K H a xs) (k : L2.Same H H1) : SqL K H1 a xs := by
  rcases h with (e | ⟨ob, e⟩) | e
  · exact .inl (.inl (k _ _ e))
  · exact .inl (.inr ⟨ob, k _ _ e⟩)
  · exact .inr e
theorem shaped_ints' (ns : List Int) : SeqAt.shaped (.list (ns.map PyData.int)) = true := by
  have lay : ∀ ns : List Int, PyData.canLayAll0 (ns.map PyData.int) = true := fun ns => by
    induction ns with
    | nil => rfl
    | cons n r ih =>
      rw [List.map_cons, PyData.canLayAll0, ih]
      rfl
  have dep : ∀ ns : List Int, PyData.depthAll (ns.map PyData.int) ≤ 1 := fun ns => by
    induction ns with
    | nil => rw [List.map_nil, PyData.depthAll]; omega
    | cons n r ih =>
      rw [List.map_cons, PyData.depthAll, PyData.depth]
      omega
  unfold SeqAt.shaped
  rw [Bool.and_eq_true]
  refine ⟨by rw [PyData.canLay0]; exact lay ns, decide_eq_true ?_⟩
  have := dep ns
  rw [PyData.depth]
  omega
theorem eqv_nilT (xs : List Str) : PyData.eqv (.tuple (xs.map PyData.str)) (.tuple []) = decide (xs = []) := by
  have := eqv_strs xs []
  exact this
theorem sortset {K : PySem.W.Frag} {w : World} {H : Hp} {D : Addr} {ns : List Int} {Q : VK} (hD : SqL K H D (ns.map V.int)) (few : ns.length < 64)
    (h : ∀ (H' : Hp) (p : Addr) (ms : List Int), L2.Same H H' → H' p = some (.lst (ms.map V.int)) → ms.Nodup → (∀ k, k ∈ ms ↔ k ∈ ns) → Q (.ref p) H') : rSetI K w [.ref D] H fun x H1 => rSortedSet w [x] H1 Q :=
  ⟨D, ns, rfl, hD, by omega, fun a L ha nd hm => ⟨a, _, _, rfl, upd_same, Nat.lt_of_le_of_lt (nd_len nd fun k hk => (hm k).mp hk) few, fun ms p pw hm2 _ hp =>
    h _ p ms (sm_new (sm_new sm_refl ha) hp) upd_same (pw.imp fun {a b} q e => by omega) fun k => (hm2 k).trans decide_eq_true_iff⟩⟩
theorem cat_l {K : PySem.W.Frag} {H : Hp} {p r : Addr} {c : Str} {run : List Str} {Q : VK} (hp : TupD H p [.str c]) (hR : TupD H r (run.map V.str)) (few : run.length ≤ 300)
    (h : ∀ (H' : Hp) (b : Addr), L2.Same H H' → TupD H' b ((c :: run).map V.str) → Q (.ref b) H') : rCatD K (.ref p) (.ref r) H Q := by
  refine ⟨p, r, _, _, rfl, rfl, hp.sq, hR.sq, ?_, (fun z => absurd z (List.cons_ne_nil _ _)), fun _ h0 => ?_, fun _ h0 p2 ob2 hob2 hp2 => ?_⟩
  · rw [List.length_map]
    have : 1 + run.length < sizeLine := small1000 (by omega)
    exact Nat.le_of_lt this
  · have : run = [] := List.map_eq_nil_iff.mp h0
    subst this
    exact h _ p sm_refl hp
  · exact h _ p2 (sm_new sm_refl hp2) (TupD.of hob2)
theorem cat_r {K : PySem.W.Frag} {H : Hp} {p r : Addr} {c : Str} {run : List Str} {Q : VK} (hp : TupD H p [.str c]) (hR : TupD H r (run.map V.str)) (few : run.length ≤ 300)
    (h : ∀ (H' : Hp) (b : Addr), L2.Same H H' → TupD H' b ((run ++ [c]).map V.str) → Q (.ref b) H') : rCatD K (.ref r) (.ref p) H Q := by
  refine ⟨r, p, _, _, rfl, rfl, hR.sq, hp.sq, ?_, fun h0 => ?_, (fun _ z => absurd z (List.cons_ne_nil _ _)), fun h0 _ p2 ob2 hob2 hp2 => ?_⟩
  · rw [List.length_map]
    have : run.length + 1 < sizeLine := small1000 (by omega)
    exact Nat.le_of_lt this
  · have : run = [] := List.map_eq_nil_iff.mp h0
    subst this
    exact h _ p sm_refl hp
  · refine h _ p2 (sm_new sm_refl hp2) ?_
    rw [List.map_append]
    exact TupD.of hob2
section
variable {P : Program} {w : World} {K : PySem.W.Frag} {mg : Str → Option Value} {base : Heap} {Ps : List Addr}
def spJoined (K : PySem.W.Frag) : Sp := fun vs H Q _ => ∃ (l r f : Addr) (c : Str) (total : Int) (ns : List Int) (run F : List Str), vs = [.ref l, .ref r, .str c, .ref f, .int total] ∧ SqL K H l (ns.map V.int) ∧ ns.length < 64 ∧ TupD H r (run.map V.str) ∧ run.length ≤ 300 ∧ (∀ x ∈ run, carB x = true) ∧ (∀ x ∈ run, x ∈ F) ∧ TupD H f (F.map V.str) ∧ c ∈ F ∧
  ∀ (H' : Hp) (p a b : Addr) (ms : List Int), L2.Same H H' → H' p = some (.tup [.ref a, .ref b]) → H' a = some (.lst (ms.map V.int)) → TupD H' b ((dpRun F run (.inn c)).map V.str) → ms.Nodup → (∀ k, k ∈ ms ↔ dpP F (fun k => k ∈ ns) run total (.inn c) k) → Q (.ref p) H'
end
end Ln


set_option Elab.async false
set_option linter.all false
set_option maxRecDepth 100000
set_option maxHeartbeats 4000000
namespace Ln
open PySem PySem.Spec PyProof.Rows L2 GxR
/-! ### values of any plain kind, read off one object -/
theorem catV {K : PySem.W.Frag} {H : Hp} {x y : Addr} {A B : List V} {Q : VK} (hx : SqT K H x A) (hy : SqT K H y B) (few : A.length + B.length ≤ 900) (h : ∀ H' p, L2.Same H H' → SqT K H' p (A ++ B) → Q (.ref p) H') : rCatA K (.ref x) (.ref y) H Q := by
  refine ⟨x, y, A, B, rfl, rfl, hx, hy, by rw [sizeLine_eq]; omega, fun e => ?_, fun _ e => ?_, fun _ _ p hp => ?_⟩
  · subst e
    exact h H y sm_refl hy
  · subst e
    exact h H x sm_refl (by rw [List.append_nil]; exact hx)
  · exact h _ p (sm_new sm_refl hp) (SqT.of upd_same)
theorem DvAll.app {K : PySem.W.Frag} {H : Hp} : ∀ {as bs : List V} {ds es : List PyData}, DvAll K H as ds → DvAll K H bs es → DvAll K H (as ++ bs) (ds ++ es)
  | _, _, _, _, .nil, k => k
  | _, _, _, _, .cons a b, k => .cons a (DvAll.app b k)
theorem dv_strs {K : PySem.W.Frag} {H : Hp} : ∀ (xs : List Str), (∀ x ∈ xs, x.length ≤ sizeLine) → DvAll K H (xs.map V.str) (xs.map PyData.str)
  | [], _ => .nil
  | x :: r, h => .cons (.str x (h x List.mem_cons_self)) (dv_strs r fun y hy => h y (List.mem_cons_of_mem _ hy))
/-- the heap without one object -/
def offH (H : Hp) (s : Addr) : Hp := fun b => if b = s then none else H b
theorem off_sub {H : Hp} {s : Addr} : L2.Same (offH H s) H := fun b o e => by
  unfold offH at e
  split at e
  · cases e
  · exact e
theorem off_at {H : Hp} {s b : Addr} (n : b ≠ s) : offH H s b = H b := if_neg n
theorem off_sm {H H' : Hp} {s : Addr} (k : L2.Same H H') : L2.Same (offH H s) (offH H' s) := fun b o e => by
  by_cases z : b = s
  · unfold offH at e
    rw [if_pos z] at e
    cases e
  · rw [off_at z] at e ⊢
    exact k b o e
theorem off_ch {H H' : Hp} {s : Addr} (k : Ch s H H') : L2.Same (offH H s) (offH H' s) := fun b o e => by
  by_cases z : b = s
  · unfold offH at e
    rw [if_pos z] at e
    cases e
  · rw [off_at z] at e ⊢
    exact k b o e z
theorem off_seqT {K : PySem.W.Frag} {H : Hp} {s a : Addr} {xs l : List V} (h : SqT K H a xs) (hs : H s = some (.lst l)) : SqT K (offH H s) a xs := by
  rcases h with (e | ⟨ob, e⟩) | e
  · exact .inl (.inl (by rw [off_at fun z => by rw [z, hs] at e; cases e]; exact e))
  · exact .inl (.inr ⟨ob, by rw [off_at fun z => by rw [z, hs] at e; cases e]; exact e⟩)
  · exact .inr e
theorem strsD_app {ds : List PyData} : ∀ xs : List Str, strsD (xs.map PyData.str ++ ds) = (strsD ds).map (xs ++ ·)
  | [] => by
    show strsD ds = (strsD ds).map fun y => y
    cases strsD ds <;> rfl
  | x :: r => by
    show (strsD (r.map PyData.str ++ ds)).map (x :: ·) = _
    rw [strsD_app r]
    cases strsD ds <;> rfl
theorem laneB_app {xs ys : List Str} (h : laneB ys = false) : laneB (xs ++ ys) = false := by
  cases q : laneB (xs ++ ys) with
  | false => rfl
  | true =>
    unfold laneB at q h
    rw [Bool.and_eq_true] at q
    have h1 : ys.all carB = true := List.all_eq_true.mpr fun y hy => List.all_eq_true.mp q.1 y (List.mem_append_right _ hy)
    have h2 : ys.Nodup := (List.nodup_append.mp (of_decide_eq_true q.2)).2.1
    rw [h1, decide_eq_true h2] at h
    cases h
theorem lane_bad {xs : List Str} {ds : List PyData} (h : strsD ds = none ∨ ∃ ys, strsD ds = some ys ∧ laneB ys = false) : laneD (.tuple (xs.map PyData.str ++ ds)) = false := by
  show (match strsD (xs.map PyData.str ++ ds) with | some xs => laneB xs | none => false) = false
  rw [strsD_app]
  rcases h with h | ⟨ys, h, h2⟩
  · rw [h]
    rfl
  · rw [h]
    exact laneB_app h2
theorem sz_tup {xs : List Str} {ds : List PyData} (h : xs.length + ds.length ≤ 400) : SzA (.tuple (xs.map PyData.str ++ ds)) := ⟨fun es e => by
  cases e
  rw [List.length_append, List.length_map]
  exact h, fun _ e => nomatch e⟩
theorem flat_one {α : Type} (x : α) : ∀ n : Nat, (List.replicate n [x]).flatten = List.replicate n x
  | 0 => rfl
  | n + 1 => by
    rw [List.replicate_succ, List.flatten_cons, flat_one x n]
    rfl
theorem dv_rep {K : PySem.W.Frag} {H : Hp} {v : V} {d : PyData} (h : Dv K H v d) : ∀ n : Nat, DvAll K H (List.replicate n v) (List.replicate n d)
  | 0 => .nil
  | n + 1 => .cons h (dv_rep h n)
theorem DvAll.take {K : PySem.W.Frag} {H : Hp} : ∀ (n : Nat) {vs : List V} {ds : List PyData}, DvAll K H vs ds → DvAll K H (vs.take n) (ds.take n)
  | 0, _, _, _ => by
    rw [List.take_zero, List.take_zero]
    exact .nil
  | n + 1, _, _, .nil => .nil
  | n + 1, _, _, .cons a b => .cons a (DvAll.take n b)
theorem DvAll.rev {K : PySem.W.Frag} {H : Hp} : ∀ {vs : List V} {ds : List PyData}, DvAll K H vs ds → DvAll K H vs.reverse ds.reverse
  | _, _, .nil => .nil
  | _, _, .cons a b => by
    rw [List.reverse_cons, List.reverse_cons]
    exact DvAll.app (DvAll.rev b) (.cons a .nil)
end Ln


set_option Elab.async false
set_option linter.all false
set_option maxRecDepth 100000
set_option maxHeartbeats 4000000
namespace Ln
open PySem PySem.Spec PyProof.Rows L2 GxR
/-- the cars of a lane that stand in another -/
def keepL (F xs : List Str) : List Str := F.filter fun c => decide (c ∈ xs)
/-- how many cars of the initial lane leave on the left and on the right -/
def lfV (H : Hp) (v : V) (xs F : List Str) : Prop :=
  if plcs F 0 xs = [] then v = .non else ∃ p, v = .ref p ∧ H p = some (.tup (if cutN xs (brg xs F) = keepL F xs then [.int (brg xs F).1, .int ((xs.length : Int) - (brg xs F).2)] else [.int (-1), .int (-1)]))
theorem eqv_nilI (ns : List Int) : PyData.eqv (.list (ns.map PyData.int)) (.list []) = decide (ns = []) := by
  cases ns with
  | nil => rfl
  | cons n r => rfl
theorem dp_ints' {K : PySem.W.Frag} {H : Hp} : ∀ ns : List Int, DpAll K H (ns.map V.int) (ns.map PyData.int)
  | [] => .nil
  | n :: r => .cons (.int n) (dp_ints' r)
theorem cut_sl {K : PySem.W.Frag} {H : Hp} {a : Addr} {xs : List Str} {p : Nat × Nat} {Q : VK} (hA : SqT K H a (xs.map V.str)) (h1 : p.1 ≤ xs.length) (h2 : p.2 ≤ xs.length)
    (q : ∀ H' z, L2.Same H H' → SqT K H' z ((cutN xs p).map V.str) → Q (.ref z) H') : rSlA K (.ref a) (some ((p.1 : Nat) : Int)) (some ((p.2 : Nat) : Int)) H Q := by
  have hcut : cutV (xs.map V.str) (some ((p.1 : Nat) : Int)) (some ((p.2 : Nat) : Int)) = (cutN xs p).map V.str := by
    rw [cutV_nat (by rw [List.length_map]; exact h1) (by rw [List.length_map]; exact h2)]
    unfold cutN
    rw [← List.map_take, ← List.map_drop]
  refine ⟨a, _, rfl, hA, fun hw => ?_, fun _ z hz => ?_⟩
  · refine q H a sm_refl ?_
    rw [HT.sIx_nat, HT.sIx_nat, List.length_map, Nat.min_eq_left h1, Nat.min_eq_left h2] at hw
    have e : cutN xs p = xs := by
      unfold cutN
      rw [hw.1, hw.2, List.take_length]
      rfl
    rw [e]
    exact hA
  · rw [hcut]
    exact q _ z (sm_new sm_refl hz) (SqT.of upd_same)
section
variable {P : Program} {w : World} {K : PySem.W.Frag} {mg : Str → Option Value} {base : Heap} {Ps : List Addr}
def spLeftF (K : PySem.W.Frag) : Sp := fun vs H Q _ => ∃ (a f : Addr) (xs F : List Str), vs = [.ref a, .ref f] ∧ TupD H a (xs.map V.str) ∧ TupD H f (F.map V.str) ∧ xs.length ≤ 300 ∧ F.length ≤ 300 ∧ (∀ x ∈ xs, carB x = true) ∧ (∀ x ∈ F, carB x = true) ∧
  ∀ (H' : Hp) (v : V), L2.Same H H' → lfV H' v xs F → Q v H'
end
end Ln


set_option Elab.async false
set_option linter.all false
set_option maxRecDepth 100000
set_option maxHeartbeats 8000000
namespace Ln
open PySem PySem.Spec PyProof.Rows L2 GxR
theorem sortsetB {K : PySem.W.Frag} {w : World} {H : Hp} {D : Addr} {ns : List Int} {Q : VK} (hD : SqL K H D (ns.map V.int)) (few : ns.length ≤ 1000) (rg : ∀ k ∈ ns, 0 ≤ k ∧ k < 60)
    (h : ∀ (H' : Hp) (p : Addr) (ms : List Int), L2.Same H H' → H' p = some (.lst (ms.map V.int)) → ms.Nodup → (∀ k, k ∈ ms ↔ k ∈ ns) → Q (.ref p) H') : rSetI K w [.ref D] H fun x H1 => rSortedSet w [x] H1 Q :=
  ⟨D, ns, rfl, hD, few, fun a L ha nd hm => ⟨a, _, _, rfl, upd_same, Nat.lt_of_le_of_lt (nd_len (M := (List.range 60).map fun n : Nat => (n : Int)) nd fun k hk => by
      obtain ⟨h1, h2⟩ := rg k ((hm k).mp hk)
      exact List.mem_map.mpr ⟨k.toNat, List.mem_range.mpr (by omega), by omega⟩) (by rw [List.length_map, List.length_range]; decide), fun ms p pw hm2 _ hp =>
    h _ p ms (sm_new (sm_new sm_refl ha) hp) upd_same (pw.imp fun {a b} q e => by omega) fun k => (hm2 k).trans decide_eq_true_iff⟩⟩
theorem cnt_take' : ∀ (es : List Ev) (n m j : Nat), cnt n es = some m → j ≤ es.length → ∃ k, cnt n (es.take j) = some k ∧ (k : Int) = endI n (es.take j)
  | [], n, m, j, _, hj => by
    have : j = 0 := by simpa using hj
    subst this
    exact ⟨n, rfl, rfl⟩
  | .inn c :: r, n, m, 0, _, _ => ⟨n, rfl, rfl⟩
  | .out :: r, n, m, 0, h, _ => ⟨n, rfl, rfl⟩
  | .inn c :: r, n, m, j + 1, h, hj => by
    obtain ⟨k, h1, h2⟩ := cnt_take' r (n + 1) m j h (by simpa using hj)
    exact ⟨k, h1, by rw [h2]; rfl⟩
  | .out :: r, n, m, j + 1, h, hj => by
    have h : (if 0 < n then cnt (n - 1) r else none) = some m := h
    by_cases q : 0 < n
    · rw [if_pos q] at h
      obtain ⟨k, h1, h2⟩ := cnt_take' r (n - 1) m j h (by simpa using hj)
      refine ⟨k, ?_, ?_⟩
      · show (if 0 < n then cnt (n - 1) (r.take j) else none) = some k
        rw [if_pos q, h1]
      · rw [h2]
        show endI ((n - 1 : Nat) : Int) (r.take j) = endI ((n : Int) - 1) (r.take j)
        rw [show ((n - 1 : Nat) : Int) = (n : Int) - 1 by omega]
    · rw [if_neg q] at h
      cases h
/-- the state behind i events -/
structure DS (xs F : List Str) (es : List Ev) (i : Nat) (ns : List Int) (run : List Str) (total : Int) (G : Prop) : Prop where
  eq : G ↔ dpR F (fun k => k ∈ ns) run total (es.drop i)
  nd : ns.Nodup
  rg : ∀ k ∈ ns, 0 ≤ k ∧ k ≤ total
  sz : (run.length : Int) + total = endI xs.length (es.take i)
  sub : ∀ x ∈ run, x ∈ F
  t0 : 0 ≤ total
theorem dpP_rg {F run : List Str} {ns : List Int} {total : Int} {e : Ev} (h : ∀ k ∈ ns, 0 ≤ k ∧ k ≤ total) (t0 : 0 ≤ total) {k : Int} (hk : dpP F (fun k => k ∈ ns) run total e k) : 0 ≤ k ∧ k ≤ dpT F total e := by
  cases e with
  | out =>
    have hk : (k ∈ ns ∧ k ≤ total - 1) ∨ (k + 1 ∈ ns ∧ k + 1 > 0) := hk
    show 0 ≤ k ∧ k ≤ total - 1
    rcases hk with ⟨h1, h2⟩ | ⟨h1, h2⟩
    · exact ⟨(h k h1).1, h2⟩
    · have := (h _ h1).2
      omega
  | inn c =>
    have hk : (if c ∈ F then (if run = [] then k = 0 ∨ k = total else if F.idxOf c < F.idxOf (run.headD c) then k ∈ ns ∧ k = 0 else k ∈ ns ∧ k = total) else k ∈ ns ∨ k - 1 ∈ ns) := hk
    show 0 ≤ k ∧ k ≤ (if c ∈ F then total else total + 1)
    by_cases hc : c ∈ F
    · rw [if_pos hc] at hk ⊢
      split at hk
      · rcases hk with z | z <;> omega
      · split at hk <;> exact h k hk.1
    · rw [if_neg hc] at hk ⊢
      rcases hk with z | z
      · have := h _ z
        omega
      · have := h _ z
        omega
theorem dpRun_sz {F run : List Str} {e : Ev} {total : Int} : ((dpRun F run e).length : Int) + dpT F total e = endI ((run.length : Int) + total) [e] := by
  cases e with
  | out =>
    show (run.length : Int) + (total - 1) = (run.length : Int) + total - 1
    omega
  | inn c =>
    show (((if c ∈ F then (if run = [] ∨ F.idxOf c < F.idxOf (run.headD c) then c :: run else run ++ [c]) else run) : List Str).length : Int) + (if c ∈ F then total else total + 1) = (run.length : Int) + total + 1
    by_cases hc : c ∈ F
    · rw [if_pos hc, if_pos hc]
      split
      · rw [List.length_cons]; omega
      · rw [List.length_append, List.length_singleton]; omega
    · rw [if_neg hc, if_neg hc]
      omega
theorem dpRun_sub {F run : List Str} {e : Ev} (h : ∀ x ∈ run, x ∈ F) : ∀ x ∈ dpRun F run e, x ∈ F := by
  cases e with
  | out => exact h
  | inn c =>
    intro x hx
    have hx : x ∈ (if c ∈ F then (if run = [] ∨ F.idxOf c < F.idxOf (run.headD c) then c :: run else run ++ [c]) else run) := hx
    by_cases hc : c ∈ F
    · rw [if_pos hc] at hx
      split at hx
      · rcases List.mem_cons.mp hx with z | z
        · rw [z]; exact hc
        · exact h x z
      · rcases List.mem_append.mp hx with z | z
        · exact h x z
        · rw [List.mem_singleton.mp z]; exact hc
    · rw [if_neg hc] at hx
      exact h x hx
section
variable {xs F run : List Str} {es : List Ev} {i : Nat} {ns ms : List Int} {total : Int} {G : Prop} {e : Ev}
theorem DS.no (S : DS xs F es i ns run total G) (he : es[i]? = some e) (hm : ∀ k, k ∈ ms ↔ dpP F (fun k => k ∈ ns) run total e k) (h : ms = [] ∨ dpT F total e < 0) : ¬ G := fun g => by
  have h2 := S.eq.mp g
  have hd : es.drop i = e :: es.drop (i + 1) := by
    obtain ⟨hi, h3⟩ := List.getElem?_eq_some_iff.mp he
    rw [List.drop_eq_getElem_cons hi, h3]
  rw [hd] at h2
  obtain ⟨⟨k, hk⟩, ht, _⟩ := h2
  rcases h with z | z
  · have := (hm k).mpr hk
    rw [z] at this
    cases this
  · omega
theorem DS.step {ns' : List Int} (S : DS xs F es i ns run total G) (he : es[i]? = some e) (hm : ∀ k, k ∈ ms ↔ dpP F (fun k => k ∈ ns) run total e k) (h1 : ms ≠ []) (h2 : 0 ≤ dpT F total e) (nd : ns'.Nodup)
    (hn : ∀ k, k ∈ ns' ↔ if dpRun F run e = [] then 0 ≤ k ∧ k ≤ dpT F total e else k ∈ ms) : DS xs F es (i + 1) ns' (dpRun F run e) (dpT F total e) G := by
  have hd : es.drop i = e :: es.drop (i + 1) := by
    obtain ⟨hi, h3⟩ := List.getElem?_eq_some_iff.mp he
    rw [List.drop_eq_getElem_cons hi, h3]
  have hP : (fun k => k ∈ ns') = dpN F (fun k => k ∈ ns) run total e := by
    funext k
    unfold dpN
    rw [propext (hn k)]
    by_cases q : dpRun F run e = []
    · rw [if_pos q, if_pos q]
    · rw [if_neg q, if_neg q, propext (hm k)]
  refine ⟨?_, nd, fun k hk => ?_, ?_, dpRun_sub S.sub, h2⟩
  · rw [S.eq, hd, hP]
    obtain ⟨k, hk⟩ := List.exists_mem_of_ne_nil _ h1
    exact ⟨fun ⟨_, _, z⟩ => z, fun z => ⟨⟨k, (hm k).mp hk⟩, h2, z⟩⟩
  · have := (hn k).mp hk
    split at this
    · exact this
    · exact dpP_rg S.rg S.t0 ((hm k).mp this)
  · rw [dpRun_sz, S.sz]
    have : es.take (i + 1) = es.take i ++ [e] := by rw [List.take_add_one, he]; rfl
    rw [this, endI_app]
theorem DS.cap {m : Nat} (S : DS xs F es i ns run total G) (ct : cnt xs.length es = some m) (cap : Capd 40 xs.length es) (hi : i ≤ es.length) : (run.length : Int) + total ≤ 40 := by
  obtain ⟨k, h1, h2⟩ := cnt_take' es xs.length m i ct hi
  have := cap i k h1
  rw [S.sz, ← h2]
  omega
theorem ds_start (hF : cutN xs (brg xs F) = keepL F xs) : DS xs F es 0 [((brg xs F).1 : Int)] (keepL F xs) ((xs.length : Int) - ((keepL F xs).length : Nat)) (dpR F (fun k => k = (brg xs F).1) (keepL F xs) ((xs.length : Int) - ((keepL F xs).length : Nat)) es) := by
  obtain ⟨A, M, C, e, hA, hC, hb1, hb2⟩ := brg_cut xs F
  rw [hb1] at hF
  have hl : xs.length = A.length + M.length + C.length := by rw [e, List.length_append, List.length_append]
  refine ⟨?_, by simp, fun k hk => ?_, ?_, fun x hx => (List.mem_filter.mp hx).1, ?_⟩
  · have : (fun k => k = ((brg xs F).1 : Int)) = fun k => k ∈ [((brg xs F).1 : Int)] := by
      funext k
      simp
    rw [this]
    rfl
  · rw [List.mem_singleton.mp hk, ← hF, hl, hb2]
    by_cases q : M = []
    · rw [if_pos q]
      show (0 : Int) ≤ ((0 : Nat) : Int) ∧ ((0 : Nat) : Int) ≤ _
      omega
    · rw [if_neg q]
      show (0 : Int) ≤ (A.length : Nat) ∧ ((A.length : Nat) : Int) ≤ _
      omega
  · show _ = (xs.length : Int)
    omega
  · rw [← hF, hl]
    omega
end
end Ln


set_option Elab.async false
set_option linter.all false
set_option maxRecDepth 100000
set_option maxHeartbeats 8000000
namespace Ln
open PySem PySem.Spec PyProof.Rows L2 GxR
theorem filt_takeG {α : Type} (xs : List α) (p : α → Bool) (i : Nat) (c : α) (h : xs[i]? = some c) : (xs.take (i + 1)).filter p = (xs.take i).filter p ++ if p c = true then [c] else [] := by
  rw [List.take_add_one, h, List.filter_append]
  congr 1
  show List.filter p [c] = _
  by_cases q : p c = true
  · rw [if_pos q, List.filter_cons_of_pos q]
    rfl
  · rw [if_neg q, List.filter_cons_of_neg q]
    rfl
theorem eqv_nilS (xs : List Str) : PyData.eqv (.list (xs.map PyData.str)) (.list []) = decide (xs = []) := by
  cases xs with
  | nil => rfl
  | cons n r => rfl
def dropL (F kn : List Str) : List Str := F.filter fun c => !decide (c ∈ kn)
theorem dropL_nil {F kn : List Str} : dropL F kn = [] ↔ ∀ c ∈ F, c ∈ kn := by
  unfold dropL
  rw [List.filter_eq_nil_iff]
  exact ⟨fun h c hc => by simpa using h c hc, fun h c hc => by simpa using h c hc⟩
theorem shaped_m11 (a b : Int) : SeqAt.shaped (.tuple [.int a, .int b]) = true := by
  unfold SeqAt.shaped
  rw [Bool.and_eq_true]
  exact ⟨rfl, rfl⟩
theorem nd_range (n : Nat) : ((List.range n).map fun i => (0 : Int) + ((i : Nat) : Int)).Nodup := List.pairwise_map.mpr (List.nodup_range.imp fun {a b} h z => h (by omega))
theorem mem_range0 {n : Nat} {k : Int} : k ∈ ((List.range n).map fun i => (0 : Int) + ((i : Nat) : Int)) ↔ 0 ≤ k ∧ k < n := by
  rw [List.mem_map]
  constructor
  · rintro ⟨i, hi, rfl⟩
    have := List.mem_range.mp hi
    omega
  · intro h
    exact ⟨k.toNat, List.mem_range.mpr (by omega), by omega⟩
section
variable {P : Program} {w : World} {K : PySem.W.Frag} {mg : Str → Option Value} {base : Heap} {Ps : List Addr}
def spCanAr (K : PySem.W.Frag) : Sp := fun vs H Q _ => ∃ (a l f : Addr) (xs : List Str) (as : List Addr) (es : List Ev) (F : List Str) (m : Nat), vs = [.ref a, .ref l, .ref f] ∧ TupD H a (xs.map V.str) ∧ H l = some (.lst (as.map V.ref)) ∧ EvT H as es ∧ TupD H f (F.map V.str) ∧ xs.length ≤ 100 ∧ es.length ≤ 200 ∧ F.length ≤ 300 ∧
  (∀ x ∈ xs, carB x = true) ∧ (∀ x ∈ F, carB x = true) ∧ cnt xs.length es = some m ∧ Capd 40 xs.length es ∧
  ∀ (H' : Hp) (b : Bool), L2.Same H H' → (b = true ↔ canAr xs es F) → Q (.bl b) H'
end
end Ln


set_option Elab.async false
set_option linter.all false
set_option maxRecDepth 100000
set_option maxHeartbeats 4000000
namespace Ln
open PySem PySem.Spec PyProof.Rows L2 GxR
theorem scSwitch : FnScope ["start", "log", "lane", "departed", "extra", "low", "high", "needed", "before", "since", "car", "moment", "side"] ["start", "log", "lane"] (defScope sSwitch) := ⟨rfl, rfl, rfl, by decide +kernel, rfl, by decide +kernel, by decide +kernel⟩
def bV : Option Str → V
  | none => .non
  | some c => .str c
theorem arrSt_mem {F : List Str} : ∀ {es : List Ev} {lo : Option Nat} {k : Nat}, ∀ r ∈ arrSt F lo k es, k ≤ r.2.1 ∧ r.2.1 < k + es.length
  | [], _, _, r, h => by cases h
  | .out :: q, lo, k, r, h => by
    have := arrSt_mem (es := q) (lo := lo) (k := k + 1) r h
    rw [List.length_cons]
    omega
  | .inn c :: q, lo, k, r, h => by
    have ih : ∀ lo', r ∈ arrSt F lo' (k + 1) q → k ≤ r.2.1 ∧ r.2.1 < k + (q.length + 1) := fun lo' h => by
      have := arrSt_mem (es := q) r h
      omega
    rw [List.length_cons]
    by_cases hc : c ∈ F
    · cases lo with
      | none =>
        have h : r ∈ (if c ∈ F then (c, k, none) :: arrSt F (some (F.idxOf c)) (k + 1) q else _) := h
        rw [if_pos hc] at h
        rcases List.mem_cons.mp h with e | h
        · rw [e]
          exact ⟨Nat.le_refl _, by show k < _; omega⟩
        · exact ih _ h
      | some l =>
        have h : r ∈ (if c ∈ F then (c, k, some (decide (F.idxOf c < l))) :: arrSt F (some l) (k + 1) q else _) := h
        rw [if_pos hc] at h
        rcases List.mem_cons.mp h with e | h
        · rw [e]
          exact ⟨Nat.le_refl _, by show k < _; omega⟩
        · exact ih _ h
    · have h : r ∈ (if c ∈ F then _ else arrSt F lo (k + 1) q) := h
      rw [if_neg hc] at h
      exact ih _ h
theorem ne_LR : ¬ ((Sum.inr ("L" : Str) : Key) = Sum.inr ("R" : Str)) := fun z => ne_RL (Sum.inr.inj z).symm
theorem nd_get (x y : V) : valV (mergeK [] [((Sum.inr ("L" : Str) : Key), x), (Sum.inr ("R" : Str), y)]) (Sum.inr "L") = some x ∧ valV (mergeK [] [((Sum.inr ("L" : Str) : Key), x), (Sum.inr ("R" : Str), y)]) (Sum.inr "R") = some y ∧ (mergeK [] [((Sum.inr ("L" : Str) : Key), x), (Sum.inr ("R" : Str), y)]).length ≤ 2 := by
  refine ⟨?_, ?_, (length_mergeK [((Sum.inr ("L" : Str) : Key), x), (Sum.inr ("R" : Str), y)] [] : _ ≤ 0 + 2)⟩
  · show valV (putK (putK ([] : List (Key × V)) (Sum.inr "L") x) (Sum.inr "R") y) _ = _
    rw [valV_put, if_neg ne_LR, valV_put, if_pos rfl]
  · show valV (putK (putK ([] : List (Key × V)) (Sum.inr "L") x) (Sum.inr "R") y) _ = _
    rw [valV_put, if_pos rfl]
theorem at_int {l : List Int} {m : Nat} (h : m < l.length) : atI (l.map V.int) ((m : Nat) : Int) = some (V.int (l.getD m 0)) := by
  refine atI_nat ?_
  rw [List.getElem?_map, List.getElem?_eq_getElem h, List.getD_eq_getElem?_getD, List.getElem?_eq_getElem h]
  rfl
section
variable {P : Program} {w : World} {K : PySem.W.Frag} {mg : Str → Option Value} {base : Heap} {Ps : List Addr}
def spSwitch (K : PySem.W.Frag) (Ps : List Addr) : Sp := fun vs H Q _ => ∃ (a l f : Addr) (xs : List Str) (as : List Addr) (es : List Ev) (F : List Str), vs = [.ref a, .ref l, .ref f] ∧ LaneAt K H a xs ∧ laneB xs = true ∧ LogAt K H l as es ∧ logB xs xs.length es = true ∧ TupD H f (F.map V.str) ∧ F.length ≤ 400 ∧ Tabs Ps H ∧
  (∀ H', Kp Ps H H' → swC xs es F = none → Q .non H') ∧ ∀ H' p b c, Kp Ps H H' → H p = none → swC xs es F = some (b, c) → H' p = some (.tup [.str "switch", bV b, .str c]) → Q (.ref p) H'
theorem ok_switch {f fD fX fB fA fO : Addr} {fd fdD fdX fdB fdA fdO : FuncData} (F : Fun K "switch_conflict" "switch_conflict" sSwitch f fd) (B : Bi mg)
    (GD : FnOk P w K mg base CX0 1 fD fdD ["log"] (spDepC K Ps)) (mgD : mg "departure_counts" = some (.ref fD)) (kD : PySem.W.keepIn K (.ref fD) = true) (bD : Binds K fdD ["log"] [])
    (GX : FnOk P w K mg base CX0 9 fX fdX ["start", "log", "cars"] (spExtras K Ps)) (mgX : mg "extras" = some (.ref fX)) (kX : PySem.W.keepIn K (.ref fX) = true) (bX : Binds K fdX ["start", "log", "cars"] [])
    (GB : FnOk P w K mg base CX0 1 fB fdB ["start", "cars"] (spBlockR K Ps)) (mgB : mg "block_range" = some (.ref fB)) (kB : PySem.W.keepIn K (.ref fB) = true) (bB : Binds K fdB ["start", "cars"] [])
    (GA : FnOk P w K mg base CX0 2 fA fdA ["start", "log", "lane"] (spArrSt K Ps)) (mgA : mg "arriving_stayers" = some (.ref fA)) (kA : PySem.W.keepIn K (.ref fA) = true) (bA : Binds K fdA ["start", "log", "lane"] [])
    (GO : FnOk P w K mg base CX0 1 fO fdO ["side"] spOpp) (mgO : mg "opposite" = some (.ref fO)) (kO : PySem.W.keepIn K (.ref fO) = true) (bO : Binds K fdO ["side"] []) : FnOk P w K mg base CX0 10 f fd ["start", "log", "lane"] (spSwitch K Ps) := by
  refine F.ok scSwitch (fun vs H Q E h => ?_) (fun cdv A outer s H vs Q E hr h => ?_)
  · obtain ⟨a, l, f, xs, as, es, F, rfl, _⟩ := h
    rfl
  · obtain ⟨a, l, f, xs, as, es, F, rfl, hL, hB, hE, hB2, hF, few, hT, qn, qs⟩ := h
    have hu := hu_of hr
    refine ⟨_, pss_cons (ps_set (i := 3) scSwitch.nd rfl (.inl rfl) (pe_call GD (hr.mono (by decide)) (by rfl) mgD kD bD .nil pass0 (pa_cons (pv 1) pa_nil)))
      (pss_cons (ps_set (i := 4) scSwitch.nd rfl (.inl rfl) (pe_call GX hr (by rfl) mgX kX bX .nil pass0 (pa_cons (pv 0) (pa_cons (pv 1) (pa_cons (pv 2) pa_nil)))))
      (pss_cons (ps_asg (pe_call GB (hr.mono (by decide)) (by rfl) mgB kB bB .nil pass0 (pa_cons (pv 0) (pa_cons (pv 2) pa_nil))) (pg_tup (by rfl) (pgs_cons (pg_name (i := 5) scSwitch.nd rfl (.inl rfl)) (pgs_cons (pg_name (i := 6) scSwitch.nd rfl (.inl rfl)) pgs_nil))))
      (pss_cons (ps_set (i := 7) scSwitch.nd rfl (.inl rfl) (pe_disp (pps_cons pe_str (pv 5) (pps_cons pe_str (pe_op op_sub (pe_callB call_len_seq (by rfl) B.len PySem.boot_len (pa_cons (pv 0) pa_nil)) (pv 6)) pps_nil)) (by rfl) (by rfl) (fun z => by cases z) (by decide)))
      (pss_cons (ps_set (i := 8) scSwitch.nd rfl (.inl rfl) pe_non)
      (pss_cons (ps_set (i := 9) scSwitch.nd rfl (.inl rfl) pe_int)
      (pss_cons (ps_for PassesOwn.never rfl (pi_list (pe_call GA (hr.mono (by decide)) (by rfl) mgA kA bA .nil pass0 (pa_cons (pv 0) (pa_cons (pv 1) (pa_cons (pv 2) pa_nil)))))
          (pg_tup rfl (pgs_cons (pg_name (i := 10) scSwitch.nd rfl (.inl rfl)) (pgs_cons (pg_name (i := 11) scSwitch.nd rfl (.inl rfl)) (pgs_cons (pg_name (i := 12) scSwitch.nd rfl (.inl rfl)) pgs_nil))))
        (pss_cons (ps_if (PW.pt (pw_and (pt_cmpR op_notN (pv 12) pe_non (nomark _)) (pw_and1 (pt_cmpR op_lt (pe_op op_sub (pe_ix ix_list (pv 3) (pv 11) (fun _ _ => rfl)) (pe_ix ix_list (pv 3) (pv 9) (fun _ _ => rfl))) (pe_dget hu (pv 7) (pv 12) (fun _ _ => rfl)) (nomark _)))))
            (pss_one (ps_ret (pe_tup (pa_cons pe_str (pa_cons (pv 8) (pa_cons (pv 10) pa_nil)))))) pss_nil)
        (pss_cons (ps_set (i := 7) scSwitch.nd rfl (.inl rfl) (pe_disp (pps_cons pe_str pe_int (pps_cons pe_str pe_int pps_nil)) (by rfl) (by rfl) (fun z => by cases z) (by decide)))
        (pss_cons (ps_if (pt_cmpR op_notN (pv 12) pe_non (nomark _)) (pss_one (ps_dput hu (pv 7) (pe_call GO (hr.mono (by decide)) (by rfl) mgO kO bO .nil pass0 (pa_cons (pv 12) pa_nil)) (pe_ix ix_list (pv 4) (pv 11) (fun _ _ => rfl)) rfl)) pss_nil)
        (pss_cons (ps_set (i := 8) scSwitch.nd rfl (.inl rfl) (pv 10))
        (pss_one (ps_set (i := 9) scSwitch.nd rfl (.inl rfl) (pv 11))))))))
      (pss_one (ps_ret pe_non)))))))), ?_⟩
    have few2 := hE.few
    -- departed, extra
    refine ⟨.ref l, rfl, l, as, es, rfl, hE, hT, fun H1 d k1 hd hd1 => ?_⟩
    refine ⟨.ref a, rfl, .ref l, rfl, .ref f, rfl, a, l, f, xs, as, es, F, rfl, hL.kp k1 hT, hB, hE.kp k1 hT, hB2, (hF.kp k1 hT).sq, k1.tab, fun H2 x k2' hx hx2 => ?_⟩
    have k2 := k1.trans k2'
    have hd2 := k2'.lst k1.tab hd1
    -- low, high
    refine ⟨.ref a, rfl, .ref f, rfl, a, f, xs, F, rfl, (hL.kp k2 hT).at_, (hF.kp k2 hT).sq, hL.few, k2.tab, fun H3 p k3' hp hp3 => ⟨p, _, rfl, SqT.of hp3, rfl, _, _, rfl, _, _, rfl, rfl, ?_⟩⟩
    have k3 := k2.trans k3'
    have hd3 := k3'.lst k2.tab hd2
    have hx3 := k3'.lst k2.tab hx2
    -- needed
    intro n hn
    have hn0 : H n = none := k3.free hT hn
    have k4a : Kp Ps H (L2.upd H3 n (.dK [])) := k3.upd hT hn0
    refine ⟨_, rfl, .ref a, rfl, a, _, rfl, .inr (hL.kp k4a hT).at_, _, rfl, _, _, rfl, rfl, upd_same, [(Sum.inr "L", .int (brg xs F).1), (Sum.inr "R", .int ((xs.length : Int) - (brg xs F).2))], ?_, (by show 2 ≤ 15; decide), ?_⟩
    · rw [List.length_map]
      rfl
    obtain ⟨g1, g2, g3⟩ := nd_get (.int (brg xs F).1) (.int ((xs.length : Int) - (brg xs F).2))
    generalize mergeK [] [((Sum.inr ("L" : Str) : Key), V.int (brg xs F).1), (Sum.inr "R", V.int ((xs.length : Int) - (brg xs F).2))] = kvs0 at g1 g2 g3 ⊢
    have k4 := k4a.upd (o := .dK kvs0) hT hn0
    have ndn : d ≠ n := ne_of_none hd3 hn
    have nxn : x ≠ n := ne_of_none hx3 hn
    have hd4 : (L2.upd (L2.upd H3 n (.dK [])) n (.dK kvs0)) d = some (.lst ((depL 0 es).map V.int)) := by rw [upd_ne ndn, upd_ne ndn]; exact hd3
    have hx4 : (L2.upd (L2.upd H3 n (.dK [])) n (.dK kvs0)) x = some (.lst ((ext0 xs F es).map V.int)) := by rw [upd_ne nxn, upd_ne nxn]; exact hx3
    have hn4 : (L2.upd (L2.upd H3 n (.dK [])) n (.dK kvs0)) n = some (.dK kvs0) := upd_same
    generalize L2.upd (L2.upd H3 n (.dK [])) n (.dK kvs0) = H4 at k4 hd4 hx4 hn4 ⊢
    have ndT : n ∉ Ps := fun z => by
      obtain ⟨ps, e, _⟩ := k4.tab n z
      rw [hn4] at e
      cases e
    -- the stayers that arrive
    refine ⟨.ref a, rfl, .ref l, rfl, .ref f, rfl, a, l, f, xs, as, es, F, rfl, (hL.kp k4 hT).at_, hE.kp k4 hT, hF.kp k4 hT, few, k4.tab, fun H5 u ts k5' hu0 hu5 hst => ?_⟩
    have k5 := k4.trans k5'
    have hd5 := k5'.lst k4.tab hd4
    have hx5 := k5'.lst k4.tab hx4
    have hn5 : H5 n = some (.dK kvs0) := k5'.at_ n _ hn4 ndT
    have hbd : ∀ r ∈ arrSt F (lo0 (brg F xs)) 1 es, r.2.1 ≤ es.length := fun r hr => by
      have := arrSt_mem r hr
      omega
    have hsw : swC xs es F = swF (depL 0 es) (ext0 xs F es) (brg xs F).1 ((xs.length : Int) - (brg xs F).2) none 0 (arrSt F (lo0 (brg F xs)) 1 es) := rfl
    generalize arrSt F (lo0 (brg F xs)) 1 es = rs at hst hbd hsw
    have hld : (depL 0 es).length = es.length + 1 := depL_len 0 es
    have hlx : (ext0 xs F es).length = es.length + 1 := extL_len _ _ es
    generalize depL 0 es = dep at hd5 hsw hld
    generalize ext0 xs F es = ex at hx5 hsw hlx
    have htl := Paired.length hst
    refine ⟨u, rfl, ⟨_, SqL.of hu5⟩, for_list (K := K) (a := u) (xs := ts.map V.ref) (fun i σ H' => ∃ (n : Addr) (kvs : List (Key × V)) (nL nR : Int) (b : Option Str) (sc : Nat) (v10 v11 v12 : Option V) (lI hI : V),
      σ = [some (.ref a), some (.ref l), some (.ref f), some (.ref d), some (.ref x), some lI, some hI, some (.ref n), some (bV b), some (.int (sc : Nat)), v10, v11, v12] ∧ Kp Ps H H' ∧ i ≤ ts.length ∧ H' d = some (.lst (dep.map V.int)) ∧ H' x = some (.lst (ex.map V.int)) ∧ H' u = some (.lst (ts.map V.ref)) ∧ StsT H' ts rs ∧
        H n = none ∧ H' n = some (.dK kvs) ∧ valV kvs (Sum.inr "L") = some (.int nL) ∧ valV kvs (Sum.inr "R") = some (.int nR) ∧ sc ≤ es.length ∧ swC xs es F = swF dep ex nL nR b sc (rs.drop i)) ?_ ?_ ?_ ?_⟩
    · exact ⟨n, kvs0, _, _, none, 0, none, none, none, _, _, rfl, k5, Nat.zero_le _, hd5, hx5, hu5, hst, hn0, hn5, g1, g2, Nat.zero_le _, hsw⟩
    · rintro i σ H' _ ⟨_, _, _, _, _, _, _, _, _, _, _, _, _, _, _, _, h, _⟩
      exact SqL.of h
    · rintro i y σ H' hi ⟨n, kvs, nL, nR, b, sc, v10, v11, v12, lI, hI, rfl, kp, hie, hd', hx', hu', hst', hn0, hn', gL, gR, hsc, hrest⟩
      have hlt : i < ts.length := by
        have h1 := (List.getElem?_eq_some_iff.mp hi).1
        rw [List.length_map] at h1
        omega
      have hlr : i < rs.length := by omega
      obtain ⟨t, htt, hty⟩ := pair_at hst' i _ (List.getElem?_eq_getElem hlr)
      have hy : y = .ref t := by
        rw [List.getElem?_map, htt] at hi
        exact (Option.some.inj hi).symm
      subst hy
      have hm := hbd _ (List.getElem_mem hlr)
      have hdrop : rs.drop i = rs[i] :: rs.drop (i + 1) := List.drop_eq_getElem_cons hlr
      rw [hdrop] at hrest
      generalize hr0 : rs[i] = r at hty hm hrest
      obtain ⟨c, m, sd⟩ := r
      have hm : m ≤ es.length := hm
      have hrest : swC xs es F = (if tooFew nL nR (dep.getD m 0 - dep.getD sc 0) sd = true then some (b, c) else swF dep ex (needL (ex.getD m 0) sd) (needR (ex.getD m 0) sd) (some c) m (rs.drop (i + 1))) := hrest
      have hty : H' t = some (.tup [.str c, .int (m : Nat), sdV sd]) := hty
      refine ⟨t, _, rfl, SqT.of hty, rfl, _, _, rfl, _, _, rfl, _, _, rfl, rfl, ?_⟩
      have hSd : SqL K H' d (dep.map V.int) := SqL.of hd'
      have hSx : SqL K H' x (ex.map V.int) := SqL.of hx'
      have fresh : ∀ (n2 : Addr) (kvs2 kvs3 : List (Key × V)), H' n2 = none → ∀ H2 : Hp, (H2 = L2.upd (L2.upd H' n2 (.dK [])) n2 (.dK kvs2) ∨ H2 = L2.upd (L2.upd (L2.upd H' n2 (.dK [])) n2 (.dK kvs3)) n2 (.dK kvs2)) →
          Kp Ps H H2 ∧ H2 d = some (.lst (dep.map V.int)) ∧ H2 x = some (.lst (ex.map V.int)) ∧ H2 u = some (.lst (ts.map V.ref)) ∧ StsT H2 ts rs ∧ H n2 = none ∧ H2 n2 = some (.dK kvs2) := fun n2 kvs2 kvs3 h2 H2 e2 => by
        have h20 : H n2 = none := kp.free hT h2
        have nd : d ≠ n2 := ne_of_none hd' h2
        have nx : x ≠ n2 := ne_of_none hx' h2
        have nu : u ≠ n2 := ne_of_none hu' h2
        have kt1 : KT H' (L2.upd H' n2 (.dK [])) := KT.upd fun xs e => by rw [h2] at e; cases e
        have kt2 : ∀ kv, KT (L2.upd H' n2 (.dK [])) (L2.upd (L2.upd H' n2 (.dK [])) n2 (.dK kv)) := fun kv => KT.upd fun xs e => by rw [upd_same] at e; cases e
        have kt3 : ∀ kv kv', KT (L2.upd (L2.upd H' n2 (.dK [])) n2 (.dK kv)) (L2.upd (L2.upd (L2.upd H' n2 (.dK [])) n2 (.dK kv)) n2 (.dK kv')) := fun kv kv' => KT.upd fun xs e => by rw [upd_same] at e; cases e
        rcases e2 with rfl | rfl
        · exact ⟨(kp.upd hT h20).upd hT h20, by rw [upd_ne nd, upd_ne nd]; exact hd', by rw [upd_ne nx, upd_ne nx]; exact hx', by rw [upd_ne nu, upd_ne nu]; exact hu', (hst'.kt kt1).kt (kt2 _), h20, upd_same⟩
        · exact ⟨((kp.upd hT h20).upd hT h20).upd hT h20, by rw [upd_ne nd, upd_ne nd, upd_ne nd]; exact hd', by rw [upd_ne nx, upd_ne nx, upd_ne nx]; exact hx', by rw [upd_ne nu, upd_ne nu, upd_ne nu]; exact hu', ((hst'.kt kt1).kt (kt2 _)).kt (kt3 _ _), h20, upd_same⟩
      have conf : tooFew nL nR (dep.getD m 0 - dep.getD sc 0) sd = true → ∀ p, H' p = none → Q (.ref p) (L2.upd H' p (.tup [.str "switch", bV b, .str c])) := fun ht p hp => by
        rw [if_pos ht] at hrest
        have hp0 : H p = none := kp.free hT hp
        exact qs _ p b c (kp.upd hT hp0) hp0 hrest upd_same
      cases sd with
      | none =>
        have hrest : swC xs es F = swF dep ex 0 0 (some c) m (rs.drop (i + 1)) := hrest
        refine ⟨_, rfl, rfl, _, rfl, iteF (iteF ?_)⟩
        intro n2 hn2
        refine ⟨upd_same, [(Sum.inr "L", .int 0), (Sum.inr "R", .int 0)], rfl, (by show 2 ≤ 15; decide), ?_⟩
        obtain ⟨g1, g2, g3⟩ := nd_get (.int 0) (.int 0)
        obtain ⟨f1, f2, f3, f4, f5, f6, f7⟩ := fresh n2 _ [] hn2 _ (.inl rfl)
        refine ⟨_, rfl, rfl, _, rfl, iteF ?_⟩
        refine ⟨_, rfl, _, rfl, ?_⟩
        exact ⟨n2, _, 0, 0, some c, m, _, _, _, _, _, rfl, f1, hlt, f2, f3, f4, f5, f6, f7, g1, g2, hm, hrest⟩
      | some sb =>
        cases sb with
        | true =>
          refine ⟨_, rfl, rfl, _, rfl, ?_⟩
          rw [decide_eq_false (show ¬ (sdV (some true) = V.non) from fun z => by cases z)]
          refine iteT ⟨.ref d, rfl, _, rfl, d, _, _, _, rfl, rfl, hSd, at_int (by omega), .ref d, rfl, _, rfl, d, _, _, _, rfl, rfl, hSd, at_int (by omega), _, _, rfl, rfl, .ref n, rfl, _, rfl, n, _, rfl, (by rw [← gL]; exact DGet.k (k := Sum.inr "L") hn'), _, _, rfl, rfl, _, rfl, ?_⟩
          refine ite2 (fun h => ?_) (fun h => ?_)
          · exact ⟨_, rfl, _, rfl, by show 3 ≤ sizeLine; decide, fun p hp => conf h p hp⟩
          · have ht : tooFew nL nR (dep.getD m 0 - dep.getD sc 0) (some true) = false := Bool.eq_false_iff.mpr h
            rw [ht] at hrest
            have hrest : swC xs es F = swF dep ex 0 (ex.getD m 0) (some c) m (rs.drop (i + 1)) := hrest
            intro n2 hn2
            refine ⟨upd_same, [(Sum.inr "L", .int 0), (Sum.inr "R", .int 0)], rfl, (by show 2 ≤ 15; decide), ?_⟩
            obtain ⟨g1, g2, g3⟩ := nd_get (.int 0) (.int 0)
            obtain ⟨f1, f2, f3, f4, f5, f6, f7⟩ := fresh n2 _ [] hn2 _ (.inl rfl)
            refine ⟨_, rfl, rfl, _, rfl, ?_⟩
            rw [decide_eq_false (show ¬ (sdV (some true) = V.non) from fun z => by cases z)]
            refine iteT ⟨.ref x, rfl, _, rfl, x, _, _, _, rfl, rfl, SqL.of f3, at_int (by omega), .ref n2, rfl, _, rfl, "L", rfl, ?_⟩
            rw [if_pos rfl]
            refine ⟨n2, _, rfl, DPut.k (k := Sum.inr "R") f7 (by exact Nat.lt_of_le_of_lt g3 (by decide)), ?_⟩
            obtain ⟨e1, e2, e3, e4, e5, e6, e7⟩ := fresh n2 (putK _ (Sum.inr "R") (.int (ex.getD m 0))) _ hn2 _ (.inr rfl)
            refine ⟨_, rfl, _, rfl, ?_⟩
            exact ⟨n2, _, 0, _, some c, m, _, _, _, _, _, rfl, e1, hlt, e2, e3, e4, e5, e6, e7, by rw [valV_put, if_neg ne_LR]; exact g1, by rw [valV_put, if_pos rfl], hm, hrest⟩
        | false =>
          refine ⟨_, rfl, rfl, _, rfl, ?_⟩
          rw [decide_eq_false (show ¬ (sdV (some false) = V.non) from fun z => by cases z)]
          refine iteT ⟨.ref d, rfl, _, rfl, d, _, _, _, rfl, rfl, hSd, at_int (by omega), .ref d, rfl, _, rfl, d, _, _, _, rfl, rfl, hSd, at_int (by omega), _, _, rfl, rfl, .ref n, rfl, _, rfl, n, _, rfl, (by rw [← gR]; exact DGet.k (k := Sum.inr "R") hn'), _, _, rfl, rfl, _, rfl, ?_⟩
          refine ite2 (fun h => ?_) (fun h => ?_)
          · exact ⟨_, rfl, _, rfl, by show 3 ≤ sizeLine; decide, fun p hp => conf h p hp⟩
          · have ht : tooFew nL nR (dep.getD m 0 - dep.getD sc 0) (some false) = false := Bool.eq_false_iff.mpr h
            rw [ht] at hrest
            have hrest : swC xs es F = swF dep ex (ex.getD m 0) 0 (some c) m (rs.drop (i + 1)) := hrest
            intro n2 hn2
            refine ⟨upd_same, [(Sum.inr "L", .int 0), (Sum.inr "R", .int 0)], rfl, (by show 2 ≤ 15; decide), ?_⟩
            obtain ⟨g1, g2, g3⟩ := nd_get (.int 0) (.int 0)
            obtain ⟨f1, f2, f3, f4, f5, f6, f7⟩ := fresh n2 _ [] hn2 _ (.inl rfl)
            refine ⟨_, rfl, rfl, _, rfl, ?_⟩
            rw [decide_eq_false (show ¬ (sdV (some false) = V.non) from fun z => by cases z)]
            refine iteT ⟨.ref x, rfl, _, rfl, x, _, _, _, rfl, rfl, SqL.of f3, at_int (by omega), .ref n2, rfl, _, rfl, "R", rfl, ?_⟩
            rw [if_neg ne_RL]
            refine ⟨n2, _, rfl, DPut.k (k := Sum.inr "L") f7 (by exact Nat.lt_of_le_of_lt g3 (by decide)), ?_⟩
            obtain ⟨e1, e2, e3, e4, e5, e6, e7⟩ := fresh n2 (putK _ (Sum.inr "L") (.int (ex.getD m 0))) _ hn2 _ (.inr rfl)
            refine ⟨_, rfl, _, rfl, ?_⟩
            exact ⟨n2, _, _, 0, some c, m, _, _, _, _, _, rfl, e1, hlt, e2, e3, e4, e5, e6, e7, by rw [valV_put, if_pos rfl], by rw [valV_put, if_neg (fun z => ne_LR z.symm)]; exact g2, hm, hrest⟩
    · rintro σ H' ⟨n, kvs, nL, nR, b, sc, v10, v11, v12, lI, hI, rfl, kp, hie, hd', hx', hu', hst', hn0, hn', gL, gR, hsc, hrest⟩
      rw [List.length_map, htl, List.drop_length] at hrest
      exact qn H' kp hrest
end
end Ln


set_option Elab.async false
set_option linter.all false
set_option maxRecDepth 100000
set_option maxHeartbeats 4000000
namespace Ln
open PySem PySem.Spec PyProof.Rows L2 GxR
theorem scWhyNot : FnScope ["start", "log", "lane", "peak", "moment"] ["start", "log", "lane"] (defScope sWhyNot) := ⟨rfl, rfl, rfl, by decide +kernel, rfl, by decide +kernel, by decide +kernel⟩
theorem scIsPoss : FnScope ["start", "log", "lane"] ["start", "log", "lane"] (defScope sIsPoss) := ⟨rfl, rfl, rfl, by decide +kernel, rfl, by decide +kernel, by decide +kernel⟩
/-- the reason as a tuple's items -/
def whyT : Why → Option (List V)
  | .ok => none
  | .cars => some [.str "cars"]
  | .block => some [.str "block"]
  | .order i => some [.str "order", .int (i : Nat)]
  | .moment t => some [.str "moment", .int (t : Nat)]
  | .switch b c => some [.str "switch", bV b, .str c]
def WhyV (H H' : Hp) (v : V) : Option (List V) → Prop
  | none => v = .non
  | some l => ∃ p, v = .ref p ∧ H p = none ∧ H' p = some (.tup l)
section
variable {P : Program} {w : World} {K : PySem.W.Frag} {mg : Str → Option Value} {base : Heap} {Ps : List Addr}
def spWhy (K : PySem.W.Frag) (Ps : List Addr) : Sp := fun vs H Q _ => ∃ (a l f : Addr) (xs : List Str) (as : List Addr) (es : List Ev) (F : List Str), vs = [.ref a, .ref l, .ref f] ∧ LaneAt K H a xs ∧ laneB xs = true ∧ LogAt K H l as es ∧ logB xs xs.length es = true ∧ LaneAt K H f F ∧ laneB F = true ∧ TupD H f (F.map V.str) ∧ Tabs Ps H ∧
  ∀ H' v, Kp Ps H H' → WhyV H H' v (whyT (why xs es F)) → Q v H'
theorem ok_why {f fR fC fB fP fN fM fX fS : Addr} {fd fdR fdC fdB fdP fdN fdM fdX fdS : FuncData} (F : Fun K "why_not" "why_not" sWhyNot f fd)
    (GR : FnOk P w K mg base CX0 8 fR fdR ["start", "log", "lane"] (spReqFin K Ps)) (mgR : mg "require_final_lane" = some (.ref fR)) (kR : PySem.W.keepIn K (.ref fR) = true) (bR : Binds K fdR ["start", "log", "lane"] [])
    (GC : FnOk P w K mg base CX0 9 fC fdC ["start", "log", "lane"] (spHasRC K Ps)) (mgC : mg "has_right_cars" = some (.ref fC)) (kC : PySem.W.keepIn K (.ref fC) = true) (bC : Binds K fdC ["start", "log", "lane"] [])
    (GB : FnOk P w K mg base CX0 2 fB fdB ["start", "lane"] (spHasBlk K Ps)) (mgB : mg "has_block" = some (.ref fB)) (kB : PySem.W.keepIn K (.ref fB) = true) (bB : Binds K fdB ["start", "lane"] [])
    (GP : FnOk P w K mg base CX0 1 fP fdP ["known", "lane"] (spFirstPk K Ps)) (mgP : mg "first_peak" = some (.ref fP)) (kP : PySem.W.keepIn K (.ref fP) = true) (bP : Binds K fdP ["known", "lane"] [])
    (GN : FnOk P w K mg base CX0 8 fN fdN ["start", "log"] (spNumbers K Ps)) (mgN : mg "numbers" = some (.ref fN)) (kN : PySem.W.keepIn K (.ref fN) = true) (bN : Binds K fdN ["start", "log"] [])
    (GM : FnOk P w K mg base CX0 1 fM fdM ["counts"] (spFirstNeg K Ps)) (mgM : mg "first_negative" = some (.ref fM)) (kM : PySem.W.keepIn K (.ref fM) = true) (bM : Binds K fdM ["counts"] [])
    (GX : FnOk P w K mg base CX0 9 fX fdX ["start", "log", "cars"] (spExtras K Ps)) (mgX : mg "extras" = some (.ref fX)) (kX : PySem.W.keepIn K (.ref fX) = true) (bX : Binds K fdX ["start", "log", "cars"] [])
    (GS : FnOk P w K mg base CX0 10 fS fdS ["start", "log", "lane"] (spSwitch K Ps)) (mgS : mg "switch_conflict" = some (.ref fS)) (kS : PySem.W.keepIn K (.ref fS) = true) (bS : Binds K fdS ["start", "log", "lane"] []) :
    FnOk P w K mg base CX0 11 f fd ["start", "log", "lane"] (spWhy K Ps) := by
  refine F.ok scWhyNot (fun vs H Q E h => ?_) (fun cdv A outer s H vs Q E hr h => ?_)
  · obtain ⟨a, l, f, xs, as, es, F, rfl, _⟩ := h
    rfl
  · obtain ⟨a, l, f, xs, as, es, F, rfl, hL, hB, hE, hB2, hF, hFB, hFD, hT, q⟩ := h
    refine ⟨_, pss_cons (ps_expr (pe_call GR (hr.mono (by decide)) (by rfl) mgR kR bR .nil pass0 (pa_cons (pv 0) (pa_cons (pv 1) (pa_cons (pv 2) pa_nil)))))
      (pss_cons (ps_if (pt_not (pt_val (pe_call GC (hr.mono (by decide)) (by rfl) mgC kC bC .nil pass0 (pa_cons (pv 0) (pa_cons (pv 1) (pa_cons (pv 2) pa_nil)))))) (pss_one (ps_ret (pe_tup (pa_cons pe_str pa_nil)))) pss_nil)
      (pss_cons (ps_if (pt_not (pt_val (pe_call GB (hr.mono (by decide)) (by rfl) mgB kB bB .nil pass0 (pa_cons (pv 0) (pa_cons (pv 2) pa_nil))))) (pss_one (ps_ret (pe_tup (pa_cons pe_str pa_nil)))) pss_nil)
      (pss_cons (ps_set (i := 3) scWhyNot.nd rfl (.inl rfl) (pe_call GP (hr.mono (by decide)) (by rfl) mgP kP bP .nil pass0 (pa_cons (pe_call GN (hr.mono (by decide)) (by rfl) mgN kN bN .nil pass0 (pa_cons (pv 0) (pa_cons (pv 1) pa_nil))) (pa_cons (pv 2) pa_nil))))
      (pss_cons (ps_if (pt_cmpR op_notN (pv 3) pe_non (nomark _)) (pss_one (ps_ret (pe_tup (pa_cons pe_str (pa_cons (pv 3) pa_nil))))) pss_nil)
      (pss_cons (ps_set (i := 4) scWhyNot.nd rfl (.inl rfl) (pe_call GM (hr.mono (by decide)) (by rfl) mgM kM bM .nil pass0 (pa_cons (pe_call GX (hr.mono (by decide)) (by rfl) mgX kX bX .nil pass0 (pa_cons (pv 0) (pa_cons (pv 1) (pa_cons (pv 2) pa_nil)))) pa_nil)))
      (pss_cons (ps_if (pt_cmpR op_notN (pv 4) pe_non (nomark _)) (pss_one (ps_ret (pe_tup (pa_cons pe_str (pa_cons (pv 4) pa_nil))))) pss_nil)
      (pss_one (ps_ret (pe_call GS hr (by rfl) mgS kS bS .nil pass0 (pa_cons (pv 0) (pa_cons (pv 1) (pa_cons (pv 2) pa_nil)))))))))))), ?_⟩
    have new : ∀ {H1 : Hp} {p : Addr} {ys : List V}, Kp Ps H H1 → H1 p = none → whyT (why xs es F) = some ys → Q (.ref p) (L2.upd H1 p (.tup ys)) := fun {H1 p ys} k hp e => by
      have hp0 : H p = none := k.free hT hp
      refine q _ _ (k.upd hT hp0) ?_
      rw [e]
      exact ⟨p, rfl, hp0, upd_same⟩
    -- the arguments
    refine ⟨.ref a, rfl, .ref l, rfl, .ref f, rfl, a, l, f, xs, as, es, F, rfl, hL, hB, hE, hB2, hF, hFB, hT, fun H1 k1 => ?_⟩
    -- cars
    refine ⟨.ref a, rfl, .ref l, rfl, .ref f, rfl, a, l, f, xs, as, es, F, rfl, hL.kp k1 hT, hB, hE.kp k1 hT, hB2, (hF.kp k1 hT).at_, k1.tab, fun H2 k2' => ⟨_, rfl, ?_⟩⟩
    have k2 := k1.trans k2'
    cases hc : carsOk xs es F with
    | false =>
      refine iteT ⟨by show 1 ≤ sizeLine; decide, fun p hp => new k2 hp ?_⟩
      unfold why
      rw [if_pos hc]
      rfl
    | true =>
    have w1 : why xs es F = if hasBlk xs F = false then .block else match fpk (F.map fun c => (xs ++ arrs es).idxOf c) with
      | some i => .order i
      | none => match fneg (ext0 xs F es) with
        | some t => .moment t
        | none => match swC xs es F with
          | some (b, c) => .switch b c
          | none => .ok := by
      unfold why
      rw [if_neg (by rw [hc]; decide)]
      try rfl
    refine iteF ?_
    -- block
    refine ⟨.ref a, rfl, .ref f, rfl, a, f, xs, F, rfl, (hL.kp k2 hT).at_, (hF.kp k2 hT).at_, hL.few, hF.few, carsOf hB, carsOf hFB, k2.tab, fun H3 k3' => ⟨_, rfl, ?_⟩⟩
    have k3 := k2.trans k3'
    cases hb : hasBlk xs F with
    | false =>
      refine iteT ⟨by show 1 ≤ sizeLine; decide, fun p hp => new k3 hp ?_⟩
      rw [w1, if_pos hb]
      rfl
    | true =>
    rw [if_neg (by rw [hb]; decide)] at w1
    refine iteF ?_
    -- order
    refine ⟨.ref a, rfl, .ref l, rfl, a, l, xs, as, es, rfl, hL.kp k3 hT, hB, hE.kp k3 hT, hB2, k3.tab, fun H4 kn k4' _ hkn => ?_⟩
    have k4 := k3.trans k4'
    have hall : ∀ c ∈ F, c ∈ xs ++ arrs es := fun c hcF => by
      unfold carsOk at hc
      rw [Bool.and_eq_true] at hc
      exact of_decide_eq_true (List.all_eq_true.mp hc.2 c hcF)
    refine ⟨.ref f, rfl, kn, f, xs ++ arrs es, F, rfl, SqL.of hkn, (hF.kp k4 hT).at_, hF.few, hall, k4.tab, fun H5 k5' => ?_⟩
    have k5 := k4.trans k5'
    cases hp : fpk (F.map fun c => (xs ++ arrs es).idxOf c) with
    | some i =>
      rw [hp] at w1
      refine ⟨_, rfl, rfl, _, rfl, ?_⟩
      rw [decide_eq_false (show ¬ (V.int ((i : Nat) : Int) = V.non) from fun z => by cases z)]
      refine iteT ⟨_, rfl, by show 2 ≤ sizeLine; decide, fun p hp => new k5 hp ?_⟩
      rw [w1]
      rfl
    | none =>
    rw [hp] at w1
    refine ⟨_, rfl, rfl, _, rfl, iteF ?_⟩
    -- moment
    refine ⟨.ref a, rfl, .ref l, rfl, .ref f, rfl, a, l, f, xs, as, es, F, rfl, hL.kp k5 hT, hB, hE.kp k5 hT, hB2, (hF.kp k5 hT).at_, k5.tab, fun H6 x k6' _ hx => ?_⟩
    have k6 := k5.trans k6'
    refine ⟨x, ext0 xs F es, rfl, SqL.of hx, k6.tab, fun H7 k7' => ?_⟩
    have k7 := k6.trans k7'
    cases hm : fneg (ext0 xs F es) with
    | some t =>
      have w1 : why xs es F = .moment t := by rw [w1]; show (match fneg (ext0 xs F es) with | some t => Why.moment t | none => match swC xs es F with | some (b, c) => .switch b c | none => .ok) = _; rw [hm]
      refine ⟨_, rfl, rfl, _, rfl, ?_⟩
      rw [decide_eq_false (show ¬ (V.int ((t : Nat) : Int) = V.non) from fun z => by cases z)]
      refine iteT ⟨_, rfl, by show 2 ≤ sizeLine; decide, fun p hp => new k7 hp ?_⟩
      rw [w1]
      rfl
    | none =>
    have w1 : why xs es F = (match swC xs es F with | some (b, c) => .switch b c | none => .ok) := by rw [w1]; show (match fneg (ext0 xs F es) with | some t => Why.moment t | none => match swC xs es F with | some (b, c) => .switch b c | none => .ok) = _; rw [hm]
    refine ⟨_, rfl, rfl, _, rfl, iteF ?_⟩
    -- switch
    refine ⟨.ref a, rfl, .ref l, rfl, .ref f, rfl, a, l, f, xs, as, es, F, rfl, hL.kp k7 hT, hB, hE.kp k7 hT, hB2, hFD.kp k7 hT, hF.few, k7.tab, fun H8 k8' hs => ?_, fun H8 p b c k8' hp hs hp8 => ?_⟩
    · refine q H8 _ (k7.trans k8') ?_
      rw [w1, hs]
      rfl
    · refine q H8 _ (k7.trans k8') ?_
      rw [w1, hs]
      exact ⟨p, rfl, k7.free hT hp, hp8⟩
def possB : Why → Bool
  | .ok => true
  | _ => false
def spPoss (K : PySem.W.Frag) (Ps : List Addr) : Sp := fun vs H Q _ => ∃ (a l f : Addr) (xs : List Str) (as : List Addr) (es : List Ev) (F : List Str), vs = [.ref a, .ref l, .ref f] ∧ LaneAt K H a xs ∧ laneB xs = true ∧ LogAt K H l as es ∧ logB xs xs.length es = true ∧ LaneAt K H f F ∧ laneB F = true ∧ TupD H f (F.map V.str) ∧ Tabs Ps H ∧
  ∀ H', Kp Ps H H' → Q (.bl (possB (why xs es F))) H'
theorem whyV_non {H H' : Hp} {v : V} {y : Why} (h : WhyV H H' v (whyT y)) : decide (v = .non) = possB y := by
  cases y with
  | ok => exact decide_eq_true h
  | cars => obtain ⟨p, rfl, _⟩ := h; rfl
  | block => obtain ⟨p, rfl, _⟩ := h; rfl
  | order i => obtain ⟨p, rfl, _⟩ := h; rfl
  | moment t => obtain ⟨p, rfl, _⟩ := h; rfl
  | switch b c => obtain ⟨p, rfl, _⟩ := h; rfl
theorem ok_poss {f fY : Addr} {fd fdY : FuncData} (F : Fun K "is_possible" "is_possible" sIsPoss f fd)
    (GY : FnOk P w K mg base CX0 11 fY fdY ["start", "log", "lane"] (spWhy K Ps)) (mgY : mg "why_not" = some (.ref fY)) (kY : PySem.W.keepIn K (.ref fY) = true) (bY : Binds K fdY ["start", "log", "lane"] []) :
    FnOk P w K mg base CX0 12 f fd ["start", "log", "lane"] (spPoss K Ps) := by
  refine F.ok scIsPoss (fun vs H Q E h => ?_) (fun cdv A outer s H vs Q E hr h => ?_)
  · obtain ⟨a, l, f, xs, as, es, F, rfl, _⟩ := h
    rfl
  · obtain ⟨a, l, f, xs, as, es, F, rfl, hL, hB, hE, hB2, hF, hFB, hFD, hT, q⟩ := h
    refine ⟨_, pss_one (ps_ret (pe_cmpR op_isN (pe_call GY hr (by rfl) mgY kY bY .nil pass0 (pa_cons (pv 0) (pa_cons (pv 1) (pa_cons (pv 2) pa_nil)))) pe_non (nomark _))), ?_⟩
    refine ⟨.ref a, rfl, .ref l, rfl, .ref f, rfl, a, l, f, xs, as, es, F, rfl, hL, hB, hE, hB2, hF, hFB, hFD, hT, fun H' v k hv => ⟨rfl, ?_⟩⟩
    rw [whyV_non hv]
    exact q H' k
end
end Ln


set_option Elab.async false
set_option linter.all false
set_option maxRecDepth 100000
set_option maxHeartbeats 4000000
namespace Ln
open PySem PySem.Spec PyProof.Rows L2 GxR
/-- a lane after one event -/
def mvF (xs : List Str) (e : Ev) (left : Bool) : List Str := match e with
  | .inn c => if left = true then c :: xs else xs ++ [c]
  | .out => if left = true then xs.drop 1 else xs.take (xs.length - 1)
theorem mv_mvF {xs : List Str} {e : Ev} {left : Bool} (h : e = .out → xs ≠ []) : Mv xs e (mvF xs e left) := by
  cases e with
  | inn c =>
    cases left with
    | true => exact .inL c xs
    | false => exact .inR c xs
  | out =>
    have h := h rfl
    cases left with
    | true =>
      cases xs with
      | nil => exact absurd rfl h
      | cons x r => exact .outL x r
    | false =>
      show Mv xs .out (xs.take (xs.length - 1))
      rw [← List.dropLast_eq_take]
      have e := (List.dropLast_concat_getLast h).symm
      generalize xs.dropLast = r at e ⊢
      rw [e]
      exact .outR _ r
theorem cut_lastV {xs : List V} (h : 0 < xs.length) : cutV xs none (some (-1)) = xs.take (xs.length - 1) := by
  unfold cutV
  rw [HT.sIx_none, List.drop_zero, Nat.sub_zero, show HT.sIx xs.length xs.length (some (-1)) = xs.length - 1 by
    show (if (-1 : Int) < 0 then ((-1 : Int) + (xs.length : Int)).toNat else min (-1 : Int).toNat xs.length) = _
    rw [if_pos (by decide)]
    omega]
/-! ### what the law keeps -/
/-- an object of the module's own -/
def KAlt (K : PySem.W.Frag) (a : Addr) (xs : List V) : Prop := ∃ (o : Obj) (its : Array Value) (n : Nat), K.lookup a = some o ∧ o.cls = .type "list" ∧ o.dict = none ∧ o.data = .seq its n ∧ its.size ≤ sizeLine ∧ Vals xs its.toList
def Off (K : PySem.W.Frag) (a b : Addr) (xs : List V) : Prop := a ≠ b ∨ KAlt K a xs
section
variable {K : PySem.W.Frag} {Ps : List Addr} {H H1 : Hp} {a b t : Addr} {o : HO} {xs z : List V}
theorem off_new (h : SqL K H a xs) (hb : H b = none) : Off K a b xs := by
  rcases h with (e | ⟨ob, e⟩) | e
  · exact .inl (ne_of_none e hb)
  · exact .inl (ne_of_none e hb)
  · exact .inr e
theorem sq_off (h : SqL K H a xs) (n : Off K a b xs) : SqL K (upd H b o) a xs := by
  rcases n with n | e
  · rcases h with (e | ⟨ob, e⟩) | e
    · exact .inl (.inl (by rw [upd_ne n]; exact e))
    · exact .inl (.inr ⟨ob, by rw [upd_ne n]; exact e⟩)
    · exact .inr e
  · exact .inr e
theorem tabs_updL (hT : Tabs Ps H) (hb : H b = some (.lst z)) : Tabs Ps (upd H b o) := fun q hq => by
  obtain ⟨ps, e, t⟩ := hT q hq
  have n : q ≠ b := fun z => by
    rw [z, hb] at e
    cases e
  exact ⟨ps, by rw [upd_ne n]; exact e, t⟩
theorem tabs_new (hT : Tabs Ps H) (hb : H b = none) : Tabs Ps (upd H b o) := fun q hq => by
  obtain ⟨ps, e, t⟩ := hT q hq
  exact ⟨ps, by rw [upd_ne (ne_of_none e hb)]; exact e, t⟩
theorem tabs_same (hT : Tabs Ps H) (k : L2.Same H H1) : Tabs Ps H1 := fun q hq => by
  obtain ⟨ps, e, t⟩ := hT q hq
  exact ⟨ps, k _ _ e, t⟩
theorem tup_updL (h : TupD H t xs) (hb : H b = some (.lst z)) : TupD (upd H b o) t xs := by
  obtain ⟨ob, d, e⟩ := h
  refine ⟨ob, d, ?_⟩
  rw [upd_ne fun q => by rw [q, hb] at e; cases e]
  exact e
theorem sq_same (h : SqL K H a xs) (k : L2.Same H H1) : SqL K H1 a xs := by
  rcases h with (e | ⟨ob, e⟩) | e
  · exact .inl (.inl (k _ _ e))
  · exact .inl (.inr ⟨ob, k _ _ e⟩)
  · exact .inr e
end
theorem EvT.updL {as : List Addr} {es : List Ev} {H : Hp} {b : Addr} {z : List V} {u : HO} (h : EvT H as es) (hb : H b = some (.lst z)) : EvT (upd H b u) as es := h.kt (KT.upd fun xs e => by rw [hb] at e; cases e)
/-! ### the history's lanes -/
theorem cnt_take : ∀ (es : List Ev) (n m j : Nat), cnt n es = some m → j ≤ es.length → ∃ k, cnt n (es.take j) = some k ∧ (k : Int) = endI n (es.take j) ∧ (es[j]? = some .out → 0 < k)
  | [], n, m, j, _, hj => by
    have : j = 0 := by simpa using hj
    subst this
    exact ⟨n, rfl, rfl, fun h => by simp at h⟩
  | .inn c :: r, n, m, 0, _, _ => ⟨n, rfl, rfl, fun h => by simp at h⟩
  | .out :: r, n, m, 0, h, _ => by
    refine ⟨n, rfl, rfl, fun _ => ?_⟩
    by_cases q : 0 < n
    · exact q
    · have h : (if 0 < n then cnt (n - 1) r else none) = some m := h
      rw [if_neg q] at h
      cases h
  | .inn c :: r, n, m, j + 1, h, hj => by
    obtain ⟨k, h1, h2, h3⟩ := cnt_take r (n + 1) m j h (by simpa using hj)
    exact ⟨k, h1, by rw [h2]; rfl, fun e => h3 (by simpa using e)⟩
  | .out :: r, n, m, j + 1, h, hj => by
    have h : (if 0 < n then cnt (n - 1) r else none) = some m := h
    by_cases q : 0 < n
    · rw [if_pos q] at h
      obtain ⟨k, h1, h2, h3⟩ := cnt_take r (n - 1) m j h (by simpa using hj)
      refine ⟨k, ?_, ?_, fun e => h3 (by simpa using e)⟩
      · show (if 0 < n then cnt (n - 1) (r.take j) else none) = some k
        rw [if_pos q, h1]
      · rw [h2]
        show endI ((n - 1 : Nat) : Int) (r.take j) = endI ((n : Int) - 1) (r.take j)
        rw [show ((n - 1 : Nat) : Int) = (n : Int) - 1 by omega]
    · rw [if_neg q] at h
      cases h
structure Good (xs : List Str) (es : List Ev) (m : Nat) : Prop where
  nd : (xs ++ arrs es).Nodup
  cars : ∀ x ∈ xs ++ arrs es, carB x = true
  ct : cnt xs.length es = some m
  few1 : xs.length ≤ 100
  few2 : es.length ≤ 200
section
variable {xs L : List Str} {es : List Ev} {m j : Nat}
theorem arrs_take (es : List Ev) (j : Nat) : (arrs (es.take j)).Sublist (arrs es) := by
  have : arrs es = arrs (es.take j) ++ arrs (es.drop j) := by rw [← arrs_app, List.take_append_drop]
  rw [this]
  exact List.sublist_append_left _ _
theorem Good.take (G : Good xs es m) (j : Nat) (hj : j ≤ es.length) : ∃ k, Good xs (es.take j) k := by
  obtain ⟨k, h1, _, _⟩ := cnt_take es xs.length m j G.ct hj
  have hs : (xs ++ arrs (es.take j)).Sublist (xs ++ arrs es) := (List.Sublist.refl _).append (arrs_take es j)
  exact ⟨k, G.nd.sublist hs, fun x hx => G.cars x (hs.subset hx), h1, G.few1, by rw [List.length_take]; have := G.few2; omega⟩
theorem Good.laneB (G : Good xs es m) : laneB xs = true := by
  unfold Ln.laneB
  rw [Bool.and_eq_true]
  exact ⟨List.all_eq_true.mpr fun x hx => G.cars x (List.mem_append_left _ hx), decide_eq_true (List.nodup_append.mp G.nd).1⟩
theorem Good.logB (G : Good xs es m) : logB xs xs.length es = true :=
  logB_of es xs xs.length m G.ct (fun c hc => ⟨G.cars c (List.mem_append_right _ hc), fun z => (List.nodup_append.mp G.nd).2.2 c z c hc rfl⟩) (List.nodup_append.mp G.nd).2.1
theorem Good.lane (G : Good xs es m) (h : Run xs es L) : Ln.laneB L = true := by
  unfold Ln.laneB
  rw [Bool.and_eq_true]
  exact ⟨List.all_eq_true.mpr fun x hx => G.cars x (h.mem x hx), decide_eq_true (h.nodup G.nd)⟩
theorem endI_le : ∀ (n : Int) (es : List Ev), endI n es ≤ n + es.length
  | n, [] => by show n ≤ n + ((0 : Nat) : Int); omega
  | n, .inn _ :: r => by
    have := endI_le (n + 1) r
    rw [List.length_cons]
    show endI (n + 1) r ≤ _
    omega
  | n, .out :: r => by
    have := endI_le (n - 1) r
    rw [List.length_cons]
    show endI (n - 1) r ≤ _
    omega
theorem Good.few (G : Good xs es m) (h : Run xs es L) : L.length ≤ 300 := by
  have h1 := h.len
  have h2 := endI_le xs.length es
  have := G.few1
  have := G.few2
  omega
theorem Good.laneAt {K : PySem.W.Frag} {H : Hp} {p : Addr} (G : Good xs es m) (h : Run xs es L) (hp : TupD H p (L.map V.str)) : LaneAt K H p L :=
  ⟨hp.sq, by have := G.few h; omega, fun x hx => car_sz (carsOf (G.lane h) x hx)⟩
theorem Good.startAt {K : PySem.W.Frag} {H : Hp} {p : Addr} (G : Good xs es m) (hp : TupD H p (xs.map V.str)) : LaneAt K H p xs :=
  ⟨hp.sq, by have := G.few1; omega, fun x hx => car_sz (carsOf G.laneB x hx)⟩
theorem Good.logAt {K : PySem.W.Frag} {H : Hp} {l : Addr} {as : List Addr} (G : Good xs es m) (hl : H l = some (.lst (as.map V.ref))) (hv : EvT H as es) : LogAt K H l as es :=
  ⟨SqL.of hl, Paired.imp hv fun _ _ q => SqT.of q, by have := G.few2; omega, fun c hc => car_sz (G.cars c (List.mem_append_right _ (mem_arrs hc)))⟩
end
/-! ### a call by keywords alone -/
section
variable {X : Cx} {CX : CXT} {k : Nat} {f : Addr} {fd : FuncData} {ps ks : List Str} {sp : Sp} {E : XK} {x : Str} {p pos : Pos} {kws : List Keyword} {tk : TA} {g : List Value → List Value → List Value} {gV : List V → List V → List V}
theorem pe_callK0 (F : FnOk X.prog X.w X.K X.mg X.base CX k f fd ps sp) (hr : Room k X.A) (hg : Gl X x) (hm : X.mg x = some (.ref f)) (hk : PySem.W.keepIn X.K (.ref f) = true) (hb : KBinds X.K fd ps ks g gV) (hx : Passes CX X E) (hkw : PK X kws tk)
    (hall : (backToKw pos (keywordEach kws X.env)).all (·.1.isSome) = true := by rfl) (hks : (backToKw pos (keywordEach kws X.env)).filterMap (·.1) = ks := by rfl) (hdb : (x == ("__debug__" : Str)) = false := by decide)
    (hpl : ((backTo pos (starEach [] X.env)).any (·.1) || (backToKw pos (keywordEach kws X.env)).any (·.1.isNone)) = false := by rfl) :
    PE X (.Call (.Name x p) [] kws pos) (tCallK sp gV E tNil tk) := by
  refine ⟨fun pins s σ H Q I h => wpAny_Call_Name_kw (ld_glob I hg hm ?_ hdb)⟩
  refine PySem.W.callWith_KW0 (h₀ := X.base) I.ok.mod.kin hk hall (thn (hkw.run pos pins s σ H _ I h) fun ws s2 ⟨zs, H2, I2, rz, q2⟩ => ⟨I2.kIn, ?_⟩) hpl
  rw [hks]
  exact run_fnk (us := []) F hr hb hx I2 .nil rz q2
end
def id3 {α : Type} : List α → List α → List α
  | [], [x, y, z] => [x, y, z]
  | _, _ => []
end Ln


set_option Elab.async false
set_option linter.all false
set_option maxRecDepth 100000
set_option maxHeartbeats 4000000
namespace Ln
open PySem PySem.Spec PyProof.Rows L2 GxR
section
variable {s a : Addr} {H H' : Hp} {xs l : List V} {as : List Addr} {es : List Ev}
theorem Ch.tupD (k : Ch s H H') (h : TupD H a xs) (hs : H s = some (.lst l)) : TupD H' a xs := by
  obtain ⟨ob, d, e⟩ := h
  exact ⟨ob, d, k _ _ e fun z => by rw [z, hs] at e; cases e⟩
theorem Ch.evT (k : Ch s H H') (h : EvT H as es) (hs : H s = some (.lst l)) : EvT H' as es := Paired.imp h fun b e q => k _ _ q fun z => by rw [z, hs] at q; cases q
theorem Ch.sm {H2 : Hp} (k : Ch s H H') (m : L2.Same H' H2) : Ch s H H2 := fun b o e n => m _ _ (k b o e n)
end
theorem take_run' {es : List Ev} {j : Nat} {e : Ev} (h : es[j]? = some e) : es.take (j + 1) = es.take j ++ [e] := by
  rw [List.take_add_one, h]
  rfl
section
variable {P : Program} {w : World} {K : PySem.W.Frag} {mg : Str → Option Value} {base : Heap} {Ps : List Addr}
def spLived (K : PySem.W.Frag) : Sp := fun vs H Q _ => ∃ (s0 t o : Addr) (l : List V) (n : Nat) (xs : List Str) (as : List Addr) (es : List Ev) (m : Nat), vs = [.ref s0, .ref t, .ref o] ∧ H s0 = some (.lst l) ∧ SrcV n l ∧ n + 300 ≤ 1000000 ∧ TupD H t (xs.map V.str) ∧ H o = some (.lst (as.map V.ref)) ∧ s0 ≠ o ∧ EvT H as es ∧ Good xs es m ∧
  ∀ (H' : Hp) (p : Addr) (L : List Str) (l' : List V), Ch s0 H H' → H' s0 = some (.lst l') → SrcV (n + 201) l' → TupD H' p (L.map V.str) → Run xs es L → Q (.ref p) H'
end
end Ln


set_option Elab.async false
set_option linter.all false
set_option maxRecDepth 100000
set_option maxHeartbeats 4000000
namespace Ln
open PySem PySem.Spec PyProof.Rows L2 GxR
/-! ### expressions that make data: the data is told, the places are not -/
/-- the data of a value, off the object s0; a list is one that may be added to -/
structure Dt (K : PySem.W.Frag) (s0 : Addr) (H : Hp) (v : V) (d : PyData) : Prop where
  dv : Dv K (offH H s0) v d
  ls : ∀ ds, d = .list ds → ∃ (a : Addr) (xs : List V), v = .ref a ∧ H a = some (.lst xs) ∧ a ≠ s0 ∧ DvAll K (offH H s0) xs ds
/-- data in slots -/
def EnvD (K : PySem.W.Frag) (s0 : Addr) (Γ : List (Nat × PyData)) (σ : L2.St) (H : Hp) : Prop := ∀ p ∈ Γ, ∃ v, σ[p.1]? = some (some v) ∧ Dt K s0 H v p.2
def tG (K : PySem.W.Frag) (s0 : Addr) (Γ : List (Nat × PyData)) (d : PyData) : TE := fun σ H Q => (∃ l, H s0 = some (.lst l)) ∧ EnvD K s0 Γ σ H ∧ ∀ H' v, L2.Same H H' → Dt K s0 H' v d → Q v H'
def tGA (K : PySem.W.Frag) (s0 : Addr) (Γ : List (Nat × PyData)) (ds : List PyData) : TA := fun σ H Q => (∃ l, H s0 = some (.lst l)) ∧ EnvD K s0 Γ σ H ∧ ∀ H' vs, L2.Same H H' → DvAll K (offH H' s0) vs ds → Q vs H'
section
variable {K : PySem.W.Frag} {s0 : Addr} {H H' : Hp} {v : V} {d : PyData} {Γ : List (Nat × PyData)} {σ : L2.St}
theorem Dt.same (h : Dt K s0 H v d) (k : L2.Same H H') : Dt K s0 H' v d := ⟨h.dv.same (off_sm k), fun ds e => by
  obtain ⟨a, xs, e1, e2, n, dv⟩ := h.ls ds e
  exact ⟨a, xs, e1, k _ _ e2, n, dv.same (off_sm k)⟩⟩
theorem Dt.ch (h : Dt K s0 H v d) (k : Ch s0 H H') : Dt K s0 H' v d := ⟨h.dv.same (off_ch k), fun ds e => by
  obtain ⟨a, xs, e1, e2, n, dv⟩ := h.ls ds e
  exact ⟨a, xs, e1, k _ _ e2 n, n, dv.same (off_ch k)⟩⟩
theorem Dt.full (h : Dt K s0 H v d) : Dv K H v d := h.dv.same off_sub
theorem Dt.of (h : Dv K (offH H s0) v d) (n : ∀ ds, d ≠ .list ds) : Dt K s0 H v d := ⟨h, fun ds e => absurd e (n ds)⟩
theorem EnvD.same (h : EnvD K s0 Γ σ H) (k : L2.Same H H') : EnvD K s0 Γ σ H' := fun p hp => let ⟨v, e, d⟩ := h p hp; ⟨v, e, d.same k⟩
theorem EnvD.nil : EnvD K s0 [] σ H := fun _ h => nomatch h
theorem EnvD.cons {i : Nat} (e : σ[i]? = some (some v)) (h : Dt K s0 H v d) (t : EnvD K s0 Γ σ H) : EnvD K s0 ((i, d) :: Γ) σ H := fun p hp => by
  rcases List.mem_cons.mp hp with rfl | hp
  · exact ⟨v, e, h⟩
  · exact t p hp
end
section
variable {X : Cx} {s0 : Addr} {Γ : List (Nat × PyData)} {d : PyData} {ds es : List PyData} {e : Expr} {el : List Expr} {pos : Pos}
theorem pe_imp {t t' : TE} (h : PE X e t) (i : ∀ σ H Q, t' σ H Q → t σ H Q) : PE X e t' := ⟨fun pins s σ H Q I h' => h.run pins s σ H Q I (i _ _ _ h')⟩
theorem pa_imp {t t' : TA} (h : PA X el t) (i : ∀ σ H Q, t' σ H Q → t σ H Q) : PA X el t' := ⟨fun p pins s σ H Q I h' => h.run p pins s σ H Q I (i _ _ _ h')⟩
theorem g_non {j : Nat} : PE X (.Constant .none j pos) (tG X.K s0 Γ .none) := pe_imp pe_non fun σ H Q ⟨_, _, q⟩ => q H _ sm_refl (.of .non fun _ z => nomatch z)
theorem g_int {j : Nat} {i : Int} : PE X (.Constant (.int i) j pos) (tG X.K s0 Γ (.int i)) := pe_imp pe_int fun σ H Q ⟨_, _, q⟩ => q H _ sm_refl (.of (.int i) fun _ z => nomatch z)
theorem g_bl {j : Nat} {b : Bool} : PE X (.Constant (.bool b) j pos) (tG X.K s0 Γ (.bool b)) := pe_imp pe_bl fun σ H Q ⟨_, _, q⟩ => q H _ sm_refl (.of (.bl b) fun _ z => nomatch z)
theorem g_str {j : Nat} {x : Str} (h : decide (x.length ≤ 100) = true := by decide) : PE X (.Constant (.str x) j pos) (tG X.K s0 Γ (.str x)) := pe_imp pe_str fun σ H Q ⟨_, _, q⟩ => q H _ sm_refl (.of (.str x (by have := of_decide_eq_true h; rw [sizeLine_eq]; omega)) fun _ z => nomatch z)
theorem g_var {i : Nat} {x : Str} (h : PE X (.Name x pos) (tVar i)) (m : (i, d) ∈ Γ) : PE X (.Name x pos) (tG X.K s0 Γ d) := pe_imp h fun σ H Q ⟨_, en, q⟩ => let ⟨v, ev, dv⟩ := en _ m; ⟨v, ev, q H v sm_refl dv⟩
theorem ga_nil : PA X [] (tGA X.K s0 Γ []) := pa_imp pa_nil fun σ H Q ⟨_, _, q⟩ => q H [] sm_refl .nil
theorem ga_cons (h : PE X e (tG X.K s0 Γ d)) (t : PA X el (tGA X.K s0 Γ ds)) (hs : starEach (e :: el) X.env = (false, eval e X.env) :: starEach el X.env := by rfl) : PA X (e :: el) (tGA X.K s0 Γ (d :: ds)) :=
  pa_imp (pa_cons h t hs) fun σ H Q ⟨⟨l, hs⟩, en, q⟩ => ⟨⟨l, hs⟩, en, fun H1 v k dv => ⟨⟨l, k _ _ hs⟩, en.same k, fun H2 vs k2 dvs => q H2 _ (sm_trans k k2) (.cons (dv.same k2).dv dvs)⟩⟩
theorem g_lst (a : PA X el (tGA X.K s0 Γ ds)) (hl : decide (ds.length ≤ 900) = true := by exact rfl) : PE X (.List el pos) (tG X.K s0 Γ (.list ds)) :=
  pe_imp (pe_lst a) fun σ H Q ⟨⟨l, hs⟩, en, q⟩ => ⟨⟨l, hs⟩, en, fun H1 vs k dv => ⟨by have := of_decide_eq_true hl; rw [dv.len, sizeLine_eq]; omega, fun p hp => by
    have k2 : L2.Same H1 (upd H1 p (.lst vs)) := sm_new sm_refl hp
    have n : p ≠ s0 := (ne_of_none (k _ _ hs) hp).symm
    have d2 := dv.same (off_sm (s := s0) k2)
    exact q _ _ (sm_trans k k2) ⟨.lst (SqL.of (by rw [off_at n]; exact upd_same)) d2, fun es e => by cases e; exact ⟨p, vs, rfl, upd_same, n, d2⟩⟩⟩⟩
theorem g_tup {x1 : _} (a : PA X el (tGA X.K s0 Γ ds)) (hl : decide (ds.length ≤ 900) = true := by exact rfl) : PE X (.Tuple el x1 pos) (tG X.K s0 Γ (.tuple ds)) :=
  pe_imp (pe_tup a) fun σ H Q ⟨⟨l, hs⟩, en, q⟩ => ⟨⟨l, hs⟩, en, fun H1 vs k dv => ⟨by have := of_decide_eq_true hl; rw [dv.len, sizeLine_eq]; omega, fun p hp => by
    have k2 : L2.Same H1 (upd H1 p (.tup vs)) := sm_new sm_refl hp
    have n : p ≠ s0 := (ne_of_none (k _ _ hs) hp).symm
    have d2 := dv.same (off_sm (s := s0) k2)
    exact q _ _ (sm_trans k k2) (.of (.tup (SqT.of (by rw [off_at n]; exact upd_same)) d2) fun _ z => nomatch z)⟩⟩
theorem g_dic : PE X (.Dict [] [] pos) (tG X.K s0 Γ (.dict [])) := pe_imp pe_dnewK fun σ H Q ⟨⟨l, hs⟩, en, q⟩ p hp => by
  have k2 : L2.Same H (upd H p (.dK [])) := sm_new sm_refl hp
  have n : p ≠ s0 := (ne_of_none hs hp).symm
  exact q _ _ k2 (.of (.dic (by rw [off_at n]; exact upd_same)) fun _ z => nomatch z)
/-- lists, one behind the other -/
theorem g_cat {a b : Expr} (ha : PE X a (tG X.K s0 Γ (.list ds))) (hb : PE X b (tG X.K s0 Γ (.list es))) (hl : ds.length + es.length ≤ 10000) : PE X (.BinOp a .Add b pos) (tG X.K s0 Γ (.list (ds ++ es))) :=
  pe_imp (pe_op op_cat ha hb) fun σ H Q ⟨⟨l, hs⟩, en, q⟩ => ⟨⟨l, hs⟩, en, fun H1 v1 k1 d1 => ⟨⟨l, k1 _ _ hs⟩, en.same k1, fun H2 v2 k2 d2 => by
    obtain ⟨a1, xs, rfl, e1, n1, c1⟩ := d1.ls _ rfl
    obtain ⟨a2, ys, rfl, e2, n2, c2⟩ := d2.ls _ rfl
    refine ⟨a1, a2, xs, ys, rfl, rfl, k2 _ _ e1, e2, by rw [c1.len, c2.len, sizeLine_eq]; omega, fun p hp => ?_⟩
    have k3 : L2.Same H2 (upd H2 p (.lst (xs ++ ys))) := sm_new sm_refl hp
    have n : p ≠ s0 := (ne_of_none (k2 _ _ (k1 _ _ hs)) hp).symm
    have c3 := DvAll.app (c1.same (off_sm (s := s0) (sm_trans k2 k3))) (c2.same (off_sm (s := s0) k3))
    exact q _ _ (sm_trans k1 (sm_trans k2 k3)) ⟨.lst (SqL.of (by rw [off_at n]; exact upd_same)) c3, fun es e => by cases e; exact ⟨p, _, rfl, upd_same, n, c3⟩⟩⟩⟩
/-- a tuple behind a tuple -/
theorem g_catT {a b : Expr} (ha : PE X a (tG X.K s0 Γ (.tuple ds))) (hb : PE X b (tG X.K s0 Γ (.tuple es))) (hl : ds.length + es.length ≤ 900) : PE X (.BinOp a .Add b pos) (tG X.K s0 Γ (.tuple (ds ++ es))) :=
  pe_imp (pe_op op_catA ha hb) fun σ H Q ⟨⟨l, hs⟩, en, q⟩ => ⟨⟨l, hs⟩, en, fun H1 v1 k1 d1 => ⟨⟨l, k1 _ _ hs⟩, en.same k1, fun H2 v2 k2 d2 => by
    cases (d1.same k2).dv with
    | @tup a1 xs _ s1 c1 =>
      cases d2.dv with
      | @tup a2 ys _ s2 c2 =>
        refine catV (sqT_sm s1 off_sub) (sqT_sm s2 off_sub) (by rw [c1.len, c2.len]; omega) fun H3 p k3 hp => ?_
        have hs3 := k3 _ _ (k2 _ _ (k1 _ _ hs))
        exact q _ _ (sm_trans k1 (sm_trans k2 k3)) (.of (.tup (off_seqT hp hs3) (DvAll.app (c1.same (off_sm k3)) (c2.same (off_sm k3)))) fun _ z => nomatch z)⟩⟩
/-- [x, ..] * n -/
theorem g_rep {a b : Expr} {n : Nat} {tb : TE} (ha : PE X a (tG X.K s0 Γ (.list [d]))) (hb : PE X b tb) (hn : ∀ σ H Q, EnvD X.K s0 Γ σ H → Q (.int n) H → tb σ H Q) (hl : n ≤ 10000) : PE X (.BinOp a .Mult b pos) (tG X.K s0 Γ (.list (List.replicate n d))) :=
  pe_imp (pe_op op_rep ha hb) fun σ H Q ⟨⟨l, hs⟩, en, q⟩ => ⟨⟨l, hs⟩, en, fun H1 v1 k1 d1 => hn _ _ _ (en.same k1) (by
    obtain ⟨a1, xs, rfl, e1, n1, c1⟩ := d1.ls _ rfl
    cases c1 with
    | @cons v _ _ _ c t =>
      cases t
      refine ⟨a1, n, [v], rfl, rfl, e1, by omega, by omega, by rw [sizeLine_eq]; simp; omega, fun p hp => ?_⟩
      rw [Int.toNat_natCast, flat_one]
      have k3 : L2.Same H1 (upd H1 p (.lst (List.replicate n v))) := sm_new sm_refl hp
      have np : p ≠ s0 := (ne_of_none (k1 _ _ hs) hp).symm
      have c3 := dv_rep (c.same (off_sm (s := s0) k3)) n
      exact q _ _ (sm_trans k1 k3) ⟨.lst (SqL.of (by rw [off_at np]; exact upd_same)) c3, fun es e => by cases e; exact ⟨p, _, rfl, upd_same, np, c3⟩⟩)⟩
/-- list(t) -/
theorem g_list (h : PE X e (tCB (fun xs H Q => ∃ p ys, xs = [.ref p] ∧ (SqL X.K H p ys ∨ SqT X.K H p ys) ∧ ∀ l, H l = none → Q (.ref l) (upd H l (.lst ys))) (tCons (tG X.K s0 Γ (.tuple ds)) tNil))) : PE X e (tG X.K s0 Γ (.list ds)) :=
  pe_imp h fun σ H Q ⟨⟨l, hs⟩, en, q⟩ => ⟨⟨l, hs⟩, en, fun H1 v1 k1 d1 => by
    cases d1.dv with
    | @tup a1 xs _ s1 c1 =>
      refine ⟨a1, xs, rfl, .inr (sqT_sm s1 off_sub), fun p hp => ?_⟩
      have k3 : L2.Same H1 (upd H1 p (.lst xs)) := sm_new sm_refl hp
      have n : p ≠ s0 := (ne_of_none (k1 _ _ hs) hp).symm
      have c3 := c1.same (off_sm (s := s0) k3)
      exact q _ _ (sm_trans k1 k3) ⟨.lst (SqL.of (by rw [off_at n]; exact upd_same)) c3, fun es e => by cases e; exact ⟨p, _, rfl, upd_same, n, c3⟩⟩⟩
/-- tuple(l) -/
theorem g_tuple (h : PE X e (tCB (fun xs H Q => ∃ p ys, xs = [.ref p] ∧ ((SqL X.K H p ys ∧ ∀ l, H l = none → Q (.ref l) (upd H l (.tup ys))) ∨ (SqT X.K H p ys ∧ Q (.ref p) H))) (tCons (tG X.K s0 Γ (.list ds)) tNil))) : PE X e (tG X.K s0 Γ (.tuple ds)) :=
  pe_imp h fun σ H Q ⟨⟨l, hs⟩, en, q⟩ => ⟨⟨l, hs⟩, en, fun H1 v1 k1 d1 => by
    obtain ⟨a1, xs, rfl, e1, n1, c1⟩ := d1.ls _ rfl
    refine ⟨a1, xs, rfl, .inl ⟨SqL.of e1, fun p hp => ?_⟩⟩
    have k3 : L2.Same H1 (upd H1 p (.tup xs)) := sm_new sm_refl hp
    have n : p ≠ s0 := (ne_of_none (k1 _ _ hs) hp).symm
    exact q _ _ (sm_trans k1 k3) (.of (.tup (SqT.of (by rw [off_at n]; exact upd_same)) (c1.same (off_sm (s := s0) k3))) fun _ z => nomatch z)⟩
/-- t[i] -/
theorem g_ixT {a b : Expr} {tb : TE} {i : Int} {k : Nat} (ha : PE X a (tG X.K s0 Γ (.tuple ds))) (hb : PE X b tb) (hi : ∀ σ H Q, Q (.int i) H → tb σ H Q) (hk : ixN ds.length i = some k) (hd : ds[k]? = some d) (hn : ∀ es, d ≠ .list es) (hs : PlainIx b) : PE X (.Subscript a b pos) (tG X.K s0 Γ d) :=
  pe_imp (pe_ix ix_tup ha hb hs) fun σ H Q ⟨⟨l, hs⟩, en, q⟩ => ⟨⟨l, hs⟩, en, fun H1 v1 k1 d1 => hi _ _ _ (by
    cases d1.dv with
    | @tup a1 xs _ s1 c1 =>
      obtain ⟨v, hv, dv⟩ := c1.at_ hd
      exact ⟨a1, xs, i, v, rfl, rfl, sqT_sm s1 off_sub, by unfold atI; rw [c1.len, hk]; exact hv, q _ _ k1 (.of dv hn)⟩)⟩
/-- menu[take(bag, len(menu))] -/
theorem g_pick {ib im : Nat} {E : XK} (h : PE X e (tOp (rIxL X.K) (tVar im) (tCall spTake [] E (tCons (tVar ib) (tCons (tCB (fun xs H Q => ∃ p ys, xs = [.ref p] ∧ (SqL X.K H p ys ∨ SqT X.K H p ys) ∧ Q (.int ys.length) H) (tCons (tVar im) tNil)) tNil))))) (m : (im, .list ds) ∈ Γ) :
    PE X e fun σ H Q => ∃ (l : List V) (n : Nat), σ[ib]? = some (some (.ref s0)) ∧ H s0 = some (.lst l) ∧ SrcV n l ∧ n ≤ 1000000 ∧ EnvD X.K s0 Γ σ H ∧ 0 < ds.length ∧ ds.length ≤ 1000 ∧
      ∀ H' v d l', Ch s0 H H' → H' s0 = some (.lst l') → SrcV (n + 1) l' → d ∈ ds → Dv X.K (offH H' s0) v d → Q v H' :=
  pe_imp h fun σ H Q ⟨l, n, eb, hs, hl, hn, en, h0, h9, q⟩ => by
    obtain ⟨v, ev, dt⟩ := en _ m
    obtain ⟨a, xs, rfl, ea, na, c⟩ := dt.ls _ rfl
    have hlen := c.len
    refine ⟨.ref a, ev, .ref s0, eb, .ref a, ev, a, xs, rfl, .inl (SqL.of ea), s0, l, n, xs.length, rfl, hs, hl, hn, by omega, by omega, fun l2 r hl2 h0 h1 => ?_⟩
    obtain ⟨j, rfl⟩ : ∃ j : Nat, r = (j : Int) := ⟨r.toNat, by omega⟩
    obtain ⟨u, hu, du⟩ := c.at_ (List.getElem?_eq_getElem (show j < ds.length by omega))
    refine ⟨a, xs, (j : Nat), u, rfl, rfl, SqL.of (by rw [upd_ne na]; exact ea), atI_nat hu, ?_⟩
    exact q _ u _ l2 Ch.src upd_same hl2 (List.getElem_mem _) (du.same (off_ch Ch.src))
end
end Ln


set_option Elab.async false
set_option linter.all false
set_option maxRecDepth 100000
set_option maxHeartbeats 2000000
namespace Ln
open PySem PySem.Spec PyProof.Rows L2 GxR
/-! ### data that may be shown -/
structure Gd (d : PyData) (dep wt : Nat) : Prop where
  lay : d.canLay0 = true
  dep : d.depth ≤ dep
  wt : d.weight ≤ wt
  iss : d.intsShort 13 = true
  sh : d.showable = true
  nd : d.hasDict = false
structure GdA (ds : List PyData) (dep wt : Nat) : Prop where
  lay : PyData.canLayAll0 ds = true
  dep : PyData.depthAll ds ≤ dep
  wt : PyData.weightAll ds ≤ wt
  iss : PyData.intsShortAll 13 ds = true
  sh : PyData.showableAll ds = true
  nd : PyData.hasDictAll ds = false
theorem GdA.nil {dep : Nat} : GdA [] dep 0 := ⟨rfl, Nat.zero_le _, Nat.le_refl _, rfl, rfl, rfl⟩
theorem GdA.cons {d : PyData} {ds : List PyData} {dep w1 w2 : Nat} (a : Gd d dep w1) (b : GdA ds dep w2) : GdA (d :: ds) dep (w1 + 1 + w2) := by
  refine ⟨?_, ?_, ?_, ?_, ?_, ?_⟩
  · rw [PyData.canLayAll0, a.lay, b.lay]
    rfl
  · have := a.dep
    have := b.dep
    rw [PyData.depthAll]
    omega
  · have := a.wt
    have := b.wt
    rw [PyData.weightAll]
    omega
  · rw [PyData.intsShortAll, a.iss, b.iss]
    rfl
  · rw [PyData.showableAll, a.sh, b.sh]
    rfl
  · rw [PyData.hasDictAll, a.nd, b.nd]
    rfl
theorem GdA.list {ds : List PyData} {dep w : Nat} (a : GdA ds dep w) : Gd (.list ds) (dep + 1) w :=
  ⟨by rw [PyData.canLay0]; exact a.lay, by rw [PyData.depth]; exact Nat.succ_le_succ a.dep, by rw [PyData.weight]; exact a.wt, by rw [PyData.intsShort]; exact a.iss, by rw [PyData.showable]; exact a.sh, by rw [PyData.hasDict]; exact a.nd⟩
theorem GdA.tuple {ds : List PyData} {dep w : Nat} (a : GdA ds dep w) : Gd (.tuple ds) (dep + 1) w :=
  ⟨by rw [PyData.canLay0]; exact a.lay, by rw [PyData.depth]; exact Nat.succ_le_succ a.dep, by rw [PyData.weight]; exact a.wt, by rw [PyData.intsShort]; exact a.iss, by rw [PyData.showable]; exact a.sh, by rw [PyData.hasDict]; exact a.nd⟩
theorem Gd.mono {d : PyData} {a b u v : Nat} (h : Gd d a u) (h1 : a ≤ b) (h2 : u ≤ v) : Gd d b v := ⟨h.lay, Nat.le_trans h.dep h1, Nat.le_trans h.wt h2, h.iss, h.sh, h.nd⟩
theorem GdA.map {α : Type} {f : α → PyData} {dep w : Nat} : ∀ (xs : List α), (∀ x ∈ xs, Gd (f x) dep w) → GdA (xs.map f) dep (xs.length * (w + 1))
  | [], _ => by
    rw [List.length_nil, Nat.zero_mul]
    exact .nil
  | x :: r, h => by
    have a := GdA.cons (h x List.mem_cons_self) (GdA.map r fun y hy => h y (List.mem_cons_of_mem _ hy))
    rw [List.length_cons, Nat.succ_mul, Nat.add_comm]
    exact a
theorem Gd.str {x : Str} (h1 : PyData.strOk x = true) (h2 : x.length ≤ 4) : Gd (.str x) 0 4 :=
  ⟨by rw [PyData.canLay0]; exact h1, by rw [PyData.depth]; exact Nat.le_refl _, by rw [PyData.weight]; exact h2, rfl, rfl, rfl⟩
set_option maxRecDepth 1000000 in
theorem shown_ints : ∀ n < 1001, decide ((PyData.shown (.int (n : Nat))).length ≤ 13) = true := by decide +kernel
theorem Gd.int {n : Nat} (h : n ≤ 1000) : Gd (.int (n : Nat)) 0 11 := by
  have hl : (if ((n : Nat) : Int) = 0 then 0 else ((n : Nat) : Int).natAbs.log2 + 1) ≤ 11 := by
    split
    · omega
    · have : ((n : Nat) : Int).natAbs.log2 < 10 := (Nat.log2_lt (by omega)).mpr (by show ((n : Nat) : Int).natAbs < 1024; omega)
      omega
  refine ⟨rfl, by rw [PyData.depth]; exact Nat.le_refl _, ?_, ?_, ?_, rfl⟩
  · rw [PyData.weight]
    simpa using hl
  · rw [PyData.intsShort]
    exact shown_ints n (by omega)
  · rw [PyData.showable]
    refine decide_eq_true ?_
    by_cases e : n = 0
    · subst e
      decide
    · have : ((n : Nat) : Int).natAbs.log2 < 10 := (Nat.log2_lt (by omega)).mpr (by show ((n : Nat) : Int).natAbs < 1024; omega)
      omega
theorem Gd.shaped {d : PyData} {dep w : Nat} (h : Gd d dep w) (hd : dep ≤ 60) : SeqAt.shaped d = true := by
  unfold SeqAt.shaped
  rw [Bool.and_eq_true]
  have := h.dep
  exact ⟨h.lay, decide_eq_true (by omega)⟩
theorem Gd.len {d : PyData} {dep w : Nat} (h : Gd d dep w) (hd : dep ≤ 60) (hw : w ≤ 1000000) : d.shown.length ≤ sizeLine := by
  have h1 := h.dep
  have h2 := h.wt
  have hl : PyData.layable0 d = true := by
    unfold PyData.layable0
    rw [Bool.and_eq_true, Bool.and_eq_true]
    exact ⟨⟨h.lay, decide_eq_true (by omega)⟩, decide_eq_true (by omega)⟩
  exact Nat.le_trans (shown_le13 hl h.iss) (by decide)
/-! ### repr, where nothing is being shown -/
def rRepr (K : PySem.W.Frag) : List V → Hp → VK → Prop := fun vs H Q => ∃ (a : Addr) (d : PyData) (dep w : Nat), vs = [.ref a] ∧ Dp K H (.ref a) d ∧ Gd d dep w ∧ dep ≤ 60 ∧ w ≤ 1000000 ∧ Q (.str d.shown) H
theorem cr_repr {X : Cx} (hg : X.A.guards = some []) (hu : X.A.units + 64 < cLine) : CallR X (.builtin "repr") (rRepr X.K) := by
  intro pins s σ H vs us Q I r h
  obtain ⟨a, d, dep, w, rfl, hd, hG, h60, hw, q⟩ := h
  obtain ⟨u, rfl, r1⟩ := vals1 r
  obtain ⟨as, hr⟩ := Dp.reads I d (.ref a) u hd r1
  obtain rfl : u = Value.ref a := r1
  have h1 := hG.dep
  exact repr_of_reads' hr hG.sh (PyData.noDict_hsm hG.nd) hg (by omega) (fun _ _ e => e) (fun h' t tk hk => ⟨.str d.shown, H, I.kept hk, ⟨_, rfl⟩, q⟩) (hG.len h60 hw)
/-! ### the data shown -/
def Ev.dat : Ev → PyData
  | .inn c => .tuple [.str "in", .str c]
  | .out => .tuple [.str "out"]
def strD (xs : List Str) : List PyData := xs.map PyData.str
def natD (ns : List Nat) : List PyData := ns.map fun n => PyData.int (n : Nat)
theorem dp_evs {K : PySem.W.Frag} {H : Hp} : ∀ {as : List Addr} {es : List Ev}, EvsAt K H as es → DpAll K H (as.map V.ref) (es.map Ev.dat)
  | _, _, .nil => .nil
  | _, .inn c :: r, .cons h t => .cons (.tup h (.cons (.str _) (.cons (.str _) .nil))) (dp_evs t)
  | _, .out :: r, .cons h t => .cons (.tup h (.cons (.str _) .nil)) (dp_evs t)
theorem gd_in : PyData.strOk "in" = true := by decide +kernel
theorem gd_out : PyData.strOk "out" = true := by decide +kernel
theorem gd_ev {e : Ev} (h : ∀ c, e = .inn c → carB c = true) : Gd e.dat 1 20 := by
  cases e with
  | inn c => exact (GdA.tuple (GdA.cons (Gd.str gd_in (by decide +kernel)) (GdA.cons (Gd.str (car_ok (h c rfl)) (carLen (h c rfl))) GdA.nil))).mono (Nat.le_refl _) (by decide)
  | out => exact (GdA.tuple (GdA.cons (Gd.str gd_out (by decide +kernel)) GdA.nil)).mono (Nat.le_refl _) (by decide)
theorem gd_strs {xs : List Str} (h : ∀ x ∈ xs, carB x = true) (hl : xs.length ≤ 1000) : GdA (strD xs) 0 5000 := by
  have a := GdA.map (f := PyData.str) (dep := 0) (w := 4) xs fun x hx => Gd.str (car_ok (h x hx)) (carLen (h x hx))
  exact ⟨a.lay, a.dep, Nat.le_trans a.wt (by omega), a.iss, a.sh, a.nd⟩
/-- a def's promise where nothing is being shown -/
structure FnG (P : Program) (w : World) (K : PySem.W.Frag) (mg : Str → Option Value) (base : Heap) (k : Nat) (f : Addr) (fd : FuncData) (ps : List Str) (sp : Sp) : Prop where
  len : ∀ vs H Q E, sp vs H Q E → vs.length = ps.length
  run : ∀ (A : Around) (outer : List Env) (s : Shared) (H : Hp) (args : Args) (us : List Value) (vs : List V) (Q : VK) (E : XK), Room k A → A.guards = some [] → Env0 P w K mg base A outer s H → BindsTo s fd args (ps.zip us) → Vals vs us → sp vs H Q E →
    codeAny (model P w) A (.call (.ref f) args) (CR CX0 outer P w H s Q E) s
theorem FnG.of {P : Program} {w : World} {K : PySem.W.Frag} {mg : Str → Option Value} {base : Heap} {k : Nat} {f : Addr} {fd : FuncData} {ps : List Str} {sp : Sp} (F : FnOk P w K mg base CX0 k f fd ps sp) : FnG P w K mg base k f fd ps sp := ⟨F.len, fun A outer s H args us vs Q E hr _ e0 hb r h => F.run A outer s H args us vs Q E hr e0 hb r h⟩
section
variable {P : Program} {w : World} {K : PySem.W.Frag} {mg : Str → Option Value} {base : Heap}
theorem Fun.okG {x qual : Str} {st : Stmt} {f : Addr} {fd : FuncData} {N ps : List Str} {k : Nat} {sp : Sp} (F : Fun K x qual st f fd) (S : FnScope N ps (defScope st)) (len : ∀ vs H Q E, sp vs H Q E → vs.length = ps.length)
    (hbody : ∀ (cdv : Value) (A : Around) (outer : List Env) (s : Shared) (H : Hp) (vs : List V) (Q : VK) (E : XK), Room k (A.deeper (envOfC qual (defScope st) s.heap.objs.size f cdv)) → A.guards = some [] → sp vs H Q E →
      ∃ t, PSs (cxOf CX0 P w K mg base N qual (defScope st) f cdv A outer s H E).nox (defBody st) t ∧ t { nx := fun _ H' => Q .non H', rt := Q } (start N vs) H) : FnG P w K mg base (k + 1) f fd ps sp := by
  obtain ⟨oc, od, kV, doc, pm, an, cdv, ct, osl, rfl, lk, hcd⟩ := F.ex
  refine ⟨len, fun A outer s H args us vs Q E hr hgd e0 hb r hsp => ?_⟩
  have KX : K.In s.heap := e0.mod.kin.keeps fun b o e => (e0.bs b o e).1
  have lim : s.heap.NoLimit := e0.mod.nolimit.keeps fun b o e => (e0.bs b o e).1
  have kinds : ∀ y ∈ ps.zip us, (defScope st).names.lookup y.1 = some .local ∨ ((defScope st).names.lookup y.1 = some .cell ∧ ((cellsFrom (s.heap.objs.size + 1) (defScope st).names []).lookup y.1).isSome = true) := by
    rintro ⟨n, v⟩ hy
    rcases S.par n (List.of_mem_zip hy).1 with q | q
    · exact .inl q
    · exact .inr ⟨q, PySem.W.cellsFrom_some _ _ _ (.inl q)⟩
  refine codeAny_call_function hr.depth (KX _ _ lk) rfl S.co S.gen rfl (PySem.W.codeRec_of KX hcd) (hb _ _ _ _ ?_)
  refine wpAny_newFunctionEnv_cells S.kind kinds fun env he s1 x1 => ?_
  subst he
  refine ⟨lim.keeps x1.toInCall.keep, codeAny_func ?_⟩
  obtain ⟨t, ht, hq⟩ := hbody cdv A outer s H vs Q E (hr.deeper _) hgd hsp
  have I : Inv (cxOf CX0 P w K mg base N qual (defScope st) f cdv A outer s H E) [] (start N vs) H s1 := inv_start S hr.hd e0 (len _ _ _ _ hsp) r x1
  refine wpAny_mono (ht.nox.run [] s1 (start N vs) H _ I hq) (fun fl s' hs => ?_) fun e s' hs => hs
  match fl, hs with
  | .ret u, ⟨v, σ', H', J, rv, q⟩ => exact ⟨v, H', J.os, J.bare, J.base, J.hok, rv, q⟩
  | .next, ⟨σ', H', J, q⟩ => exact ⟨.non, H', J.os, J.bare, J.base, J.hok, rfl, q⟩
  | .brk, ⟨_, _, _, q⟩ => exact False.elim q
  | .cont, ⟨_, _, _, q⟩ => exact False.elim q
end
section
variable {X : Cx} {k : Nat} {f : Addr} {fd : FuncData} {ps : List Str} {sp : Sp} {x : Str} {p pos : Pos} {e : Expr} {es : List Expr} {t : TA}
theorem pe_callG (F : FnG X.prog X.w X.K X.mg X.base k f fd ps sp) (hr : Room k X.A) (hgd : X.A.guards = some []) (hg : Gl X x) (hm : X.mg x = some (.ref f)) (hk : PySem.W.keepIn X.K (.ref f) = true) (hb : Binds X.K fd ps [])
    (ha : PA X (e :: es) t) (hdb : (x == ("__debug__" : Str)) = false := by decide) (he : starEach (e :: es) X.env = (false, eval e X.env) :: starEach es X.env := by rfl) (hpl : (backTo pos (starEach es X.env)).any (·.1) = false := by rfl) :
    PE X (.Call (.Name x p) (e :: es) [] pos) (tCall sp [] E0 t) := by
  refine ⟨fun pins s σ H Q I h => wpAny_Call_Name_kw (ld_glob I hg hm ?_ hdb)⟩
  refine PySem.W.callWith_K (h₀ := X.base) I.ok.mod.kin hk (thn (ha.run pos pins s σ H _ I h) fun us s1 ⟨vs, H1, I1, r, q⟩ => ⟨I1.kIn, ?_⟩) he hpl
  have q : sp (vs ++ []) H1 Q E0 := q
  rw [List.append_nil] at q
  have hl : (us ++ []).length = ps.length := by
    rw [List.append_nil, ← r.length]
    exact F.len _ _ _ _ q
  have hbt := hb s1 us I1.kIn hl
  rw [List.append_nil] at hbt
  refine wpAny_call (codeAny_mono (F.run X.A X.stack s1 H1 ⟨us, []⟩ us vs Q E0 hr hgd I1.env0 hbt r q) fun rr s' hq => ?_)
  match rr, hq with
  | .error e, hq => exact False.elim hq
  | .ok (.ret u), hq => exact I1.after hq
  | .ok .next, hq => exact False.elim hq
  | .ok .brk, hq => exact False.elim hq
  | .ok .cont, hq => exact False.elim hq
end
end Ln


set_option Elab.async false
set_option linter.all false
set_option maxRecDepth 100000
set_option maxHeartbeats 2000000
namespace Ln
open PySem PySem.Spec PyProof.Rows L2 GxR
/-! ### repr of values of any plain kind, an empty dict among them -/
structure Rp (d : PyData) (dep wt : Nat) : Prop where
  sh : d.showable = true
  dep : d.depth ≤ dep
  wt : d.weight ≤ wt
  lv : d.leavesShort 13 = true
structure RpA (ds : List PyData) (dep wt : Nat) : Prop where
  sh : PyData.showableAll ds = true
  dep : PyData.depthAll ds ≤ dep
  wt : PyData.weightAll ds ≤ wt
  lv : PyData.leavesShortAll 13 ds = true
def rpB (d : PyData) (dep wt : Nat) : Bool := d.showable && decide (d.depth ≤ dep) && decide (d.weight ≤ wt) && d.leavesShort 13
theorem Rp.dec {d : PyData} {dep wt : Nat} (h : rpB d dep wt = true) : Rp d dep wt := by
  unfold rpB at h
  simp only [Bool.and_eq_true, decide_eq_true_eq] at h
  exact ⟨h.1.1.1, h.1.1.2, h.1.2, h.2⟩
def rpaB (ds : List PyData) (dep wt : Nat) : Bool := PyData.showableAll ds && decide (PyData.depthAll ds ≤ dep) && decide (PyData.weightAll ds ≤ wt) && PyData.leavesShortAll 13 ds
theorem RpA.dec {ds : List PyData} {dep wt : Nat} (h : rpaB ds dep wt = true) : RpA ds dep wt := by
  unfold rpaB at h
  simp only [Bool.and_eq_true, decide_eq_true_eq] at h
  exact ⟨h.1.1.1, h.1.1.2, h.1.2, h.2⟩
theorem RpA.nil {dep : Nat} : RpA [] dep 0 := ⟨rfl, Nat.zero_le _, Nat.le_refl _, rfl⟩
theorem RpA.cons {d : PyData} {ds : List PyData} {dep w1 w2 : Nat} (a : Rp d dep w1) (b : RpA ds dep w2) : RpA (d :: ds) dep (w1 + 1 + w2) := by
  refine ⟨?_, ?_, ?_, ?_⟩
  · rw [PyData.showableAll, a.sh, b.sh]
    rfl
  · have := a.dep
    have := b.dep
    rw [PyData.depthAll]
    omega
  · have := a.wt
    have := b.wt
    rw [PyData.weightAll]
    omega
  · rw [PyData.leavesShortAll, a.lv, b.lv]
    rfl
theorem RpA.mono {ds : List PyData} {a b u v : Nat} (h : RpA ds a u) (h1 : a ≤ b) (h2 : u ≤ v) : RpA ds b v := ⟨h.sh, Nat.le_trans h.dep h1, Nat.le_trans h.wt h2, h.lv⟩
theorem Rp.mono {d : PyData} {a b u v : Nat} (h : Rp d a u) (h1 : a ≤ b) (h2 : u ≤ v) : Rp d b v := ⟨h.sh, Nat.le_trans h.dep h1, Nat.le_trans h.wt h2, h.lv⟩
theorem RpA.app {ds es : List PyData} {dep w1 w2 : Nat} (a : RpA ds dep w1) (b : RpA es dep w2) : RpA (ds ++ es) dep (w1 + w2) := by
  induction ds generalizing w1 with
  | nil => exact b.mono (Nat.le_refl _) (Nat.le_add_left _ _)
  | cons d r ih =>
    have s := a.sh
    have l := a.lv
    have dp := a.dep
    have w := a.wt
    rw [PyData.showableAll, Bool.and_eq_true] at s
    rw [PyData.leavesShortAll, Bool.and_eq_true] at l
    rw [PyData.depthAll] at dp
    rw [PyData.weightAll] at w
    have h := RpA.cons (dep := dep) (w1 := d.weight) ⟨s.1, by omega, Nat.le_refl _, l.1⟩ (ih (w1 := PyData.weightAll r) ⟨s.2, by omega, Nat.le_refl _, l.2⟩)
    exact h.mono (Nat.le_refl _) (by omega)
theorem RpA.list {ds : List PyData} {dep w : Nat} (a : RpA ds dep w) : Rp (.list ds) (dep + 1) w :=
  ⟨by rw [PyData.showable]; exact a.sh, by rw [PyData.depth]; exact Nat.succ_le_succ a.dep, by rw [PyData.weight]; exact a.wt, by rw [PyData.leavesShort]; exact a.lv⟩
theorem RpA.tuple {ds : List PyData} {dep w : Nat} (a : RpA ds dep w) : Rp (.tuple ds) (dep + 1) w :=
  ⟨by rw [PyData.showable]; exact a.sh, by rw [PyData.depth]; exact Nat.succ_le_succ a.dep, by rw [PyData.weight]; exact a.wt, by rw [PyData.leavesShort]; exact a.lv⟩
theorem Rp.gd {d : PyData} {dep w : Nat} (h : Gd d dep w) : Rp d dep w := ⟨h.sh, h.dep, h.wt, PyData.leavesShort_of_canLay0 13 d h.lay h.iss⟩
theorem RpA.map {α : Type} {f : α → PyData} {dep w : Nat} : ∀ (xs : List α), (∀ x ∈ xs, Rp (f x) dep w) → RpA (xs.map f) dep (xs.length * (w + 1))
  | [], _ => by
    rw [List.length_nil, Nat.zero_mul]
    exact .nil
  | x :: r, h => by
    have a := RpA.cons (h x List.mem_cons_self) (RpA.map r fun y hy => h y (List.mem_cons_of_mem _ hy))
    rw [List.length_cons, Nat.succ_mul, Nat.add_comm]
    exact a
theorem RpA.rep {d : PyData} {dep w : Nat} (h : Rp d dep w) : ∀ n : Nat, RpA (List.replicate n d) dep (n * (w + 1))
  | 0 => by
    rw [Nat.zero_mul]
    exact .nil
  | n + 1 => by
    have a := RpA.cons h (RpA.rep h n)
    rw [List.replicate_succ, Nat.succ_mul, Nat.add_comm]
    exact a
theorem Rp.len {d : PyData} {dep w : Nat} (h : Rp d dep w) (hw : w ≤ 1000000) : d.shown.length ≤ sizeLine := by
  have h1 := PyData.shown_le 13 (by decide) d h.lv
  have h2 := h.wt
  rw [sizeLine_eq]
  omega
theorem rp_str {x : Str} (h : carB x = true) : Rp (.str x) 0 4 := Rp.gd (Gd.str (car_ok h) (carLen h))
theorem rp_strs {xs : List Str} (h : ∀ x ∈ xs, carB x = true) (hl : xs.length ≤ 1000) : RpA (xs.map PyData.str) 4 5000 := (RpA.map xs fun x hx => rp_str (h x hx)).mono (by decide) (by omega)
theorem rp_evs {es : List Ev} (h : ∀ c, Ev.inn c ∈ es → carB c = true) (hl : es.length ≤ 200) : RpA (es.map Ev.dat) 4 5000 := (RpA.map es fun e he => Rp.gd (gd_ev fun c z => h c (z ▸ he))).mono (by decide) (by omega)
theorem rpT {X B : List PyData} (hX : RpA X 4 5000) (hB : RpA B 4 1000) : Rp (.tuple (X ++ B)) 5 10000 := (RpA.app hX hB).tuple.mono (by decide) (by decide)
theorem rpL {X B : List PyData} (hX : RpA X 4 5000) (hB : RpA B 4 1000) : Rp (.list (X ++ B)) 5 10000 := (RpA.app hX hB).list.mono (by decide) (by decide)
section
variable {X : Cx} {pins : List (Addr × Obj)} {σ : L2.St} {H : Hp} {s : Shared}
mutual
theorem Dv.repk (I : Inv X pins σ H s) : ∀ (d : PyData) (v : V) (u : Value), Dv X.K H v d → RelV v u → d.showable = true → d.shown.length ≤ sizeLine →
    (∃ as, Reads s.heap u d as) ∧ ∃ bs, ReadAtMost s.heap d.depth bs ∧ ReprK X.prog X.w bs s.heap d.depth u d.shown
  | .none, _, _, h, r, _, _ => by
    cases h
    cases r
    exact ⟨⟨_, Reads.none⟩, [], fun _ z => (nomatch z), by rw [PyData.shown]; exact .of_is ReprIs.none _ _ _⟩
  | .bool b, _, _, h, r, _, _ => by
    cases h
    cases r
    exact ⟨⟨_, Reads.bool b⟩, [], fun _ z => (nomatch z), by rw [PyData.shown]; exact .of_is (ReprIs.bool b) _ _ _⟩
  | .int i, _, _, h, r, hs, _ => by
    cases h
    obtain ⟨t, rfl⟩ := r
    exact ⟨⟨_, Reads.int i t⟩, [], fun _ z => (nomatch z), by rw [PyData.shown]; exact .of_is (ReprIs.int t (by rw [PyData.showable] at hs; exact of_decide_eq_true hs)) _ _ _⟩
  | .str x, _, _, h, r, _, hz => by
    cases h
    obtain ⟨t, rfl⟩ := r
    exact ⟨⟨_, Reads.str x t⟩, [], fun _ z => (nomatch z), by rw [PyData.shown] at hz ⊢; exact .of_is (ReprIs.str x t hz) _ _ _⟩
  | .list ds, _, _, h, r, hs, hz => by
    cases h with
    | lst hq ha =>
      cases r
      obtain ⟨its, rv, ⟨o, n, ho, hc, _, hd⟩, _⟩ := I.list hq
      rw [PyData.showable] at hs
      rw [PyData.shown] at hz
      obtain ⟨⟨as, hr⟩, bs, hb, hk⟩ := DvAll.repk I ds _ its ha rv hs fun t ht => Nat.le_trans (listText_mem_le ht) hz
      have rd := Reads.list ho hc hd hr
      have hna := not_mem_of_deeper rd (n := PyData.depthAll ds) (by rw [PyData.depth]; omega) hb
      refine ⟨⟨_, rd⟩, _ :: bs, ReadAtMost.cons rd (by rw [PyData.depth]; omega) hb, ?_⟩
      rw [PyData.depth, PyData.shown]
      cases its with
      | nil =>
        cases hr
        rw [PyData.shownAll, listText_nil]
        exact ReprK.listEmpty ho hc hd
      | cons y l => exact ReprK.list ho hc hd hna (by simpa using hk.length_eq) fun i y e => hk.item i y (by simpa using e)
  | .tuple ds, _, _, h, r, hs, hz => by
    cases h with
    | tup hq ha =>
      cases r
      obtain ⟨its, rv, ⟨o, ho, hc, n, hd⟩, _⟩ := I.tuple hq
      rw [PyData.showable] at hs
      rw [PyData.shown] at hz
      obtain ⟨⟨as, hr⟩, bs, hb, hk⟩ := DvAll.repk I ds _ its ha rv hs fun t ht => Nat.le_trans (tupleText_mem_le ht) hz
      have rd := Reads.tuple ho hc hd hr
      have hna := not_mem_of_deeper rd (n := PyData.depthAll ds) (by rw [PyData.depth]; omega) hb
      refine ⟨⟨_, rd⟩, _ :: bs, ReadAtMost.cons rd (by rw [PyData.depth]; omega) hb, ?_⟩
      rw [PyData.depth, PyData.shown]
      exact ReprK.tuple ho hc hd hna hk
  | .dict kvs, _, _, h, r, hs, hz => by
    cases h with
    | dic e =>
      cases r
      obtain ⟨_, hsys, vs, kv, o, es, ep, ho, hx, hd, _, hp, _⟩ := dk_of I.hok e
      have e0 : vs = [] := by cases kv; rfl
      subst e0
      have e1 : es.toList = [] := by
        cases q : es.toList with
        | nil => rfl
        | cons a b =>
          rw [q] at hp
          cases hp
      have rd : Reads s.heap (.ref _) (.dict []) _ := Reads.dict (es := es) ho hx.1 hd (by rw [e1]; exact .nil) (by rw [e1]; exact .nil)
      refine ⟨⟨_, rd⟩, [_], ReadAtMost.cons rd (Nat.le_refl _) (fun _ z => nomatch z), ?_⟩
      rw [PyData.depth, PyData.shown]
      exact ReprK.dict ho hx.1 hd hsys (fun z => nomatch z) (by rw [e1]; exact .nil)
theorem DvAll.repk (I : Inv X pins σ H s) : ∀ (ds : List PyData) (vs : List V) (us : List Value), DvAll X.K H vs ds → Vals vs us → PyData.showableAll ds = true → (∀ t ∈ PyData.shownAll ds, t.length ≤ sizeLine) →
    (∃ as, ReadsAll s.heap us ds as) ∧ ∃ bs, ReadAtMost s.heap (PyData.depthAll ds) bs ∧ ReprAllK X.prog X.w bs s.heap (PyData.depthAll ds) us (PyData.shownAll ds)
  | [], _, _, h, r, _, _ => by
    cases h
    cases r
    exact ⟨⟨_, ReadsAll.nil⟩, [], fun _ z => (nomatch z), by rw [PyData.shownAll]; exact .nil⟩
  | d :: ds, _, _, h, r, hs, hz => by
    cases h with
    | cons h1 h2 =>
      cases r with
      | cons r1 r2 =>
        rw [PyData.showableAll, Bool.and_eq_true] at hs
        rw [PyData.shownAll] at hz
        obtain ⟨⟨as, q1⟩, b1, hb1, k1⟩ := Dv.repk I d _ _ h1 r1 hs.1 (hz _ List.mem_cons_self)
        obtain ⟨⟨bs, q2⟩, b2, hb2, k2⟩ := DvAll.repk I ds _ _ h2 r2 hs.2 fun t ht => hz t (List.mem_cons_of_mem _ ht)
        refine ⟨⟨_, ReadsAll.cons q1 q2⟩, b1 ++ b2, fun b hm => ?_, ?_⟩
        · rw [PyData.depthAll]
          rcases List.mem_append.mp hm with hm | hm
          · obtain ⟨d', as', r', h'⟩ := hb1 b hm
            exact ⟨d', as', r', Nat.le_trans h' (Nat.le_max_left _ _)⟩
          · obtain ⟨d', as', r', h'⟩ := hb2 b hm
            exact ⟨d', as', r', Nat.le_trans h' (Nat.le_max_right _ _)⟩
        · rw [PyData.depthAll, PyData.shownAll]
          exact .cons ((k1.more fun b hb => List.mem_append_left _ hb).level_le (Nat.le_max_left _ _)) (k2.more_le (fun b hb => List.mem_append_right _ hb) (Nat.le_max_right _ _))
end
/-- repr of a list, where nothing is being shown -/
def rReprD (K : PySem.W.Frag) : List V → Hp → VK → Prop := fun vs H Q => ∃ (a : Addr) (ds : List PyData) (dep w : Nat), vs = [.ref a] ∧ Dv K H (.ref a) (.list ds) ∧ RpA ds dep w ∧ dep ≤ 50 ∧ w ≤ 1000000 ∧ Q (.str (PyData.shown (.list ds))) H
theorem cr_reprD (hg : X.A.guards = some []) (hu : X.A.units + 64 < cLine) : CallR X (.builtin "repr") (rReprD X.K) := by
  intro pins s σ H vs us Q I r h
  obtain ⟨a, ds, dep, w, rfl, hd, hG, h60, hw, q⟩ := h
  obtain ⟨u, rfl, r1⟩ := vals1 r
  obtain rfl : u = Value.ref a := r1
  have hL := hG.list
  have hz := hL.len hw
  have hdp := hG.dep
  rw [PyData.shown] at hz
  cases hd with
  | lst hq ha =>
    obtain ⟨its, rv, ⟨o, n, ho, hc, _, hd⟩, _⟩ := I.list hq
    obtain ⟨⟨as, hr⟩, bs, hb, hk⟩ := DvAll.repk I ds _ its ha rv hG.sh fun t ht => Nat.le_trans (listText_mem_le ht) hz
    have rd := Reads.list ho hc hd hr
    have hna := not_mem_of_deeper rd (n := PyData.depthAll ds) (by rw [PyData.depth]; omega) hb
    refine call_repr_slot (by omega) (show s.TypeIs (.ref a) "list" from ⟨o, ho, hc⟩) F.slot_list_repr.toG ?_
    have fin : ∀ (h' : Heap) (u : Tok) (tk : _), (∀ b o, s.heap.get? b = some o → h'.get? b = some o) → EP X pins σ Q (.str (PyData.shown (.list ds)) u) { s with heap := h', toks := tk } := fun h' u tk hk => ⟨.str _, H, I.kept hk, ⟨_, rfl⟩, q⟩
    rw [PyData.shown] at fin
    cases its with
    | nil =>
      cases hr
      rw [PyData.shownAll, listText_nil] at fin
      exact call_list_repr_empty ⟨o, ho, hc⟩ ho hd ⟨_, _, rfl, fin s.heap _ _ fun _ _ e => e⟩
    | cons y l =>
      exact call_list_reprK ho hc hd hna (by simpa using hk.length_eq) (fun i y e => hk.item i y (by simpa using e)) hg (fun b _ => Clear.nil b) (by show X.A.units + 1 + (PyData.depthAll ds + 1) < cLine; omega) (fun _ _ e => e) (fun h' u tk hk => ⟨_, _, rfl, fin h' u tk hk⟩) hz
end
end Ln


set_option Elab.async false
set_option linter.all false
set_option maxRecDepth 100000
set_option maxHeartbeats 4000000
namespace Ln
open PySem PySem.Spec PyProof.Rows L2
/-! ### x in t, x a text, t of values of any plain kind -/
theorem dict_declines (l : Addr) (es : Array DictEntry) (n : Nat) (dd : Option Addr) (sl : Array (Option Value)) (b : Str) (u : Tok) :
    Meets (Builtin.«dict.__eq__» ⟨[.ref l, .str b u], []⟩) (fun _ R s => s.heap.get? l = some { cls := .type "dict", dict := dd, data := .dict es n, slots := sl } ∧ R (.ok (.ret .notImplemented)) s) :=
  .of_wp fun prog w A R s h => by
    obtain ⟨hp, g, d, tk, os⟩ := s
    obtain ⟨hl, h⟩ := h
    have f1 := F.sub_str_dict
    wp_walk using wpAny_loadPart' hl, wpAny_load hl
    all_goals exact ⟨_, rfl, h⟩
theorem str_declines_dict (b : Str) (u : Tok) (l : Addr) (es : Array DictEntry) (n : Nat) (dd : Option Addr) (sl : Array (Option Value)) :
    Meets (Builtin.«str.__eq__» ⟨[.str b u, .ref l], []⟩) (fun _ R s => s.heap.get? l = some { cls := .type "dict", dict := dd, data := .dict es n, slots := sl } ∧ R (.ok (.ret .notImplemented)) s) :=
  .of_wp fun prog w A R s h => by
    obtain ⟨hp, g, d, tk, os⟩ := s
    obtain ⟨hl, h⟩ := h
    wp_walk using wpAny_loadPart' hl, wpAny_load hl
    all_goals exact ⟨_, rfl, h⟩
section
variable {A : Around} {s : Shared}
theorem rcAt_dict_str {l : Addr} {es : Array DictEntry} {n : Nat} {dd : Option Addr} {sl : Array (Option Value)} (b : Str) (u : Tok) (ho : s.heap.get? l = some { cls := .type "dict", dict := dd, data := .dict es n, slots := sl }) (hu : A.units < cLine) : SeqAt.RcAt A s (.ref l) (.str b u) false := fun prog w E Q h =>
  SeqAt.rc_eq_decline_or (k := false) ⟨_, ho, rfl⟩ (typeIs_str s b u) (by decide) F.sub_str_dict F.slot_dict_eq F.slot_str_eq_refl
    (fun _ hq => call_meets F.slot_dict_eq ⟨_, ho, rfl⟩ F.entry_dict_eq (F.args_dict_eq_2 _ _) (dict_declines l es n dd sl b u) ⟨ho, hq⟩)
    (fun _ hq => call_meets F.slot_str_eq_refl (typeIs_str s b u) F.entry_str_eq (F.args_str_eq_2 _ _) (str_declines_dict b u l es n dd sl) ⟨ho, hq⟩)
    (fun _ hq => wpAny_of_eq (rfl : isSame (.ref l) (.str b u) = pure false) hq) (.inr hu) h
theorem eqAt_dict_str {l : Addr} {es : Array DictEntry} {n : Nat} {dd : Option Addr} {sl : Array (Option Value)} (b : Str) (u : Tok) (ho : s.heap.get? l = some { cls := .type "dict", dict := dd, data := .dict es n, slots := sl }) (hu : A.units < cLine) : SeqAt.EqAt A s (.ref l) (.str b u) false := fun prog w E Q h => by
  unfold eqBool
  refine wpAny_holding ?_
  refine wpAny_ite_split (fun hab => absurd (eq_of_beq hab) nofun) (fun _ => ?_)
  exact wpAny_bind (rcAt_dict_str b u ho hu prog w E _ (wpAny_truthy_bool h))
end
/-- the text z itself -/
def eqS (z : Str) : PyData → Bool
  | .str x => x == z
  | _ => false
def eqSU (z : Str) : Value → Bool
  | .str x _ => x == z
  | _ => false
section
variable {X : Cx} {pins : List (Addr × Obj)} {σ : L2.St} {H : Hp} {s : Shared}
theorem dv_eqS {z : Str} {v : V} {d : PyData} {u : Value} (h : Dv X.K H v d) (r : RelV v u) : eqSU z u = eqS z d := by
  cases h with
  | non => cases r; rfl
  | bl b => cases r; rfl
  | int i => obtain ⟨t, rfl⟩ := r; rfl
  | str x _ => obtain ⟨t, rfl⟩ := r; rfl
  | lst _ _ => cases r; rfl
  | tup _ _ => cases r; rfl
  | dic _ => cases r; rfl
theorem dv_eqAt (I : Inv X pins σ H s) {A : Around} (hu : A.units < cLine) {z : Str} {t : Tok} {v : V} {d : PyData} {u : Value} (h : Dv X.K H v d) (r : RelV v u) : SeqAt.EqAt A s u (.str z t) (eqSU z u) := by
  cases h with
  | non => cases r; exact SeqAt.EqAt.none_str z t
  | bl b => cases r; exact SeqAt.EqAt.bool_str b z t
  | int i => obtain ⟨t', rfl⟩ := r; exact SeqAt.EqAt.int_str i t' z t
  | str x _ => obtain ⟨t', rfl⟩ := r; exact SeqAt.EqAt.str_str x t' z t
  | lst hq _ =>
    cases r
    obtain ⟨its, _, pl, _⟩ := I.list hq
    exact SeqAt.EqAt.list_str z t pl.isList hu
  | tup hq _ =>
    cases r
    obtain ⟨its, _, pl, _⟩ := I.tuple hq
    exact SeqAt.EqAt.tuple_str z t pl hu
  | dic e =>
    cases r
    obtain ⟨_, _, vs, _, ⟨oc, od, odt, osl⟩, es, ep, ho, hx, hd, _⟩ := dk_of I.hok e
    have hx := hx.1
    simp only at hx hd
    subst hx hd
    exact eqAt_dict_str z t ho hu
theorem dv_anyS {z : Str} : ∀ {vs : List V} {ds : List PyData} {us : List Value}, DvAll X.K H vs ds → Vals vs us → us.any (eqSU z) = ds.any (eqS z)
  | _, _, _, .nil, .nil => rfl
  | _, _, _, .cons a b, .cons r t => by rw [List.any_cons, List.any_cons, dv_eqS a r, dv_anyS b t]
theorem dv_memS (I : Inv X pins σ H s) {A : Around} (hu : A.units < cLine) {z : Str} {t : Tok} : ∀ {vs : List V} {ds : List PyData} {us : List Value}, DvAll X.K H vs ds → Vals vs us → ∀ u ∈ us, SeqAt.EqAt A s u (.str z t) (eqSU z u)
  | _, _, _, .nil, .nil => fun u hu => nomatch hu
  | _, _, _, .cons a b, .cons r t => fun u hm => by
    rcases List.mem_cons.mp hm with rfl | hm
    · exact dv_eqAt I hu a r
    · exact dv_memS I hu b t u hm
def rInV (K : PySem.W.Frag) : R2 := fun x y H Q => ∃ (p : Addr) (xs : List V) (ds : List PyData) (z : Str), x = .str z ∧ y = .ref p ∧ SqT K H p xs ∧ DvAll K H xs ds ∧ Q (.bl (ds.any (eqS z))) H
/-- z in t -/
theorem op_inDv (hu : X.A.units + 64 < cLine) : OpR X (compareOp .In) (rInV X.K) := by
  intro pins s σ H x y v u Q I rx ry h
  obtain ⟨p, xs, ds, z, rfl, rfl, hq, hA, q⟩ := h
  cases ry
  obtain ⟨t, rfl⟩ := rx
  obtain ⟨its, r, pl, hz⟩ := I.tuple hq
  refine SeqAt.in_tupleAt (eqSU z) pl (fun w hw => dv_memS I (by show X.A.units + 1 < cLine; omega) hA r w (by simpa using hw)) ⟨.bl _, H, I, rfl, ?_⟩
  rw [show its.toArray.any (eqSU z) = its.any (eqSU z) by simp, dv_anyS hA r]
  exact q
end
end Ln


set_option Elab.async false
set_option linter.all false
set_option maxRecDepth 100000
set_option maxHeartbeats 2000000
namespace Ln
open PySem
/-! ### what is no log -/
def outD : PyData := .tuple [.str "out"]
def innD (c : Str) : PyData := .tuple [.str "in", .str c]
theorem dep_inn (c : Str) : depBD (innD c) = false := rfl
theorem arr_inn (c : Str) : arrBD (innD c) = carB c := by
  show (decide (("in" : Str) = "in") && carB c) = carB c
  rw [decide_eq_true rfl, Bool.true_and]
theorem arr_out : arrBD outD = false := rfl
theorem dep_out : depBD outD = true := by
  show decide (("out" : Str) = "out") = true
  exact decide_eq_true rfl
theorem logW_inn {us : List Str} {m : Nat} {c : Str} {r : List PyData} (h : carB c = true) : logW us m (innD c :: r) = if ¬ c ∈ us then logW (c :: us) (m + 1) r else false := by
  rw [logW_cons, arr_inn, if_pos h]
  rfl
theorem logW_out {us : List Str} {m : Nat} {r : List PyData} : logW us m (outD :: r) = if 0 < m then logW us (m - 1) r else false := by
  rw [logW_cons, arr_out, if_neg Bool.false_ne_true, if_pos dep_out]
theorem logW_odd {us : List Str} {m : Nat} {d : PyData} {r : List PyData} (h1 : arrBD d = false) (h2 : depBD d = false) : logW us m (d :: r) = false := by
  rw [logW_cons, h1, h2, if_neg Bool.false_ne_true, if_neg Bool.false_ne_true]
/-- what is bad behind any start is bad behind a log -/
theorem logW_pre {r : List PyData} (h : ∀ us m, logW us m r = false) : ∀ (ds : List PyData) (us : List Str) (m : Nat), logW us m (ds ++ r) = false
  | [], us, m => h us m
  | d :: ds, us, m => by
    show logW us m (d :: (ds ++ r)) = false
    rw [logW_cons]
    split
    · cases carO d with
      | none => rfl
      | some c =>
        show (if ¬ c ∈ us then _ else false) = false
        split
        · exact logW_pre h ds _ _
        · rfl
    · split
      · split
        · exact logW_pre h ds _ _
        · rfl
      · rfl
theorem logW_outs {us : List Str} {r : List PyData} : ∀ n m : Nat, logW us (m + n) (List.replicate n outD ++ r) = logW us m r
  | 0, m => rfl
  | n + 1, m => by
    rw [List.replicate_succ]
    show logW us (m + (n + 1)) (outD :: (List.replicate n outD ++ r)) = _
    rw [logW_out, if_pos (by omega), show m + (n + 1) - 1 = m + n by omega]
    exact logW_outs n m
theorem bad_outs {us : List Str} {n : Nat} : logW us n (List.replicate (n + 1) outD) = false := by
  have h := logW_outs (us := us) (r := [outD]) n 0
  rw [Nat.zero_add, ← List.replicate_succ'] at h
  rw [h, logW_out, if_neg (by decide)]
theorem bad_back {us : List Str} {n : Nat} {c : Str} (hc : c ∈ us) (h : carB c = true) : logW us n (List.replicate n outD ++ [innD c]) = false := by
  have e := logW_outs (us := us) (r := [innD c]) n 0
  rw [Nat.zero_add] at e
  rw [e, logW_inn h, if_neg fun z => z hc]
theorem bad_twice {c : Str} (h : carB c = true) (us : List Str) (m : Nat) : logW us m [innD c, innD c] = false := by
  rw [logW_inn h]
  split
  · rw [logW_inn h, if_neg fun z => z List.mem_cons_self]
  · rfl
theorem bad_again {c : Str} (h : carB c = true) (us : List Str) (m : Nat) : logW us m [innD c, outD, innD c] = false := by
  rw [logW_inn h]
  split
  · rw [logW_out]
    split
    · rw [logW_inn h, if_neg fun z => z List.mem_cons_self]
    · rfl
  · rfl
theorem bad_car {c : Str} (h : carB c = false) (us : List Str) (m : Nat) (r : List PyData) : logW us m (innD c :: r) = false := logW_odd (by rw [arr_inn]; exact h) rfl
end Ln


set_option Elab.async false
set_option linter.all false
set_option maxRecDepth 100000
set_option maxHeartbeats 4000000
namespace Ln
open PySem PySem.Spec PyProof.Rows L2 GxR
/-! ### a law's own judges of any values -/
mutual
def okD : PyData → Bool
  | .str x => PyData.strOk x
  | .list ds => okDA ds
  | .tuple ds => okDA ds
  | _ => true
def okDA : List PyData → Bool
  | [] => true
  | d :: r => okD d && okDA r
end
theorem okDA_at : ∀ {ds : List PyData} {i : Nat} {d : PyData}, okDA ds = true → ds[i]? = some d → okD d = true
  | [], i, d, _, h => by simp at h
  | e :: r, 0, d, h, hd => by
    cases hd
    rw [okDA, Bool.and_eq_true] at h
    exact h.1
  | e :: r, i + 1, d, h, hd => by
    rw [okDA, Bool.and_eq_true] at h
    exact okDA_at (i := i) h.2 hd
/-- over a text -/
theorem lc_str {K : PySem.W.Frag} {z : Str} {g : TG} {tt : TT} {te : TE} {vs : List Nat} {σ : L2.St} {H1 : Hp} {D : Addr} {Qd : Hp → Prop} (Pv : Nat → Hp → Prop) (h0 : Pv 0 (upd H1 D (.lst [])))
    (hs : ∀ i c H, z.cps.toList[i]? = some c → Pv i H → g (.str ⟨#[c]⟩) (wipe σ vs) H fun σ2 H2 => wipe σ2 vs = wipe σ vs ∧ tt σ2 H2 fun b H3 =>
      if b = true then te σ2 H3 fun y H4 => ∃ acc, H4 D = some (.lst acc) ∧ acc.length < sizeLine ∧ Pv (i + 1) (upd H4 D (.lst (acc ++ [y]))) else Pv (i + 1) H3) (hd : ∀ H, Pv z.cps.size H → Qd H) :
    ∃ W : Nat → Nat → Hp → Prop, (∃ m, W 0 m (upd H1 D (.lst []))) ∧ ∀ i m H, W i m H →
      ((Its z).stop i H ∧ Qd H) ∨ ((Its z).go i H ∧ ∃ Nx : Hp → Prop, (∀ H', Nx H' → ∃ m', m' < m ∧ W (i + 1) m' H') ∧ ∀ x H', (Its z).yld i H x H' → g x (wipe σ vs) H' fun σ2 H2 => wipe σ2 vs = wipe σ vs ∧ tt σ2 H2 fun b H3 =>
        if b = true then te σ2 H3 fun y H4 => ∃ acc, H4 D = some (.lst acc) ∧ acc.length < sizeLine ∧ Nx (upd H4 D (.lst (acc ++ [y]))) else Nx H3) := by
  refine ⟨fun i m H => m = z.cps.size - i ∧ i ≤ z.cps.size ∧ Pv i H, ⟨z.cps.size, by simp, Nat.zero_le _, h0⟩, ?_⟩
  rintro i m H ⟨rfl, hi, p⟩
  by_cases hlt : i < z.cps.size
  · refine .inr ⟨hlt, Pv (i + 1), fun H' p' => ⟨z.cps.size - (i + 1), by omega, rfl, hlt, p'⟩, fun x H' y => ?_⟩
    obtain ⟨rfl, c, hc, rfl⟩ := y
    exact hs i c _ (by rw [Array.getElem?_toList]; exact hc) p
  · have e : i = z.cps.size := by omega
    subst e
    exact .inl ⟨Nat.le_refl _, hd H p⟩
def abcS : Str := "abcdefghijklmnopqrstuvwxyz"
theorem abc_iff (c : Nat) : decide (c ∈ abcS.cps.toList) = lowB c := by
  have e : abcS.cps.toList = (List.range 26).map (· + 97) := by decide +kernel
  rw [e]
  unfold lowB
  by_cases h : 97 ≤ c ∧ c ≤ 122
  · rw [decide_eq_true h.1, decide_eq_true h.2, decide_eq_true]
    · rfl
    · exact List.mem_map.mpr ⟨c - 97, List.mem_range.mpr (by omega), by omega⟩
  · rw [decide_eq_false]
    · by_cases a : 97 ≤ c
      · rw [decide_eq_false (show ¬ c ≤ 122 by omega), Bool.and_false]
      · rw [decide_eq_false a, Bool.false_and]
    · intro z
      obtain ⟨j, hj, rfl⟩ := List.mem_map.mp z
      have := List.mem_range.mp hj
      omega
theorem eqv_nilL (xs : List PyData) : PyData.eqv (.list xs) (.list []) = xs.isEmpty := by
  cases xs with
  | nil => decide +kernel
  | cons x r => simp [PyData.eqv, PyData.eqvAll]
theorem strsD_snoc : ∀ (ds : List PyData) (d : PyData), strsD (ds ++ [d]) = (strsD ds).bind fun xs => (strsD [d]).map (xs ++ ·)
  | [], d => by
    show strsD [d] = (strsD [d]).map fun y => y
    cases strsD [d] <;> rfl
  | .str x :: r, d => by
    show (strsD (r ++ [d])).map (x :: ·) = ((strsD r).map (x :: ·)).bind fun xs => (strsD [d]).map (xs ++ ·)
    rw [strsD_snoc r d]
    cases strsD r <;> cases strsD [d] <;> rfl
  | .none :: r, d => rfl
  | .bool _ :: r, d => rfl
  | .int _ :: r, d => rfl
  | .list _ :: r, d => rfl
  | .tuple _ :: r, d => rfl
  | .dict _ :: r, d => rfl
theorem strsD_any {z : Str} : ∀ {ds : List PyData} {xs : List Str}, strsD ds = some xs → ds.any (eqS z) = decide (z ∈ xs)
  | [], xs, h => by
    cases h
    rfl
  | .str x :: r, xs, h => by
    have h : (strsD r).map (x :: ·) = some xs := h
    cases e : strsD r with
    | none => rw [e] at h; cases h
    | some ys =>
      rw [e] at h
      cases h
      rw [List.any_cons, strsD_any e]
      show ((x == z) || decide (z ∈ ys)) = _
      by_cases q : z = x
      · subst q
        simp
      · have : (x == z) = false := by
          rw [beq_eq_false_iff_ne]
          exact Ne.symm q
        rw [this, Bool.false_or]
        exact decide_eq_decide.mpr ⟨fun h => List.mem_cons_of_mem _ h, fun h => (List.mem_cons.mp h).resolve_left q⟩
  | .none :: r, xs, h => by cases h
  | .bool _ :: r, xs, h => by cases h
  | .int _ :: r, xs, h => by cases h
  | .list _ :: r, xs, h => by cases h
  | .tuple _ :: r, xs, h => by cases h
  | .dict _ :: r, xs, h => by cases h
theorem laneB_snoc (xs : List Str) (z : Str) : laneB (xs ++ [z]) = (laneB xs && (carB z && !decide (z ∈ xs))) := by
  unfold laneB
  rw [List.all_append, Bool.eq_iff_iff]
  simp only [Bool.and_eq_true, List.all_cons, List.all_nil, Bool.and_true, decide_eq_true_eq, Bool.not_eq_true', decide_eq_false_iff_not, List.nodup_append, List.nodup_cons, List.mem_singleton]
  constructor
  · rintro ⟨⟨h1, h2⟩, h3, _, h4⟩
    exact ⟨⟨h1, h3⟩, h2, fun h => h4 z h z rfl rfl⟩
  · rintro ⟨⟨h1, h3⟩, h2, h4⟩
    exact ⟨⟨h1, h2⟩, h3, by simp, fun a ha b hb e => h4 (by rw [← hb, ← e]; exact ha)⟩
/-- one more part -/
theorem lane_snoc (ds : List PyData) (d : PyData) : laneD (.tuple (ds ++ [d])) = (laneD (.tuple ds) && (carD d && !(match d with | .str z => ds.any (eqS z) | _ => false))) := by
  show (match strsD (ds ++ [d]) with | some xs => laneB xs | none => false) = ((match strsD ds with | some xs => laneB xs | none => false) && _)
  rw [strsD_snoc]
  cases e : strsD ds with
  | none => rfl
  | some xs =>
    cases d with
    | str z =>
      show laneB (xs ++ [z]) = (laneB xs && (carB z && !ds.any (eqS z)))
      rw [laneB_snoc, strsD_any e]
    | _ => show false = (laneB xs && (false && _)); rw [Bool.false_and, Bool.and_false]
section
variable {P : Program} {w : World} {K : PySem.W.Frag} {mg : Str → Option Value} {base : Heap} {Ps : List Addr}
def spLawCar (K : PySem.W.Frag) : Sp := fun vs H Q _ => ∃ (v : V) (d : PyData), vs = [v] ∧ Dv K H v d ∧ okD d = true ∧ ∀ H', L2.Same H H' → Q (.bl (carD d)) H'
def spLawLane (K : PySem.W.Frag) : Sp := fun vs H Q _ => ∃ (v : V) (d : PyData), vs = [v] ∧ Dv K H v d ∧ okD d = true ∧ SzA d ∧ ∀ H', L2.Same H H' → Q (.bl (laneD d)) H'
theorem logW_no {us : List Str} {m : Nat} {d : PyData} {r : List PyData} (h1 : arrBD d = false) (h2 : depBD d = false) : logW us m (d :: r) = false := by
  rw [logW_cons, h1, h2, if_neg Bool.false_ne_true, if_neg Bool.false_ne_true]
theorem arr_non {e : PyData} {r : List PyData} (h : isStr e = false) : arrBD (.tuple (e :: r)) = false := by
  cases e with
  | str x => cases h
  | _ => rfl
theorem dep_non {e : PyData} {r : List PyData} (h : isStr e = false) : depBD (.tuple (e :: r)) = false := by
  cases e with
  | str x => cases h
  | _ => rfl
def spLawLog (K : PySem.W.Frag) : Sp := fun vs H Q _ => ∃ (t : Addr) (v : V) (xs : List Str) (d : PyData), vs = [.ref t, v] ∧ SqT K H t (xs.map V.str) ∧ xs.length ≤ 300 ∧ Dv K H v d ∧ okD d = true ∧ (∀ ds, d = .list ds → ds.length ≤ 600) ∧ ∀ H', L2.Same H H' → Q (.bl (logD xs d)) H'
end
end Ln


set_option Elab.async false
set_option linter.all false
set_option maxRecDepth 100000
set_option maxHeartbeats 4000000
namespace Ln
open PySem PySem.Spec PyProof.Rows L2 GxR
/-! ### values of any plain kind, read off several objects; odd values; bent values -/
def offB (H : Hp) (S : Addr → Bool) : Hp := fun b => if S b = true then none else H b
def Full (S : Addr → Bool) (H : Hp) : Prop := ∀ b, S b = true → H b ≠ none
theorem Full.same {S : Addr → Bool} {H H' : Hp} (h : Full S H) (k : L2.Same H H') : Full S H' := fun b hb z => h b hb (sm_none k z)
theorem Full.out {S : Addr → Bool} {H : Hp} {p : Addr} (h : Full S H) (hp : H p = none) : S p = false := by
  cases e : S p with
  | false => rfl
  | true => exact absurd hp (h p e)
theorem offB_at {H : Hp} {S : Addr → Bool} {b : Addr} (n : S b = false) : offB H S b = H b := by
  unfold offB
  rw [n]
  rfl
theorem offB_sub {H : Hp} {S : Addr → Bool} : L2.Same (offB H S) H := fun b o e => by
  unfold offB at e
  split at e
  · cases e
  · exact e
theorem off_mv {H H' : Hp} {S S' : Addr → Bool} (k : ∀ b o, H b = some o → S b = false → H' b = some o) (i : ∀ b, S' b = true → S b = true) : L2.Same (offB H S) (offB H' S') := fun b o e => by
  cases z : S b with
  | true =>
    unfold offB at e
    rw [z] at e
    cases e
  | false =>
    have z' : S' b = false := by
      cases y : S' b with
      | false => rfl
      | true => rw [i b y] at z; cases z
    rw [offB_at z] at e
    rw [offB_at z']
    exact k b o e z
theorem offB_sm {H H' : Hp} {S : Addr → Bool} (k : L2.Same H H') : L2.Same (offB H S) (offB H' S) := off_mv (fun b o e _ => k b o e) fun _ h => h
theorem offB_ch {s0 : Addr} {H H' : Hp} {S : Addr → Bool} (k : Ch s0 H H') (hs : S s0 = true) : L2.Same (offB H S) (offB H' S) := off_mv (fun b o e z => k b o e fun y => by rw [y, hs] at z; cases z) fun _ h => h
structure Bt2 (K : PySem.W.Frag) (S : Addr → Bool) (H : Hp) (v : V) (d : PyData) : Prop where
  dv : Dv K (offB H S) v d
  ls : ∀ ds, d = .list ds → ∃ (a : Addr) (xs : List V), v = .ref a ∧ H a = some (.lst xs) ∧ S a = false ∧ DvAll K (offB H S) xs ds
def EnvB (K : PySem.W.Frag) (S : Addr → Bool) (Γ : List (Nat × PyData)) (σ : L2.St) (H : Hp) : Prop := ∀ p ∈ Γ, ∃ v, σ[p.1]? = some (some v) ∧ Bt2 K S H v p.2
def tB2 (K : PySem.W.Frag) (S : Addr → Bool) (Γ : List (Nat × PyData)) (d : PyData) : TE := fun σ H Q => Full S H ∧ EnvB K S Γ σ H ∧ ∀ H' v, L2.Same H H' → Bt2 K S H' v d → Q v H'
def tBA (K : PySem.W.Frag) (S : Addr → Bool) (Γ : List (Nat × PyData)) (ds : List PyData) : TA := fun σ H Q => Full S H ∧ EnvB K S Γ σ H ∧ ∀ H' vs, L2.Same H H' → DvAll K (offB H' S) vs ds → Q vs H'
section
variable {K : PySem.W.Frag} {S : Addr → Bool} {H H' : Hp} {v : V} {d : PyData} {Γ : List (Nat × PyData)} {σ : L2.St}
theorem Bt2.same (h : Bt2 K S H v d) (k : L2.Same H H') : Bt2 K S H' v d := ⟨h.dv.same (offB_sm k), fun ds e => by
  obtain ⟨a, xs, e1, e2, n, dv⟩ := h.ls ds e
  exact ⟨a, xs, e1, k _ _ e2, n, dv.same (offB_sm k)⟩⟩
theorem Bt2.of (h : Dv K (offB H S) v d) (n : ∀ ds, d ≠ .list ds) : Bt2 K S H v d := ⟨h, fun ds e => absurd e (n ds)⟩
theorem EnvB.same (h : EnvB K S Γ σ H) (k : L2.Same H H') : EnvB K S Γ σ H' := fun p hp => let ⟨v, e, d⟩ := h p hp; ⟨v, e, d.same k⟩
theorem EnvB.nil : EnvB K S [] σ H := fun _ h => nomatch h
theorem EnvB.cons {i : Nat} (e : σ[i]? = some (some v)) (h : Bt2 K S H v d) (t : EnvB K S Γ σ H) : EnvB K S ((i, d) :: Γ) σ H := fun p hp => by
  rcases List.mem_cons.mp hp with rfl | hp
  · exact ⟨v, e, h⟩
  · exact t p hp
end
section
variable {X : Cx} {S : Addr → Bool} {Γ : List (Nat × PyData)} {d : PyData} {ds es : List PyData} {e : Expr} {el : List Expr} {pos : Pos}
theorem b_non {j : Nat} : PE X (.Constant .none j pos) (tB2 X.K S Γ .none) := pe_imp pe_non fun σ H Q ⟨_, _, q⟩ => q H _ sm_refl (.of .non fun _ z => nomatch z)
theorem b_int {j : Nat} {i : Int} : PE X (.Constant (.int i) j pos) (tB2 X.K S Γ (.int i)) := pe_imp pe_int fun σ H Q ⟨_, _, q⟩ => q H _ sm_refl (.of (.int i) fun _ z => nomatch z)
theorem b_of {i : Int} {t : TE} (h : PE X e t) (k : ∀ σ H Q, Q (.int i) H → t σ H Q) : PE X e (tB2 X.K S Γ (.int i)) := pe_imp h fun σ H Q ⟨_, _, q⟩ => k _ _ _ (q H _ sm_refl (.of (.int i) fun _ z => nomatch z))
theorem b_bl {j : Nat} {b : Bool} : PE X (.Constant (.bool b) j pos) (tB2 X.K S Γ (.bool b)) := pe_imp pe_bl fun σ H Q ⟨_, _, q⟩ => q H _ sm_refl (.of (.bl b) fun _ z => nomatch z)
theorem b_str {j : Nat} {x : Str} (h : decide (x.length ≤ 100) = true := by decide) : PE X (.Constant (.str x) j pos) (tB2 X.K S Γ (.str x)) := pe_imp pe_str fun σ H Q ⟨_, _, q⟩ => q H _ sm_refl (.of (.str x (by have := of_decide_eq_true h; rw [sizeLine_eq]; omega)) fun _ z => nomatch z)
theorem b_var {i : Nat} {x : Str} (h : PE X (.Name x pos) (tVar i)) (m : (i, d) ∈ Γ) : PE X (.Name x pos) (tB2 X.K S Γ d) := pe_imp h fun σ H Q ⟨_, en, q⟩ => let ⟨v, ev, dv⟩ := en _ m; ⟨v, ev, q H v sm_refl dv⟩
theorem ba_nil : PA X [] (tBA X.K S Γ []) := pa_imp pa_nil fun σ H Q ⟨_, _, q⟩ => q H [] sm_refl .nil
theorem ba_cons (h : PE X e (tB2 X.K S Γ d)) (t : PA X el (tBA X.K S Γ ds)) (hs : starEach (e :: el) X.env = (false, eval e X.env) :: starEach el X.env := by rfl) : PA X (e :: el) (tBA X.K S Γ (d :: ds)) :=
  pa_imp (pa_cons h t hs) fun σ H Q ⟨hs, en, q⟩ => ⟨hs, en, fun H1 v k dv => ⟨hs.same k, en.same k, fun H2 vs k2 dvs => q H2 _ (sm_trans k k2) (.cons (dv.same k2).dv dvs)⟩⟩
theorem b_lst (a : PA X el (tBA X.K S Γ ds)) (hl : decide (ds.length ≤ 900) = true := by exact rfl) : PE X (.List el pos) (tB2 X.K S Γ (.list ds)) :=
  pe_imp (pe_lst a) fun σ H Q ⟨hs, en, q⟩ => ⟨hs, en, fun H1 vs k dv => ⟨by have := of_decide_eq_true hl; rw [dv.len, sizeLine_eq]; omega, fun p hp => by
    have k2 : L2.Same H1 (upd H1 p (.lst vs)) := sm_new sm_refl hp
    have n : S p = false := (hs.same k).out hp
    have d2 := dv.same (offB_sm (S := S) k2)
    exact q _ _ (sm_trans k k2) ⟨.lst (SqL.of (by rw [offB_at n]; exact upd_same)) d2, fun es e => by cases e; exact ⟨p, vs, rfl, upd_same, n, d2⟩⟩⟩⟩
theorem b_tup {x1 : _} (a : PA X el (tBA X.K S Γ ds)) (hl : decide (ds.length ≤ 900) = true := by exact rfl) : PE X (.Tuple el x1 pos) (tB2 X.K S Γ (.tuple ds)) :=
  pe_imp (pe_tup a) fun σ H Q ⟨hs, en, q⟩ => ⟨hs, en, fun H1 vs k dv => ⟨by have := of_decide_eq_true hl; rw [dv.len, sizeLine_eq]; omega, fun p hp => by
    have k2 : L2.Same H1 (upd H1 p (.tup vs)) := sm_new sm_refl hp
    have n : S p = false := (hs.same k).out hp
    have d2 := dv.same (offB_sm (S := S) k2)
    exact q _ _ (sm_trans k k2) (.of (.tup (SqT.of (by rw [offB_at n]; exact upd_same)) d2) fun _ z => nomatch z)⟩⟩
theorem b_dic : PE X (.Dict [] [] pos) (tB2 X.K S Γ (.dict [])) := pe_imp pe_dnewK fun σ H Q ⟨hs, en, q⟩ p hp => by
  have k2 : L2.Same H (upd H p (.dK [])) := sm_new sm_refl hp
  have n : S p = false := hs.out hp
  exact q _ _ k2 (.of (.dic (by rw [offB_at n]; exact upd_same)) fun _ z => nomatch z)
theorem b_cat {a b : Expr} (ha : PE X a (tB2 X.K S Γ (.list ds))) (hb : PE X b (tB2 X.K S Γ (.list es))) (hl : ds.length + es.length ≤ 10000) : PE X (.BinOp a .Add b pos) (tB2 X.K S Γ (.list (ds ++ es))) :=
  pe_imp (pe_op op_cat ha hb) fun σ H Q ⟨hs, en, q⟩ => ⟨hs, en, fun H1 v1 k1 d1 => ⟨hs.same k1, en.same k1, fun H2 v2 k2 d2 => by
    obtain ⟨a1, xs, rfl, e1, n1, c1⟩ := d1.ls _ rfl
    obtain ⟨a2, ys, rfl, e2, n2, c2⟩ := d2.ls _ rfl
    refine ⟨a1, a2, xs, ys, rfl, rfl, k2 _ _ e1, e2, by rw [c1.len, c2.len, sizeLine_eq]; omega, fun p hp => ?_⟩
    have k3 : L2.Same H2 (upd H2 p (.lst (xs ++ ys))) := sm_new sm_refl hp
    have n : S p = false := (hs.same (sm_trans k1 k2)).out hp
    have c3 := DvAll.app (c1.same (offB_sm (S := S) (sm_trans k2 k3))) (c2.same (offB_sm (S := S) k3))
    exact q _ _ (sm_trans k1 (sm_trans k2 k3)) ⟨.lst (SqL.of (by rw [offB_at n]; exact upd_same)) c3, fun es e => by cases e; exact ⟨p, _, rfl, upd_same, n, c3⟩⟩⟩⟩
/-- menu[draw(source, len(menu))] -/
theorem b_pick {ib im : Nat} {s0 : Addr} {E : XK} (h : PE X e (tOp (rIxL X.K) (tVar im) (tCall spDraw [] E (tCons (tVar ib) (tCons (tCB (fun xs H Q => ∃ p ys, xs = [.ref p] ∧ (SqL X.K H p ys ∨ SqT X.K H p ys) ∧ Q (.int ys.length) H) (tCons (tVar im) tNil)) tNil))))) (m : (im, .list ds) ∈ Γ) (hS : S s0 = true) :
    PE X e fun σ H Q => ∃ (l : List V) (n : Nat), σ[ib]? = some (some (.ref s0)) ∧ H s0 = some (.lst l) ∧ SrcV n l ∧ n ≤ 1000000 ∧ EnvB X.K S Γ σ H ∧ 0 < ds.length ∧ ds.length ≤ 1000 ∧
      ∀ H' v d l', Ch s0 H H' → H' s0 = some (.lst l') → SrcV (n + 1) l' → d ∈ ds → Dv X.K (offB H' S) v d → Q v H' :=
  pe_imp h fun σ H Q ⟨l, n, eb, hs, hl, hn, en, h0, h9, q⟩ => by
    obtain ⟨v, ev, dt⟩ := en _ m
    obtain ⟨a, xs, rfl, ea, na, c⟩ := dt.ls _ rfl
    have hlen := c.len
    have nas : a ≠ s0 := fun z => by rw [z, hS] at na; cases na
    refine ⟨.ref a, ev, .ref s0, eb, .ref a, ev, a, xs, rfl, .inl (SqL.of ea), s0, l, n, xs.length, rfl, hs, hl, hn, by omega, by omega, fun l2 r hl2 h0 h1 => ?_⟩
    obtain ⟨j, rfl⟩ : ∃ j : Nat, r = (j : Int) := ⟨r.toNat, by omega⟩
    obtain ⟨u, hu, du⟩ := c.at_ (List.getElem?_eq_getElem (show j < ds.length by omega))
    refine ⟨a, xs, (j : Nat), u, rfl, rfl, SqL.of (by rw [upd_ne nas]; exact ea), atI_nat hu, ?_⟩
    exact q _ u _ l2 Ch.src upd_same hl2 (List.getElem_mem _) (du.same (offB_ch Ch.src hS))
end
/-! sizes -/
structure Bd (d : PyData) (dep w ln : Nat) : Prop where
  rp : Rp d dep w
  ok : okD d = true
  ln : ∀ ds, (d = .list ds ∨ d = .tuple ds) → ds.length ≤ ln
def lenD : PyData → Nat
  | .list ds => ds.length
  | .tuple ds => ds.length
  | _ => 0
def bdB (d : PyData) (dep w ln : Nat) : Bool := rpB d dep w && okD d && decide (lenD d ≤ ln)
theorem Bd.dec {d : PyData} {dep w ln : Nat} (h : bdB d dep w ln = true) : Bd d dep w ln := by
  unfold bdB at h
  simp only [Bool.and_eq_true, decide_eq_true_eq] at h
  refine ⟨.dec h.1.1, h.1.2, fun ds e => ?_⟩
  rcases e with rfl | rfl
  · exact h.2
  · exact h.2
theorem Bd.mono {d : PyData} {a b u v m k : Nat} (h : Bd d a u m) (h1 : a ≤ b) (h2 : u ≤ v) (h3 : m ≤ k) : Bd d b v k := ⟨h.rp.mono h1 h2, h.ok, fun ds e => Nat.le_trans (h.ln ds e) h3⟩
structure BdA (ds : List PyData) (dep w : Nat) : Prop where
  rp : RpA ds dep w
  ok : okDA ds = true
theorem BdA.mono {ds : List PyData} {a b u v : Nat} (h : BdA ds a u) (h1 : a ≤ b) (h2 : u ≤ v) : BdA ds b v := ⟨h.rp.mono h1 h2, h.ok⟩
theorem okDA_app : ∀ (A B : List PyData), okDA (A ++ B) = (okDA A && okDA B)
  | [], B => by rw [List.nil_append, okDA, Bool.true_and]
  | a :: A, B => by rw [List.cons_append, okDA, okDA, okDA_app A B, Bool.and_assoc]
theorem BdA.nil {dep : Nat} : BdA [] dep 0 := ⟨.nil, by rw [okDA]⟩
theorem BdA.cons {d : PyData} {ds : List PyData} {dep a b ln : Nat} (h : Bd d dep a ln) (t : BdA ds dep b) : BdA (d :: ds) dep (a + 1 + b) := ⟨.cons h.rp t.rp, by rw [okDA, h.ok, t.ok]; rfl⟩
theorem BdA.app {A B : List PyData} {dep a b : Nat} (h : BdA A dep a) (t : BdA B dep b) : BdA (A ++ B) dep (a + b) := ⟨h.rp.app t.rp, by rw [okDA_app, h.ok, t.ok]; rfl⟩
theorem BdA.uncons {d : PyData} {ds : List PyData} {dep w : Nat} (h : BdA (d :: ds) dep w) : ∃ a b, a + 1 + b ≤ w ∧ Rp d dep a ∧ okD d = true ∧ BdA ds dep b := by
  have s := h.rp.sh
  have l := h.rp.lv
  have dp := h.rp.dep
  have w' := h.rp.wt
  have o := h.ok
  rw [PyData.showableAll, Bool.and_eq_true] at s
  rw [PyData.leavesShortAll, Bool.and_eq_true] at l
  rw [PyData.depthAll] at dp
  rw [PyData.weightAll] at w'
  rw [okDA, Bool.and_eq_true] at o
  exact ⟨d.weight, PyData.weightAll ds, by omega, ⟨s.1, by omega, Nat.le_refl _, l.1⟩, o.1, ⟨s.2, by omega, Nat.le_refl _, l.2⟩, o.2⟩
theorem BdA.split : ∀ {A B : List PyData} {dep w : Nat}, BdA (A ++ B) dep w → ∃ a b, a + b ≤ w ∧ BdA A dep a ∧ BdA B dep b
  | [], B, dep, w, h => ⟨0, w, by omega, .nil, h⟩
  | d :: A, B, dep, w, h => by
    obtain ⟨a, b, e, hd, ho, ht⟩ := h.uncons
    obtain ⟨c, g, e2, hA, hB⟩ := BdA.split ht
    exact ⟨a + 1 + c, g, by omega, ⟨.cons hd hA.rp, by rw [okDA, ho, hA.ok]; rfl⟩, hB⟩
theorem BdA.len : ∀ {A : List PyData} {dep w : Nat}, BdA A dep w → A.length ≤ w
  | [], _, _, _ => Nat.zero_le _
  | d :: A, dep, w, h => by
    obtain ⟨a, b, e, _, _, ht⟩ := h.uncons
    have := BdA.len ht
    rw [List.length_cons]
    omega
theorem BdA.rev : ∀ {A : List PyData} {dep w : Nat}, BdA A dep w → BdA A.reverse dep w
  | [], _, _, h => h
  | d :: A, dep, w, h => by
    obtain ⟨a, b, e, hd, ho, ht⟩ := h.uncons
    rw [List.reverse_cons]
    exact (BdA.app (BdA.rev ht) ⟨.cons hd .nil, by rw [okDA, ho, okDA]; rfl⟩).mono (Nat.le_refl _) (by omega)
theorem BdA.tk {A : List PyData} {dep w : Nat} (i : Nat) (h : BdA A dep w) : ∃ a b, a + b ≤ w ∧ BdA (A.take i) dep a ∧ BdA (A.drop i) dep b := BdA.split (by rw [List.take_append_drop]; exact h)
theorem BdA.list {ds : List PyData} {dep w : Nat} (h : BdA ds dep w) : Bd (.list ds) (dep + 1) w ds.length := ⟨h.rp.list, by rw [okD]; exact h.ok, fun es e => by
  rcases e with e | e
  · cases e
    exact Nat.le_refl _
  · cases e⟩
theorem BdA.tuple {ds : List PyData} {dep w : Nat} (h : BdA ds dep w) : Bd (.tuple ds) (dep + 1) w ds.length := ⟨h.rp.tuple, by rw [okD]; exact h.ok, fun es e => by
  rcases e with e | e
  · cases e
  · cases e
    exact Nat.le_refl _⟩
theorem Bd.ofL {ds : List PyData} {dep w ln : Nat} (h : Bd (.list ds) dep w ln) : ∃ j, dep = j + 1 ∧ BdA ds j w := by
  have s := h.rp.sh
  have l := h.rp.lv
  have dp := h.rp.dep
  have w' := h.rp.wt
  have o := h.ok
  rw [PyData.showable] at s
  rw [PyData.leavesShort] at l
  rw [PyData.depth] at dp
  rw [PyData.weight] at w'
  rw [okD] at o
  exact ⟨dep - 1, by omega, ⟨s, by omega, w', l⟩, o⟩
theorem Bd.ofT {ds : List PyData} {dep w ln : Nat} (h : Bd (.tuple ds) dep w ln) : ∃ j, dep = j + 1 ∧ BdA ds j w := by
  have s := h.rp.sh
  have l := h.rp.lv
  have dp := h.rp.dep
  have w' := h.rp.wt
  have o := h.ok
  rw [PyData.showable] at s
  rw [PyData.leavesShort] at l
  rw [PyData.depth] at dp
  rw [PyData.weight] at w'
  rw [okD] at o
  exact ⟨dep - 1, by omega, ⟨s, by omega, w', l⟩, o⟩
def menO1 : List PyData := [.none, .bool true, .bool false, .int 0, .int 1, .int (-1), .str "", .str "a", .str "ab", .str "abcde", .str "A", .str "in", .str "out", .tuple [], .list [], .dict [], .tuple [.str "in", .str "a"], .tuple [.str "out"]]
def menO2 : List PyData := [.tuple [.str "in"], .tuple [.str "out", .str "a"], .tuple [.str "in", .str "a", .str "b"], .list [.str "out"], .list [.str "in", .str "a"], .str "L", .tuple [.str "in", .tuple [.str "a"]], .tuple [.str "OUT"]]
theorem odd_bd {d : PyData} (h : d ∈ menO1 ++ menO2) : Bd d 2 30 3 := by
  have e : ∀ d ∈ menO1 ++ menO2, bdB d 2 30 3 = true := by
    have k : ((menO1 ++ menO2).all fun d => bdB d 2 30 3) = true := by decide +kernel
    exact List.all_eq_true.mp k
  exact .dec (e d h)
section
variable {P : Program} {w : World} {K : PySem.W.Frag} {mg : Str → Option Value} {base : Heap} {Ps : List Addr}
def spOdd (K : PySem.W.Frag) : Sp := fun vs H Q _ => ∃ (s0 : Addr) (l : List V) (n : Nat) (S : Addr → Bool), vs = [.ref s0] ∧ H s0 = some (.lst l) ∧ SrcV n l ∧ n + 10 ≤ 1000000 ∧ S s0 = true ∧ Full S H ∧
  ∀ (H' : Hp) (v : V) (d : PyData) (l' : List V), Ch s0 H H' → H' s0 = some (.lst l') → SrcV (n + 1) l' → Dv K (offB H' S) v d → Bd d 2 30 3 → Q v H'
end
end Ln


set_option Elab.async false
set_option linter.all false
set_option maxRecDepth 100000
set_option maxHeartbeats 8000000
namespace Ln
open PySem PySem.Spec PyProof.Rows L2
/-! ### slices with a number, values set in a list -/
theorem cut_pt {xs : List V} {c : Nat} : cutV xs none (some (c : Int)) = xs.take c := by
  unfold cutV
  rw [HT.sIx_none, List.drop_zero, Nat.sub_zero, show HT.sIx xs.length xs.length (some (c : Int)) = min c xs.length from HT.sIx_nat _ _ c]
  rw [List.take_eq_take_iff]
  omega
theorem cut_pd {xs : List V} {c : Nat} : cutV xs (some (c : Int)) none = xs.drop c := by
  unfold cutV
  rw [show HT.sIx xs.length 0 (some (c : Int)) = min c xs.length from HT.sIx_nat _ _ c, HT.sIx_none]
  by_cases h : c ≤ xs.length
  · rw [Nat.min_eq_left h, List.take_of_length_le (by rw [List.length_drop]; omega)]
  · rw [Nat.min_eq_right (by omega), Nat.sub_self, List.take_zero, List.drop_eq_nil_of_le (by omega : xs.length ≤ c)]
theorem DvAll.drop {K : PySem.W.Frag} {H : Hp} : ∀ (n : Nat) {vs : List V} {ds : List PyData}, DvAll K H vs ds → DvAll K H (vs.drop n) (ds.drop n)
  | 0, _, _, h => h
  | n + 1, _, _, .nil => .nil
  | n + 1, _, _, .cons a b => DvAll.drop n b
theorem use_it {P G : Prop} (f : P → G) (p : P) : G := f p
theorem ixN_nat8 {n j : Nat} (h : j < n) : ixN n ((j : Nat) : Int) = some j := by
  unfold ixN
  rw [if_pos (by omega), if_pos (by omega)]
  rfl
theorem dv_set {K : PySem.W.Frag} {H : Hp} {v : V} {d : PyData} : ∀ {vs : List V} {ds : List PyData}, DvAll K H vs ds → Dv K H v d → ∀ c : Nat, DvAll K H (vs.set c v) (ds.set c d)
  | _, _, .nil, _, _ => .nil
  | _, _, .cons _ b, h, 0 => .cons h b
  | _, _, .cons a b, h, c + 1 => .cons a (dv_set b h c)
end Ln


set_option Elab.async false
set_option linter.all false
set_option maxRecDepth 100000
set_option maxHeartbeats 4000000
namespace Ln
open PySem PySem.Spec PyProof.Rows L2 GxR
/-! ### point 12: which sets can stay -/
def gapF (xs S : List Str) : Option Str := (cutN xs (brg xs S)).find? fun c => !decide (c ∈ S)
def depB4 (S : List Str) : Nat → List Ev → Option Nat
  | _, [] => none
  | n, .out :: r => depB4 S (n + 1) r
  | n, .inn c :: r => if c ∈ S then some n else depB4 S n r
def sideF (xs S : List Str) (es : List Ev) : Option (Nat × Nat × Nat) :=
  match depB4 S 0 es with
  | none => none
  | some d => if (brg xs S).2 = 0 then none else if d < min (brg xs S).1 (xs.length - (brg xs S).2) then some ((brg xs S).1, xs.length - (brg xs S).2, d) else none
inductive WS where
  | ok
  | size (n : Int)
  | moment (t : Nat)
  | block (c : Str)
  | sides (l r d : Nat)
def whyS (xs : List Str) (es : List Ev) (S : List Str) : WS :=
  if (S.length : Int) ≠ endI xs.length es then .size (endI xs.length es) else
  match fneg (ext0 xs S es) with
  | some t => .moment t
  | none => match gapF xs S with
    | some c => .block c
    | none => match sideF xs S es with
      | some p => .sides p.1 p.2.1 p.2.2
      | none => .ok
def wsT : WS → Option (List V)
  | .ok => none
  | .size n => some [.str "size", .int n]
  | .moment t => some [.str "moment", .int (t : Nat)]
  | .block c => some [.str "block", .str c]
  | .sides l r d => some [.str "sides", .int (l : Nat), .int (r : Nat), .int (d : Nat)]
def RsV (H H' : Hp) (v : V) : Option (List V) → Prop
  | none => v = .non
  | some l => ∃ p, v = .ref p ∧ H p = none ∧ H' p = some (.tup l)
theorem cutK {K : PySem.W.Frag} {Ps : List Addr} {H H1 : Hp} {a : Addr} {xs : List Str} {p : Nat × Nat} {Q : VK} (hT : Tabs Ps H) (k1 : Kp Ps H H1) (hA : SqT K H1 a (xs.map V.str)) (h1 : p.1 ≤ xs.length) (h2 : p.2 ≤ xs.length)
    (q : ∀ H' z, Kp Ps H H' → SqT K H' z ((cutN xs p).map V.str) → Q (.ref z) H') : rSlA K (.ref a) (some ((p.1 : Nat) : Int)) (some ((p.2 : Nat) : Int)) H1 Q := by
  have hcut : cutV (xs.map V.str) (some ((p.1 : Nat) : Int)) (some ((p.2 : Nat) : Int)) = (cutN xs p).map V.str := by
    rw [cutV_nat (by rw [List.length_map]; exact h1) (by rw [List.length_map]; exact h2)]
    unfold cutN
    rw [← List.map_take, ← List.map_drop]
  refine ⟨a, _, rfl, hA, fun hw => ?_, fun _ z hz => ?_⟩
  · refine q H1 a k1 ?_
    rw [HT.sIx_nat, HT.sIx_nat, List.length_map, Nat.min_eq_left h1, Nat.min_eq_left h2] at hw
    have e : cutN xs p = xs := by
      unfold cutN
      rw [hw.1, hw.2, List.take_length]
      rfl
    rw [e]
    exact hA
  · rw [hcut]
    exact q _ z (k1.upd hT (k1.free hT hz)) (SqT.of upd_same)
section
variable {P : Program} {w : World} {K : PySem.W.Frag} {mg : Str → Option Value} {base : Heap} {Ps : List Addr}
def spReqCars (K : PySem.W.Frag) (Ps : List Addr) : Sp := fun vs H Q _ => ∃ (a l f : Addr) (xs : List Str) (as : List Addr) (es : List Ev) (S : List Str), vs = [.ref a, .ref l, .ref f] ∧ LaneAt K H a xs ∧ laneB xs = true ∧ LogAt K H l as es ∧ logB xs xs.length es = true ∧ LaneAt K H f S ∧ laneB S = true ∧ (∀ c ∈ S, c ∈ xs ++ arrs es) ∧ Tabs Ps H ∧ ∀ H', Kp Ps H H' → Q .non H'
def spFirstGap (K : PySem.W.Frag) (Ps : List Addr) : Sp := fun vs H Q _ => ∃ (a f : Addr) (xs S : List Str), vs = [.ref a, .ref f] ∧ SqT K H a (xs.map V.str) ∧ SqT K H f (S.map V.str) ∧ xs.length ≤ 400 ∧ Tabs Ps H ∧
  ∀ H', Kp Ps H H' → Q (match gapF xs S with | none => .non | some c => .str c) H'
def spDepB4 (K : PySem.W.Frag) (Ps : List Addr) : Sp := fun vs H Q _ => ∃ (l f : Addr) (as : List Addr) (es : List Ev) (S : List Str), vs = [.ref l, .ref f] ∧ LogAt K H l as es ∧ SqT K H f (S.map V.str) ∧ Tabs Ps H ∧
  ∀ H', Kp Ps H H' → Q (match depB4 S 0 es with | none => .non | some d => .int (d : Nat)) H'
end
end Ln


set_option Elab.async false
set_option linter.all false
set_option maxRecDepth 100000
set_option maxHeartbeats 4000000
namespace Ln
open PySem PySem.Spec PyProof.Rows L2 GxR
def sideV (p : Nat × Nat × Nat) : List V := [.str "sides", .int (p.1 : Nat), .int (p.2.1 : Nat), .int (p.2.2 : Nat)]
section
variable {P : Program} {w : World} {K : PySem.W.Frag} {mg : Str → Option Value} {base : Heap} {Ps : List Addr}
def spSideC (K : PySem.W.Frag) (Ps : List Addr) : Sp := fun vs H Q _ => ∃ (a l f : Addr) (xs : List Str) (as : List Addr) (es : List Ev) (S : List Str), vs = [.ref a, .ref l, .ref f] ∧ SqT K H a (xs.map V.str) ∧ LogAt K H l as es ∧ SqT K H f (S.map V.str) ∧ xs.length ≤ 400 ∧ Tabs Ps H ∧
  ∀ H' v, Kp Ps H H' → RsV H H' v ((sideF xs S es).map sideV) → Q v H'
def spWhyNS (K : PySem.W.Frag) (Ps : List Addr) : Sp := fun vs H Q _ => ∃ (a l f : Addr) (xs : List Str) (as : List Addr) (es : List Ev) (S : List Str), vs = [.ref a, .ref l, .ref f] ∧ LaneAt K H a xs ∧ laneB xs = true ∧ LogAt K H l as es ∧ logB xs xs.length es = true ∧ LaneAt K H f S ∧ laneB S = true ∧ (∀ c ∈ S, c ∈ xs ++ arrs es) ∧ Tabs Ps H ∧
  ∀ H' v, Kp Ps H H' → RsV H H' v (wsT (whyS xs es S)) → Q v H'
def canS : WS → Bool
  | .ok => true
  | _ => false
theorem rsV_non {H H' : Hp} {v : V} {y : WS} (h : RsV H H' v (wsT y)) : decide (v = .non) = canS y := by
  cases y with
  | ok => exact decide_eq_true h
  | size i => obtain ⟨p, rfl, _⟩ := h; rfl
  | moment t => obtain ⟨p, rfl, _⟩ := h; rfl
  | block c => obtain ⟨p, rfl, _⟩ := h; rfl
  | sides l r d => obtain ⟨p, rfl, _⟩ := h; rfl
def spCanStay (K : PySem.W.Frag) (Ps : List Addr) : Sp := fun vs H Q _ => ∃ (a l f : Addr) (xs : List Str) (as : List Addr) (es : List Ev) (S : List Str), vs = [.ref a, .ref l, .ref f] ∧ LaneAt K H a xs ∧ laneB xs = true ∧ LogAt K H l as es ∧ logB xs xs.length es = true ∧ LaneAt K H f S ∧ laneB S = true ∧ (∀ c ∈ S, c ∈ xs ++ arrs es) ∧ Tabs Ps H ∧
  ∀ H', Kp Ps H H' → Q (.bl (canS (whyS xs es S))) H'
end
end Ln


set_option Elab.async false
set_option linter.all false
set_option maxRecDepth 100000
set_option maxHeartbeats 4000000
namespace Ln
open PySem PySem.Spec PyProof.Rows L2 GxR
/-! ### the second family's helpers: cells, sources, draws -/
theorem scCell2 : FnScope ["script", "k"] ["script", "k"] (defScope sCell2) := ⟨rfl, rfl, rfl, by decide +kernel, rfl, by decide +kernel, by decide +kernel⟩
theorem scSource2 : FnScope ["cell"] ["cell"] (defScope sSource) := ⟨rfl, rfl, rfl, by decide +kernel, rfl, by decide +kernel, by decide +kernel⟩
theorem scDraw2 : FnScope ["source", "bound", "digit", "mixed"] ["source", "bound"] (defScope sDraw) := ⟨rfl, rfl, rfl, by decide +kernel, rfl, by decide +kernel, by decide +kernel⟩
section
variable {P : Program} {w : World} {K : PySem.W.Frag} {mg : Str → Option Value} {base : Heap} {Ps : List Addr}
theorem ok_cell2 {f : Addr} {fd : FuncData} (F : Fun K "_law_cell" "_law_cell" sCell2 f fd) (B : Bi mg) : FnOk P w K mg base CX0 1 f fd ["script", "k"] (spCell K) := by
  refine F.ok scCell2 (fun vs H Q E h => ?_) (fun cdv A outer s H vs Q E hr h => ?_)
  · obtain ⟨a, ns, k, rfl, _⟩ := h
    rfl
  · obtain ⟨a, ns, k, rfl, hS, q⟩ := h
    refine ⟨_, (pss_one (ps_ret (pe_ifExp (pt_cmpR op_lt (pv 1) (pe_callB call_len_seq (by rfl) B.len PySem.boot_len (pa_cons (pv 0) pa_nil)) (nomark _)) (pe_ix ix_list (pv 0) (pv 1) (fun _ _ => rfl)) pe_int))), ?_⟩
    refine ⟨_, rfl, .ref a, rfl, a, _, rfl, .inl hS, _, _, rfl, rfl, _, rfl, ite2 (fun h => ?_) (fun h => ?_)⟩
    · have h : (k : Int) < ((ns.map V.int).length : Nat) := of_decide_eq_true h
      have hk : k < ns.length := by
        rw [List.length_map] at h
        omega
      refine ⟨.ref a, rfl, _, rfl, a, _, k, .int ns[k], rfl, rfl, hS, atI_nat (by rw [List.getElem?_map, List.getElem?_eq_getElem hk]; rfl), ?_⟩
      exact q _
    · exact q 0
def spSource2 : Sp := fun vs H Q _ => ∃ c : Int, vs = [.int c] ∧ ∀ p l, H p = none → SrcV 0 l → Q (.ref p) (upd H p (.lst l))
theorem ok_source2 {f : Addr} {fd : FuncData} (F : Fun K "_law_source" "_law_source" sSource f fd) (B2 : Bl mg) : FnOk P w K mg base CX0 1 f fd ["cell"] spSource2 := by
  refine F.ok scSource2 (fun vs H Q E h => ?_) (fun cdv A outer s H vs Q E hr h => ?_)
  · obtain ⟨c, rfl, _⟩ := h
    rfl
  · obtain ⟨c, rfl, q⟩ := h
    refine ⟨_, (pss_one (ps_ret (pe_lst (pa_cons (pe_callB (call_max2 rfl) (by rfl) B2.max (by decide +kernel) (pa_cons pe_int (pa_cons (pe_op op_sub (pe_callB call_abs (by rfl) B2.abs (by decide +kernel) (pa_cons (pv 0) pa_nil)) (pe_op op_pow pe_int pe_int)) pa_nil))) (pa_cons (pe_op op_mod (pv 0) (pe_op op_add (pe_op op_pow pe_int pe_int) pe_int)) (pa_cons pe_int pa_nil)))))), ?_⟩
    refine ⟨_, rfl, _, rfl, 10, 18, rfl, rfl, ⟨by decide, by decide, by decide⟩, _, _, rfl, rfl, _, _, rfl, ?_⟩
    refine ⟨_, rfl, 10, 37, rfl, rfl, ⟨by decide, by decide, by decide⟩, _, _, rfl, rfl, _, _, rfl, rfl, (by show (0 : Int) < 10 ^ Int.toNat 37 + 43; decide), by show 3 ≤ sizeLine; decide, fun p hp => ?_⟩
    refine q p _ hp ⟨_, _, 0, rfl, ?_, ?_, ?_, by decide, by decide⟩
    · split <;> omega
    · exact Int.emod_nonneg _ (by decide)
    · have h1 : c % (10 ^ Int.toNat 37 + 43) < 10 ^ Int.toNat 37 + 43 := Int.emod_lt_of_pos _ (by decide)
      have h2 : (10 : Int) ^ Int.toNat 37 + 43 < 2 ^ 130 := by decide
      omega
theorem ok_draw2 {f : Addr} {fd : FuncData} (F : Fun K "_law_draw" "_law_draw" sDraw f fd) : FnOk P w K mg base CX0 1 f fd ["source", "bound"] spDraw := by
  refine F.ok scDraw2 (fun vs H Q E h => ?_) (fun cdv A outer s H vs Q E hr h => ?_)
  · obtain ⟨s0, l, n, lim, rfl, _⟩ := h
    rfl
  · obtain ⟨s0, l, n, lim, rfl, hs, ⟨a, b, c, rfl, ha, hb, hb2, hc, hcn⟩, hn, hl1, hl2, q⟩ := h
    refine ⟨_, pss_cons (ps_if (pt_cmpR op_gt (pe_ix ix_list (pv 0) pe_int (fun _ _ => rfl)) pe_int (nomark _))
        (pss_cons (ps_set (i := 2) scDraw2.nd rfl (.inl rfl) (pe_op op_mod (pe_ix ix_list (pv 0) pe_int (fun _ _ => rfl)) (pv 1)))
        (pss_cons (ps_asg (pe_op op_fdiv (pe_ix ix_list (pv 0) pe_int (fun _ _ => rfl)) (pv 1)) (pg_sub (pv 0) pe_int set_list))
        (pss_one (ps_ret (pv 2))))) pss_nil)
      (pss_cons (ps_asg (pe_op op_add (pe_ix ix_list (pv 0) pe_int (fun _ _ => rfl)) pe_int) (pg_sub (pv 0) pe_int set_list))
      (pss_cons (ps_set (i := 3) scDraw2.nd rfl (.inl rfl) (pe_op op_mod (pe_op op_powW (pe_op op_add (pe_ix ix_list (pv 0) pe_int (fun _ _ => rfl)) (pe_op op_mul pe_int (pe_ix ix_list (pv 0) pe_int (fun _ _ => rfl)))) pe_int) (pe_op op_add (pe_op op_pow pe_int pe_int) pe_int)))
      (pss_cons (ps_set (i := 3) scDraw2.nd rfl (.inl rfl) (pe_op op_mod (pe_op op_powW (pe_op op_add (pv 3) (pe_op op_mul pe_int (pe_ix ix_list (pv 0) pe_int (fun _ _ => rfl)))) pe_int) (pe_op op_add (pe_op op_pow pe_int pe_int) pe_int)))
      (pss_one (ps_ret (pe_op op_mod (pe_op op_fdiv (pv 3) pe_int) (pv 1))))))), ?_⟩
    have hS := SqL.of (K := K) hs
    refine ⟨.ref s0, rfl, s0, _, 0, .int a, rfl, rfl, hS, atI_nat (j := 0) rfl, _, _, rfl, rfl, _, rfl, ite2 (fun h => ?_) (fun h => ?_)⟩
    · refine ⟨.ref s0, rfl, s0, _, 0, .int a, rfl, rfl, hS, atI_nat (j := 0) rfl, _, rfl, _, _, rfl, rfl, by omega, ?_⟩
      refine ⟨.ref s0, rfl, s0, _, 0, .int a, rfl, rfl, hS, atI_nat (j := 0) rfl, _, rfl, _, _, rfl, rfl, ⟨by omega, by omega⟩, ?_⟩
      refine ⟨.ref s0, rfl, s0, _, _, 0, rfl, rfl, hs, rfl, ?_⟩
      refine ⟨_, rfl, q _ _ ⟨a / lim, b, c, rfl, Int.ediv_nonneg ha (by omega), hb, hb2, hc, by omega⟩ (Int.emod_nonneg _ (by omega)) (Int.emod_lt_of_pos _ (by omega))⟩
    · refine ⟨.ref s0, rfl, s0, _, 2, .int c, rfl, rfl, hS, atI_nat (j := 2) rfl, _, _, rfl, rfl, ?_⟩
      refine ⟨.ref s0, rfl, s0, _, _, 2, rfl, rfl, hs, rfl, ?_⟩
      have hS2 : SqL K (upd H s0 (.lst [.int a, .int b, .int (c + 1)])) s0 [.int a, .int b, .int (c + 1)] := SqL.of upd_same
      have nat_lt : ∀ x y : Int, 0 ≤ x → x ≤ y → y.natAbs < 2 ^ 1000 → x.natAbs < 2 ^ 1000 := fun x y h0 h1 h2 => Nat.lt_of_le_of_lt (by omega) h2
      have big : ((2 ^ 140 : Int)).natAbs < 2 ^ 1000 := by decide +kernel
      refine ⟨.ref s0, rfl, s0, _, 1, .int b, rfl, rfl, hS2, atI_nat (j := 1) rfl, .ref s0, rfl, s0, _, 2, .int (c + 1), rfl, rfl, hS2, atI_nat (j := 2) rfl, _, _, rfl, rfl, .inl ⟨by decide, by decide⟩, _, _, rfl, rfl, _, 3, rfl, rfl, ⟨by decide, by decide, ?_⟩, 10, 39, rfl, rfl, ⟨by decide, by decide, by decide⟩, _, _, rfl, rfl, _, _, rfl, rfl, (by show (0 : Int) < 10 ^ Int.toNat 39 + 3; decide), ?_⟩
      · refine nat_lt _ (2 ^ 140) (by omega) ?_ big
        have : (2 : Int) ^ 130 + 32416190071 * 1000001 ≤ 2 ^ 140 := by decide
        omega
      · have m1 : ∀ z : Int, 0 ≤ z % (10 ^ Int.toNat 39 + 3) ∧ z % (10 ^ Int.toNat 39 + 3) ≤ 2 ^ 130 := fun z => by
          have h1 : 0 ≤ z % (10 ^ Int.toNat 39 + 3) := Int.emod_nonneg _ (by decide)
          have h2 : z % (10 ^ Int.toNat 39 + 3) < 10 ^ Int.toNat 39 + 3 := Int.emod_lt_of_pos _ (by decide)
          have h3 : (10 : Int) ^ Int.toNat 39 + 3 ≤ 2 ^ 130 := by decide
          omega
        generalize hmx : (b + 32416190071 * (c + 1)) ^ Int.toNat 3 % (10 ^ Int.toNat 39 + 3) = mx
        have m1' : 0 ≤ mx ∧ mx ≤ 2 ^ 130 := by
          rw [← hmx]
          exact m1 _
        refine ⟨_, rfl, .ref s0, rfl, s0, _, 2, .int (c + 1), rfl, rfl, hS2, atI_nat (j := 2) rfl, _, _, rfl, rfl, .inl ⟨by decide, by decide⟩, _, _, rfl, rfl, _, 5, rfl, rfl, ⟨by decide, by decide, ?_⟩, 10, 38, rfl, rfl, ⟨by decide, by decide, by decide⟩, _, _, rfl, rfl, _, _, rfl, rfl, (by show (0 : Int) < 10 ^ Int.toNat 38 + 133; decide), ?_⟩
        · refine nat_lt _ (2 ^ 140) (by omega) ?_ big
          have : (2 : Int) ^ 130 + 15485867 * 1000001 ≤ 2 ^ 140 := by decide
          omega
        · generalize (mx + 15485867 * (c + 1)) ^ Int.toNat 5 % (10 ^ Int.toNat 38 + 133) = my
          refine ⟨_, rfl, _, _, rfl, rfl, ⟨by decide, by decide⟩, _, rfl, _, _, rfl, rfl, by show (0 : Int) < lim; omega, ?_⟩
          exact q _ _ ⟨a, b, c + 1, rfl, ha, hb, hb2, by omega, by omega⟩ (Int.emod_nonneg _ (by omega)) (Int.emod_lt_of_pos _ (by omega))
end
end Ln


set_option Elab.async false
set_option linter.all false
set_option maxRecDepth 1000000
namespace Ln
open PySem PySem.Spec PyProof.Rows L2 GxR
def nmB (k : Nat) : Str := ⟨#[97 + k / 26]⟩ ++ ⟨#[97 + k % 26]⟩
def nmR (k : Nat) : Str := ⟨#[97 + k % 26]⟩ ++ ⟨#[97 + k / 26]⟩
def nine : List Str := ["in", "out", "l", "r", "a", "zzzz", "aaaa", "none", "x"]
/-- the vehicles by their style -/
def nmS : Nat → List Str
  | 0 => (List.range 160).map fun k => ("zy" : Str) ++ nmB k
  | 1 => (List.range 160).map nmR
  | 2 => nine ++ (List.range 160).map fun k => nmB k ++ ("q" : Str)
  | _ => (List.range 160).map nmB
def goodB : List Str → Bool
  | [] => true
  | x :: r => carB x && !(r.any fun y => decide (y = x)) && goodB r
theorem goodB_all : ∀ {l : List Str}, goodB l = true → l.all carB = true
  | [], _ => rfl
  | x :: r, h => by
    unfold goodB at h
    rw [Bool.and_eq_true, Bool.and_eq_true] at h
    rw [List.all_cons, h.1.1, goodB_all h.2]
    rfl
theorem goodB_nodup : ∀ {l : List Str}, goodB l = true → l.Nodup
  | [], _ => List.nodup_nil
  | x :: r, h => by
    unfold goodB at h
    rw [Bool.and_eq_true, Bool.and_eq_true] at h
    refine List.nodup_cons.mpr ⟨fun hx => ?_, goodB_nodup h.2⟩
    have := h.1.2
    rw [Bool.not_eq_true', List.any_eq_false] at this
    exact this x hx (decide_eq_true rfl)
theorem good0 : goodB (nmS 0) = true := by decide +kernel
theorem good1 : goodB (nmS 1) = true := by decide +kernel
theorem good2 : goodB (nmS 2) = true := by decide +kernel
theorem good3 : goodB (nmS 3) = true := by decide +kernel
theorem goodS (st : Nat) (h : st < 4) : (nmS st).all carB = true ∧ (nmS st).Nodup := by
  have : goodB (nmS st) = true := by
    match st, h with
    | 0, _ => exact good0
    | 1, _ => exact good1
    | 2, _ => exact good2
    | 3, _ => exact good3
  exact ⟨goodB_all this, goodB_nodup this⟩
theorem letters_at : ∀ i < 26, ("abcdefghijklmnopqrstuvwxyz" : Str).cps.toList[i]? = some (97 + i) := by decide +kernel
theorem car_len {x : Str} (h : carB x = true) : x.length ≤ 4 := by
  unfold carB at h
  rw [Bool.and_eq_true, Bool.and_eq_true] at h
  exact of_decide_eq_true h.1.2
end Ln


set_option Elab.async false
set_option linter.all false
set_option maxRecDepth 100000
set_option maxHeartbeats 2000000
namespace Ln
open PySem PySem.Spec PyProof.Rows L2 GxR
theorem cut_take {xs : List V} {c : Nat} : cutV xs none (some (c : Int)) = xs.take c := by
  unfold cutV
  rw [HT.sIx_none, HT.sIx_nat, List.drop_zero, Nat.sub_zero]
  rcases Nat.le_total c xs.length with h | h
  · rw [Nat.min_eq_left h]
  · rw [Nat.min_eq_right h, List.take_length, List.take_of_length_le h]
theorem take_base {α : Type} (f : Nat → α) {c : Nat} (h : c ≤ 160) : ((List.range 160).map f).take c = (List.range c).map f := by
  rw [← List.map_take, List.take_range, Nat.min_eq_left h]
section
variable {P : Program} {w : World} {K : PySem.W.Frag} {mg : Str → Option Value} {base : Heap} {Ps : List Addr}
def spVeh : Sp := fun vs H Q _ => ∃ (s : Addr) (l : List V) (n c : Nat), vs = [.ref s, .int c] ∧ H s = some (.lst l) ∧ SrcV n l ∧ n + 200 ≤ 1000000 ∧ c ≤ 160 ∧
  ∀ (H' : Hp) (p : Addr) (ys : List Str) (l' : List V), Ch s H H' → H p = none → ys.length = c → ys.all carB = true → ys.Nodup → SrcV (n + 161) l' → H' s = some (.lst l') → H' p = some (.lst (ys.map V.str)) → Q (.ref p) H'
abbrev lcNm (own : Str) (i : Nat) : List (Str × Nat) := [(own, i)]
end
end Ln


set_option Elab.async false
set_option linter.all false
set_option maxRecDepth 1000000
set_option maxHeartbeats 8000000
namespace Ln
open PySem PySem.Spec PyProof.Rows L2 GxR
/-! ### the names of the second family -/
def tlS : Nat → Str
  | 0 => ""
  | 1 => "x"
  | _ => "ab"
def nm2 (t : Str) (k : Nat) : Str := ((⟨#[97 + k % 26]⟩ : Str) ++ (if 25 < k then (⟨#[97 + k / 26]⟩ : Str) else "")) ++ t
theorem good_nm2 (r : Nat) : ((List.range 160).map (nm2 (tlS r))).all carB = true ∧ ((List.range 160).map (nm2 (tlS r))).Nodup := by
  have k : ∀ t ∈ (["", "x", "ab"] : List Str), goodB ((List.range 160).map (nm2 t)) = true := by decide +kernel
  have : goodB ((List.range 160).map (nm2 (tlS r))) = true := k _ (by
    match r with
    | 0 => exact List.mem_cons_self
    | 1 => exact List.mem_cons_of_mem _ List.mem_cons_self
    | n + 2 => exact List.mem_cons_of_mem _ (List.mem_cons_of_mem _ List.mem_cons_self))
  exact ⟨goodB_all this, goodB_nodup this⟩
end Ln


set_option Elab.async false
set_option linter.all false
set_option maxRecDepth 1000000
set_option maxHeartbeats 8000000
namespace Ln
open PySem PySem.Spec PyProof.Rows L2 GxR
/-! ### the second family's helpers: drawn orders, names -/
theorem scShuf : FnScope ["source", "items", "rest", "item"] ["source", "items"] (defScope sShuf) := ⟨rfl, rfl, rfl, by decide +kernel, rfl, by decide +kernel, by decide +kernel⟩
theorem scNames2 : FnScope ["source", "amount", "letters", "tail", "some", "k"] ["source", "amount"] (defScope sNames) := ⟨rfl, rfl, rfl, by decide +kernel, rfl, by decide +kernel, by decide +kernel⟩
theorem str_app_len (a b : Str) : (a ++ b).length = a.length + b.length := Array.size_append
section
variable {P : Program} {w : World} {K : PySem.W.Frag} {mg : Str → Option Value} {base : Heap} {Ps : List Addr}
def spShuf (K : PySem.W.Frag) : Sp := fun vs H Q _ => ∃ (s t : Addr) (l : List V) (n : Nat) (xs : List Str), vs = [.ref s, .ref t] ∧ H s = some (.lst l) ∧ SrcV n l ∧ n + xs.length ≤ 1000000 ∧ SqL K H t (xs.map V.str) ∧ t ≠ s ∧ xs.length ≤ 1000 ∧
  ∀ (H' : Hp) (p : Addr) (ys : List Str) (l' : List V), Ch s H H' → H p = none → ys.Perm xs → SrcV (n + xs.length) l' → H' s = some (.lst l') → TupD H' p (ys.map V.str) → Q (.ref p) H'
theorem ok_shuf {f fD : Addr} {fd fdD : FuncData} (F : Fun K "_law_shuffled" "_law_shuffled" sShuf f fd) (B : Bi mg)
    (GD : FnOk P w K mg base CX0 1 fD fdD ["source", "bound"] spDraw) (mgD : mg "_law_draw" = some (.ref fD)) (kD : PySem.W.keepIn K (.ref fD) = true) (bD : Binds K fdD ["source", "bound"] []) : FnOk P w K mg base CX0 2 f fd ["source", "items"] (spShuf K) := by
  refine F.ok scShuf (fun vs H Q E h => ?_) (fun cdv A outer s H vs Q E hr h => ?_)
  · obtain ⟨s0, t, l, n, xs, rfl, _⟩ := h
    rfl
  · obtain ⟨s0, t, l, n, xs, rfl, hs, hl, hn, hS, hts, hfew, q⟩ := h
    refine ⟨_, (pss_cons (ps_set (i := 2) scShuf.nd rfl (.inr rfl) (pe_callTy call_list_of (by rfl) B.lst (by decide +kernel) (pa_cons (pv 1) pa_nil)))
      (pss_one (ps_ret (pe_callTy call_tuple_ofD (by rfl) B.tup (by decide +kernel) (pa_cons (pe_lc (own := [("item", 3)]) (g := gName 3) (tt := tYes) (te := tBM K "list" rPopAt (tVar 2) (tCons (tCall spDraw [] E0 (tCons (tVar 0) (tCons (tCB (rLenSeq K) (tCons (tVar 2) tNil)) tNil))) tNil)) (by rfl) scShuf.nd (pi_list (pv 1)) (blkOk_by (own := [("item", 3)]) (N := ["source", "items", "rest", "item"]) (sc := defScope sShuf) (by decide +kernel)) (fun _ _ _ _ _ => (pg_name (i := 3) scShuf.nd rfl (Or.inl rfl))) (fun _ _ _ _ _ => pts_nil) (fun _ _ _ _ _ => (pe_bm PySem.F.plainAttrs_list PySem.F.slot_list_pop PySem.F.type_list_pop mt_popAt (pv 2) (pa_cons (pe_call GD hr (by rfl) mgD kD bD .nil pass0 (pa_cons (pv 0) (pa_cons (pe_callB call_len_seq (by rfl) B.len PySem.boot_len (pa_cons (pv 2) pa_nil)) pa_nil))) pa_nil)))) pa_nil))))), ?_⟩
    refine ⟨.ref t, rfl, t, _, rfl, .inl hS, fun u hu => ?_⟩
    have hus : u ≠ s0 := fun z => by
      rw [z, hs] at hu
      cases hu
    have c1 : Ch s0 H (upd H u (.lst (xs.map V.str))) := Ch.refl.new hu
    refine ⟨.ref t, rfl, t, rfl, ⟨_, c1.seqL hS hts⟩, fun D hD => ?_⟩
    have hDu : D ≠ u := fun z => by
      rw [z, upd_same] at hD
      cases hD
    have hD0 : H D = none := by
      rw [upd_ne hDu] at hD
      exact hD
    have hDs : D ≠ s0 := fun z => by
      rw [z, hs] at hD0
      cases hD0
    refine lc_list (K := K) (a := t) (xs := xs.map V.str) (fun i H' => ∃ (l' : List V) (ys zs : List Str), Ch s0 H H' ∧ i ≤ xs.length ∧ SrcV (n + i) l' ∧ H' s0 = some (.lst l') ∧ H' u = some (.lst (zs.map V.str)) ∧ H' D = some (.lst (ys.map V.str)) ∧ (ys ++ zs).Perm xs ∧ ys.length = i) ?_ ?_ ?_ ?_
    · exact ⟨l, [], xs, (Ch.refl.new hu).new hD0, Nat.zero_le _, hl, by rw [upd_ne hDs.symm, upd_ne hus.symm]; exact hs, by rw [upd_ne hDu.symm, upd_same], by rw [upd_same]; rfl, List.Perm.refl _, rfl⟩
    · rintro i H' _ ⟨l', ys, zs, ch, _⟩
      exact ch.seqL hS hts
    · rintro i y H' hi ⟨l', ys, zs, ch, _, hl', hs', hu', hD', hp, hy⟩
      have hi : i < xs.length := by
        have h1 := (List.getElem?_eq_some_iff.mp hi).1
        rw [List.length_map] at h1
        exact h1
      have hlen : ys.length + zs.length = xs.length := by
        have := hp.length_eq
        rw [List.length_append] at this
        exact this
      refine ⟨rfl, ?_⟩
      unfold tYes
      refine iteT ?_
      refine ⟨.ref u, rfl, .inl ⟨rfl, _, .inl (.inl hu')⟩, .ref s0, rfl, .ref u, rfl, u, _, rfl, .inl (.inl (.inl hu')), ?_⟩
      refine ⟨s0, l', n + i, _, rfl, hs', hl', by omega, by rw [List.length_map]; omega, by rw [List.length_map]; omega, fun l2 r hl2 h0 h1 => ?_⟩
      rw [List.length_map] at h1
      obtain ⟨k, rfl⟩ : ∃ k : Nat, r = (k : Int) := ⟨r.toNat, by omega⟩
      have hk : k < zs.length := by omega
      have hz : zs[k]? = some zs[k] := List.getElem?_eq_getElem hk
      have hu2 : (upd H' s0 (.lst l2)) u = some (.lst (zs.map V.str)) := by rw [upd_ne hus]; exact hu'
      have hpe := erase_perm hz
      refine ⟨u, _, k, k, V.str zs[k], rfl, rfl, hu2, by omega, by omega, ?_, by rw [List.getElem?_map, hz]; rfl, ys.map V.str, ?_, ?_, ?_⟩
      · refine (ixN_seq (i := (k : Int)) (j := k) ?_).1
        unfold ixN
        rw [if_pos (by omega), if_pos (by rw [List.length_map]; omega)]
        rfl
      · rw [upd_ne hDu, upd_ne hDs]
        exact hD'
      · rw [List.length_map]
        exact small1000 (by omega)
      · refine ⟨l2, ys ++ [zs[k]], zs.eraseIdx k, ((ch.trans Ch.src).new hu).new hD0, hi, ?_, ?_, ?_, ?_, ?_, ?_⟩
        · rw [← Nat.add_assoc]
          exact hl2
        · rw [upd_ne hDs.symm, upd_ne hus.symm, upd_same]
        · rw [upd_ne hDu.symm, upd_same, map_erase]
        · rw [upd_same, List.map_append]
          rfl
        · rw [List.append_assoc]
          exact ((List.Perm.append_left ys hpe)).trans hp
        · rw [List.length_append, hy]
          rfl
    · rintro H' ⟨l', ys, zs, ch, _, hl', hs', hu', hD', hp, hy⟩
      rw [List.length_map] at hl' hy
      have hz : zs = [] := by
        have := hp.length_eq
        rw [List.length_append, hy] at this
        exact List.length_eq_zero_iff.mp (by omega)
      rw [hz, List.append_nil] at hp
      refine ⟨D, _, rfl, SqL.of hD', fun p ob hob hp' => ?_⟩
      have hps : p ≠ s0 := (ne_of_none hs' hp').symm
      exact q _ p ys l' (ch.sm (sm_new sm_refl hp')) (ch.free hs ⟨_, hs'⟩ hp') hp hl' (by rw [upd_ne hps.symm]; exact hs') ⟨ob, hob, upd_same⟩
def spNames2 : Sp := fun vs H Q _ => ∃ (s : Addr) (l : List V) (n c : Nat), vs = [.ref s, .int c] ∧ H s = some (.lst l) ∧ SrcV n l ∧ n + 200 ≤ 1000000 ∧ c ≤ 160 ∧
  ∀ (H' : Hp) (p : Addr) (ys : List Str) (l' : List V), Ch s H H' → H p = none → ys.length = c → ys.all carB = true → ys.Nodup → SrcV (n + 1 + c) l' → H' s = some (.lst l') → TupD H' p (ys.map V.str) → Q (.ref p) H'
theorem ok_names2 {f fD fS : Addr} {fd fdD fdS : FuncData} (F : Fun K "_law_names" "_law_names" sNames f fd) (B2 : Bl mg)
    (GD : FnOk P w K mg base CX0 1 fD fdD ["source", "bound"] spDraw) (mgD : mg "_law_draw" = some (.ref fD)) (kD : PySem.W.keepIn K (.ref fD) = true) (bD : Binds K fdD ["source", "bound"] [])
    (GS : FnOk P w K mg base CX0 2 fS fdS ["source", "items"] (spShuf K)) (mgS : mg "_law_shuffled" = some (.ref fS)) (kS : PySem.W.keepIn K (.ref fS) = true) (bS : Binds K fdS ["source", "items"] []) : FnOk P w K mg base CX0 3 f fd ["source", "amount"] spNames2 := by
  refine F.ok scNames2 (fun vs H Q E h => ?_) (fun cdv A outer s H vs Q E hr h => ?_)
  · obtain ⟨s0, l, n, c, rfl, _⟩ := h
    rfl
  · obtain ⟨s0, l, n, c, rfl, hs, hl, hn, hc, q⟩ := h
    have hr1 := hr.mono (show 1 ≤ 2 by decide)
    refine ⟨_, (pss_cons (ps_set (i := 2) scNames2.nd rfl (.inr rfl) pe_str)
      (pss_cons (ps_set (i := 3) scNames2.nd rfl (.inr rfl) (pe_ix ix_list (pe_lst (pa_cons pe_str (pa_cons pe_str (pa_cons pe_str pa_nil)))) (pe_call GD hr1 (by rfl) mgD kD bD .nil pass0 (pa_cons (pv 0) (pa_cons pe_int pa_nil))) (fun _ _ => rfl)))
      (pss_cons (ps_setLc (i := 4) (own := [("k", 5)]) (g := gName 5) (tt := tYes) (by rfl) scNames2.nd rfl rfl (sw_true rfl rfl rfl (by decide +kernel)) (pi_range1 (by rfl) B2.rng (pa_cons (pv 1) pa_nil)) (blkOk_by (own := [("k", 5)]) (N := ["source", "amount", "letters", "tail", "some", "k"]) (sc := defScope sNames) (by decide +kernel)) (fun _ _ _ _ _ => (pg_name (i := 5) scNames2.nd rfl (Or.inl rfl))) (fun _ _ _ _ _ => pts_nil) (fun _ _ _ _ _ => (pe_op op_add_str (pe_op op_add_str (pe_ix ix_str (pv 2) (pe_op op_mod (pv 5) pe_int) (fun _ _ => rfl)) (pe_ifExp (pt_cmpR op_gt (pv 5) pe_int (nomark _)) (pe_ix ix_str (pv 2) (pe_op op_fdiv (pv 5) pe_int) (fun _ _ => rfl)) pe_str)) (pv 3))))
      (pss_one (ps_ret (pe_call GS hr (by rfl) mgS kS bS .nil pass0 (pa_cons (pv 0) (pa_cons (pv 4) pa_nil)))))))), ?_⟩
    -- the tail
    refine ⟨by show 3 ≤ sizeLine; decide, fun o ho => ?_⟩
    have hos : o ≠ s0 := (ne_of_none hs ho).symm
    have ch1 : Ch s0 H (upd H o (.lst [.str "", .str "x", .str "ab"])) := Ch.refl.new ho
    have hs1 : (upd H o (.lst [.str "", .str "x", .str "ab"])) s0 = some (.lst l) := by rw [upd_ne hos.symm]; exact hs
    refine ⟨.ref s0, rfl, s0, l, n, 3, rfl, hs1, hl, by omega, by decide, by decide, fun l1 r hl1 h0 h3 => ?_⟩
    have ch2 : Ch s0 H (upd (upd H o (.lst [.str "", .str "x", .str "ab"])) s0 (.lst l1)) := ch1.trans Ch.src
    have hs2 : (upd (upd H o (.lst [.str "", .str "x", .str "ab"])) s0 (.lst l1)) s0 = some (.lst l1) := upd_same
    have ho2 : (upd (upd H o (.lst [.str "", .str "x", .str "ab"])) s0 (.lst l1)) o = some (.lst [.str "", .str "x", .str "ab"]) := by rw [upd_ne hos, upd_same]
    generalize upd (upd H o (.lst [.str "", .str "x", .str "ab"])) s0 (.lst l1) = H2 at ch2 hs2 ho2 ⊢
    obtain ⟨r', rfl⟩ : ∃ r' : Nat, r = (r' : Int) := ⟨r.toNat, by omega⟩
    have hat : ([V.str "", .str "x", .str "ab"])[r']? = some (.str (tlS r')) := by
      have : r' = 0 ∨ r' = 1 ∨ r' = 2 := by omega
      rcases this with rfl | rfl | rfl <;> rfl
    refine ⟨o, _, (r' : Int), _, rfl, rfl, SqL.of ho2, atI_nat hat, ?_⟩
    have good := good_nm2 r'
    have htl : (tlS r').length ≤ 2 := by
      match r' with
      | 0 => decide
      | 1 => decide
      | k + 2 => show ("ab" : Str).length ≤ 2; decide
    generalize tlS r' = t at good htl ⊢
    refine ⟨_, rfl, (c : Int), rfl, by omega, by omega, fun D hD => ?_⟩
    have hDs : D ≠ s0 := (ne_of_none hs2 hD).symm
    refine lc_range (lo := 0) (n := c) (fun i H' => Ch s0 H2 H' ∧ i ≤ c ∧ H' s0 = some (.lst l1) ∧ H' D = some (.lst (((List.range i).map (nm2 t)).map V.str))) ?_ ?_ ?_
    · exact ⟨Ch.refl.new hD, Nat.zero_le _, by rw [upd_ne hDs.symm]; exact hs2, by rw [upd_same]; rfl⟩
    · rintro i H' hi ⟨ch, _, hs', hD'⟩
      refine ⟨rfl, ?_⟩
      unfold tYes
      refine iteT ?_
      have a1 : atI ("abcdefghijklmnopqrstuvwxyz" : Str).cps.toList ((0 + (i : Int)) / 26) = some (97 + i / 26) := by
        rw [show (0 + (i : Int)) / 26 = ((i / 26 : Nat) : Int) by omega]
        exact atI_nat (letters_at (i / 26) (by omega))
      have a2 : atI ("abcdefghijklmnopqrstuvwxyz" : Str).cps.toList ((0 + (i : Int)) % 26) = some (97 + i % 26) := by
        rw [show (0 + (i : Int)) % 26 = ((i % 26 : Nat) : Int) by omega]
        exact atI_nat (letters_at (i % 26) (by omega))
      have fin : ∀ b : Str, b = (if 25 < i then (⟨#[97 + i / 26]⟩ : Str) else "") → b.length ≤ 1 → (∃ acc : List V, H' D = some (.lst acc) ∧ acc.length < sizeLine ∧ Ch s0 H2 (upd H' D (.lst (acc ++ [V.str (((⟨#[97 + i % 26]⟩ : Str) ++ b) ++ t)]))) ∧ i + 1 ≤ c ∧ (upd H' D (.lst (acc ++ [V.str (((⟨#[97 + i % 26]⟩ : Str) ++ b) ++ t)]))) s0 = some (.lst l1) ∧ (upd H' D (.lst (acc ++ [V.str (((⟨#[97 + i % 26]⟩ : Str) ++ b) ++ t)]))) D = some (.lst (((List.range (i + 1)).map (nm2 t)).map V.str))) := fun b hb _ => by
        refine ⟨_, hD', ?_, ch.new hD, hi, by rw [upd_ne hDs.symm]; exact hs', ?_⟩
        · rw [List.length_map, List.length_map, List.length_range]
          exact small1000 (by omega)
        · rw [upd_same, List.range_succ, List.map_append, List.map_append, hb]
          rfl
      refine ⟨_, rfl, _, rfl, _, _, rfl, rfl, (by show (0 : Int) < 26; decide), _, (0 + (i : Int)) % 26, 97 + i % 26, rfl, rfl, by decide +kernel, a2, ?_⟩
      refine ⟨_, rfl, _, _, rfl, rfl, _, rfl, ite2 (fun h => ?_) (fun h => ?_)⟩
      · have h : (0 + (i : Int)) > 25 := of_decide_eq_true h
        have hlt : 25 < i := by omega
        refine ⟨_, rfl, _, rfl, _, _, rfl, rfl, ⟨by decide, by decide⟩, _, (0 + (i : Int)) / 26, 97 + i / 26, rfl, rfl, by decide +kernel, a1, _, _, rfl, rfl, by show 2 ≤ sizeLine; decide, _, rfl, _, _, rfl, rfl, ?_, ?_⟩
        · have e1 : ((⟨#[97 + i % 26]⟩ : Str) ++ (⟨#[97 + i / 26]⟩ : Str)).length = 1 + 1 := str_app_len _ _
          rw [sizeLine_eq]
          show ((⟨#[97 + i % 26]⟩ : Str) ++ (⟨#[97 + i / 26]⟩ : Str)).length + t.length ≤ _
          rw [e1]
          omega
        · exact fin _ (if_pos hlt).symm (Nat.le_refl 1)
      · have h : ¬ (0 + (i : Int)) > 25 := fun z => h (decide_eq_true z)
        have hlt : ¬ 25 < i := by omega
        refine ⟨_, _, rfl, rfl, by show 1 + 0 ≤ sizeLine; decide, _, rfl, _, _, rfl, rfl, ?_, ?_⟩
        · have e1 : ((⟨#[97 + i % 26]⟩ : Str) ++ ("" : Str)).length = 1 + 0 := str_app_len _ _
          rw [sizeLine_eq]
          show ((⟨#[97 + i % 26]⟩ : Str) ++ ("" : Str)).length + t.length ≤ _
          rw [e1]
          omega
        · exact fin _ (if_neg hlt).symm (Nat.zero_le 1)
    · rintro H3 ⟨ch3, _, hs3, hD3⟩
      have hlen : ((List.range c).map (nm2 t)).length = c := by simp
      have hsub : ((List.range c).map (nm2 t)).Sublist ((List.range 160).map (nm2 t)) := by
        rw [← take_base (nm2 t) hc]
        exact List.take_sublist _ _
      refine ⟨.ref s0, rfl, .ref D, rfl, s0, D, l1, n + 1, (List.range c).map (nm2 t), rfl, hs3, hl1, by omega, SqL.of hD3, hDs, by omega, fun H' p ys l' ch' hp hperm hl' hs' hy => ?_⟩
      refine q H' p ys l' ((ch2.trans ch3).trans ch') ?_ (by rw [hperm.length_eq, hlen]) ?_ (hperm.symm.nodup (good.2.sublist hsub)) (by rw [hlen] at hl'; exact hl') hs' hy
      · exact (ch2.trans ch3).free hs ⟨_, hs3⟩ hp
      · rw [List.all_eq_true]
        intro x hx
        exact List.all_eq_true.mp good.1 x (hsub.subset (hperm.mem_iff.mp hx))
end
end Ln


set_option Elab.async false
set_option linter.all false
set_option maxRecDepth 100000
set_option maxHeartbeats 8000000
namespace Ln
open PySem PySem.Spec PyProof.Rows L2 GxR
/-! ### the second family's helpers: logs -/
theorem scEvents : FnScope ["source", "size", "names", "most", "room", "found", "rest", "rare", "style", "k", "wants_in"] ["source", "size", "names", "most", "room"] (defScope sEvents) := ⟨rfl, rfl, rfl, by decide +kernel, rfl, by decide +kernel, by decide +kernel⟩
theorem Ch.seqO {K : PySem.W.Frag} {s t : Addr} {H H1 : Hp} {xs : List V} (k : Ch s H H1) (h : SqL K H t xs ∨ SqT K H t xs) (n : t ≠ s) : SqL K H1 t xs ∨ SqT K H1 t xs := by
  rcases h with h | h
  · exact .inl (k.seqL h n)
  · refine .inr ?_
    rcases h with (e | ⟨ob, e⟩) | e
    · exact .inl (.inl (k _ _ e n))
    · exact .inl (.inr ⟨ob, k _ _ e n⟩)
    · exact .inr e
/-- where the events stand after i turns: what is left is the names without the last k -/
def EvInv (H : Hp) (s0 t o u : Addr) (n n0 most : Nat) (room : Int) (zr : List Str) (v7 v8 : V) (c i : Nat) (σ : L2.St) (H' : Hp) : Prop := ∃ (l' : List V) (as : List Addr) (es : List Ev) (k m : Nat) (v9 v10 : Option V),
  σ = [some (.ref s0), some (.int (m : Nat)), some (.ref t), some (.int most), some (.int room), some (.ref o), some (.ref u), some v7, some v8, v9, v10] ∧ Ch s0 H H' ∧ i ≤ c ∧ H' s0 = some (.lst l') ∧ SrcV (n + 3 + i) l' ∧ H' u = some (.lst ((zr.drop k).reverse.map V.str)) ∧
  H' o = some (.lst (as.map V.ref)) ∧ EvT H' as es ∧ (∀ a ∈ as, H a = none) ∧ es.length ≤ i ∧ arrs es = zr.take k ∧ cnt n0 es = some m
section
variable {P : Program} {w : World} {K : PySem.W.Frag} {mg : Str → Option Value} {base : Heap} {Ps : List Addr}
def spEvents (K : PySem.W.Frag) : Sp := fun vs H Q _ => ∃ (s t : Addr) (l : List V) (n n0 most : Nat) (room : Int) (zs : List Str), vs = [.ref s, .int n0, .ref t, .int most, .int room] ∧ H s = some (.lst l) ∧ SrcV n l ∧ n + 300 ≤ 1000000 ∧ most ≤ 200 ∧ n0 ≤ 400 ∧ (SqL K H t (zs.map V.str) ∨ SqT K H t (zs.map V.str)) ∧ t ≠ s ∧ zs.length ≤ 400 ∧ (∀ z ∈ zs, carB z = true) ∧
  ∀ (H' : Hp) (p : Addr) (as : List Addr) (es : List Ev) (k m : Nat) (l' : List V), Ch s H H' → H p = none → (∀ a ∈ as, H a = none) → es.length ≤ most → arrs es = zs.reverse.take k → cnt n0 es = some m → SrcV (n + 3 + most) l' → H' s = some (.lst l') → H' p = some (.lst (as.map V.ref)) → EvT H' as es → Q (.ref p) H'
theorem ok_events {f fD : Addr} {fd fdD : FuncData} (F : Fun K "_law_events" "_law_events" sEvents f fd) (B : Bi mg) (B2 : Bl mg)
    (GD : FnOk P w K mg base CX0 1 fD fdD ["source", "bound"] spDraw) (mgD : mg "_law_draw" = some (.ref fD)) (kD : PySem.W.keepIn K (.ref fD) = true) (bD : Binds K fdD ["source", "bound"] []) : FnOk P w K mg base CX0 2 f fd ["source", "size", "names", "most", "room"] (spEvents K) := by
  refine F.ok scEvents (fun vs H Q E h => ?_) (fun cdv A outer s H vs Q E hr h => ?_)
  · obtain ⟨s0, t, l, n, n0, most, room, zs, rfl, _⟩ := h
    rfl
  · obtain ⟨s0, t, l, n, n0, most, room, zs, rfl, hs, hl, hn, hmost, hn0, hS, hts, hzl, hzc, q⟩ := h
    have hu : A.units + 3 + 64 < cLine := hr.units
    have hr1 := hr
    refine ⟨_, (pss_cons (ps_par (i := 5) (j := 6) (by rfl) scEvents.nd rfl rfl (by decide) rfl rfl (pa_cons (pe_lst pa_nil) (pa_cons (pe_callTy call_list_of (by rfl) B.lst (by decide +kernel) (pa_cons (pv 2) pa_nil)) pa_nil)) (by rfl))
      (pss_cons (ps_par (i := 7) (j := 8) (by rfl) scEvents.nd rfl rfl (by decide) rfl rfl (pa_cons (pe_op op_add pe_int (pe_call GD hr1 (by rfl) mgD kD bD .nil pass0 (pa_cons (pv 0) (pa_cons pe_int pa_nil)))) (pa_cons (pe_call GD hr1 (by rfl) mgD kD bD .nil pass0 (pa_cons (pv 0) (pa_cons pe_int pa_nil))) pa_nil)) (by rfl))
      (pss_cons (ps_for PassesOwn.never rfl (pi_range1 (by rfl) B2.rng (pa_cons (pe_call GD hr1 (by rfl) mgD kD bD .nil pass0 (pa_cons (pv 0) (pa_cons (pe_op op_add (pv 3) pe_int) pa_nil))) pa_nil)) (pg_name (i := 9) scEvents.nd rfl (.inl rfl))
        (pss_cons (ps_set (i := 10) scEvents.nd rfl (.inl rfl) (pe_cmpR op_ne (pe_cmpR op_eq (pe_call GD hr1 (by rfl) mgD kD bD .nil pass0 (pa_cons (pv 0) (pa_cons (pv 7) pa_nil))) pe_int (nomark _)) (pe_cmpR op_eq (pv 8) pe_int (nomark _)) (nomark _)))
        (pss_one (ps_if (PW.pt (pw_and (pt_cmpR (op_neD hu) (pv 6) (pe_lst pa_nil) (nomark _)) (pw_and (pt_cmpR op_lt (pv 1) (pv 4) (nomark _)) (pw_and1 (PW.pt (pw_or (pt_cmpR op_eq (pv 1) pe_int (nomark _)) (pw_or1 (pt_val (pv 10)))))))))
          (pss_cons (ps_expr (pe_bm PySem.F.plainAttrs_list PySem.F.slot_list_append PySem.F.type_list_append mt_append (pv 5) (pa_cons (pe_tup (pa_cons pe_str (pa_cons (pe_bm0 PySem.F.plainAttrs_list PySem.F.slot_list_pop PySem.F.type_list_pop mt_pop (pv 6)) pa_nil))) pa_nil)))
          (pss_one (ps_set (i := 1) scEvents.nd rfl (.inl rfl) (pe_op op_add (pv 1) pe_int))))
          (pss_one (ps_if (pt_cmpR op_gt (pv 1) pe_int (nomark _))
            (pss_cons (ps_expr (pe_bm PySem.F.plainAttrs_list PySem.F.slot_list_append PySem.F.type_list_append mt_append (pv 5) (pa_cons (pe_tup (pa_cons pe_str pa_nil)) pa_nil)))
            (pss_one (ps_set (i := 1) scEvents.nd rfl (.inl rfl) (pe_op op_sub (pv 1) pe_int))))
            pss_nil))))))
      (pss_one (ps_ret (pv 5)))))), ?_⟩
    -- found, rest = [], list(names)
    refine ⟨Nat.zero_le _, fun o ho => ?_⟩
    have hos : o ≠ s0 := fun z => by rw [z, hs] at ho; cases ho
    have ch1 : Ch s0 H (upd H o (.lst [])) := Ch.refl.new ho
    refine ⟨.ref t, rfl, t, _, rfl, ch1.seqO hS hts, fun u hu1 => ?_⟩
    have huo : u ≠ o := fun z => by rw [z, upd_same] at hu1; cases hu1
    rw [upd_ne huo] at hu1
    have hus : u ≠ s0 := fun z => by rw [z, hs] at hu1; cases hu1
    have hs2 : (upd (upd H o (.lst [])) u (.lst (zs.map V.str))) s0 = some (.lst l) := by rw [upd_ne hus.symm, upd_ne hos.symm]; exact hs
    have ch2 : Ch s0 H (upd (upd H o (.lst [])) u (.lst (zs.map V.str))) := ch1.sm (sm_new sm_refl (by rw [upd_ne huo]; exact hu1))
    have hu2 : (upd (upd H o (.lst [])) u (.lst (zs.map V.str))) u = some (.lst (zs.map V.str)) := upd_same
    have ho2 : (upd (upd H o (.lst [])) u (.lst (zs.map V.str))) o = some (.lst []) := by rw [upd_ne huo.symm, upd_same]
    generalize upd (upd H o (.lst [])) u (.lst (zs.map V.str)) = H2 at ch2 hs2 hu2 ho2 ⊢
    -- rare, style
    refine ⟨_, _, rfl, .ref s0, rfl, s0, l, n, 3, rfl, hs2, hl, by omega, by decide, by decide, fun l1 r1 hl1 h10 h13 => ?_⟩
    refine ⟨_, _, rfl, rfl, .ref s0, rfl, s0, l1, n + 1, 2, rfl, upd_same, hl1, by omega, by decide, by decide, fun l2 r2 hl2 h20 h22 => ?_⟩
    have ch3 : Ch s0 H (upd (upd H2 s0 (.lst l1)) s0 (.lst l2)) := (ch2.trans Ch.src).trans Ch.src
    have hs3 : (upd (upd H2 s0 (.lst l1)) s0 (.lst l2)) s0 = some (.lst l2) := upd_same
    have hu3 : (upd (upd H2 s0 (.lst l1)) s0 (.lst l2)) u = some (.lst (zs.map V.str)) := by rw [upd_ne hus, upd_ne hus]; exact hu2
    have ho3 : (upd (upd H2 s0 (.lst l1)) s0 (.lst l2)) o = some (.lst []) := by rw [upd_ne hos, upd_ne hos]; exact ho2
    generalize upd (upd H2 s0 (.lst l1)) s0 (.lst l2) = H3 at ch3 hs3 hu3 ho3 ⊢
    refine ⟨_, _, rfl, .ref s0, rfl, .int most, rfl, _, _, rfl, rfl, s0, l2, n + 2, _, rfl, hs3, hl2, by omega, by omega, by omega, fun l3 r3 hl3 h30 h3m => ?_⟩
    have zrl : zs.reverse.length = zs.length := List.length_reverse
    have zrc : ∀ z ∈ zs.reverse, carB z = true := fun z hz => hzc z (List.mem_reverse.mp hz)
    generalize hzr : zs.reverse = zr at q zrl zrc
    refine ⟨r3, rfl, by omega, by omega, ?_⟩
    refine for_range (lo := 0) (n := r3.toNat) (EvInv H s0 t o u n n0 most room zr (.int (2 + r1)) (.int r2) r3.toNat) ?_ ?_ ?_
    · refine ⟨l3, [], [], 0, n0, none, none, rfl, ch3.trans Ch.src, Nat.zero_le _, upd_same, hl3, ?_, by rw [upd_ne hos]; exact ho3, .nil, fun a ha => (by cases ha), Nat.le_refl _, rfl, rfl⟩
      rw [upd_ne hus, List.drop_zero, ← hzr, List.reverse_reverse]
      exact hu3
    · rintro i σ H' hi ⟨l', as, es, k, m, v9, v10, rfl, ch, _, hs', hl', hu', ho', hev, hfr, hel, har, hct⟩
      have hr3 : r3.toNat ≤ 200 := by omega
      -- wants_in
      refine ⟨.ref s0, rfl, _, rfl, s0, l', n + 3 + i, _, rfl, hs', hl', by omega, by omega, by omega, fun l4 r4 hl4 h40 h4m => ?_⟩
      refine ⟨rfl, _, rfl, rfl, rfl, ?_⟩
      have hs4 : (upd H' s0 (.lst l4)) s0 = some (.lst l4) := upd_same
      have hu4 : (upd H' s0 (.lst l4)) u = some (.lst ((zr.drop k).reverse.map V.str)) := by rw [upd_ne hus]; exact hu'
      have ho4 : (upd H' s0 (.lst l4)) o = some (.lst (as.map V.ref)) := by rw [upd_ne hos]; exact ho'
      have hev4 : EvT (upd H' s0 (.lst l4)) as es := hev.kt (KT.upd fun xs e => by rw [hs'] at e; cases e)
      have ch4 : Ch s0 H (upd H' s0 (.lst l4)) := ch.trans Ch.src
      generalize upd H' s0 (.lst l4) = H4 at *
      have lenA : (as.map V.ref).length < sizeLine := by
        rw [List.length_map, Paired.length hev]
        exact small1000 (by omega)
      -- elif size > 0
      have els : ∀ H4 : Hp, Ch s0 H H4 → H4 s0 = some (.lst l4) → H4 u = some (.lst ((zr.drop k).reverse.map V.str)) → H4 o = some (.lst (as.map V.ref)) → EvT H4 as es → ∀ v9 v10 : Option V,
          ∀ D : Ends, (∀ σ H', EvInv H s0 t o u n n0 most room zr (.int (2 + r1)) (.int r2) r3.toNat (i + 1) σ H' → D.nx σ H') →
          (tIfS (tTest (tOp (rI0 fun i j => .bl (decide (j < i))) (tVar 1) (tC (.int 0)))) (tSeq (tDrop (tBM K "list" rAppend (tVar 5) (tCons (tTup (tCons (tC (.str "out")) tNil)) tNil))) (tAsg (tOp (rI0 fun i j => .int (i - j)) (tVar 1) (tC (.int 1))) (gName 1))) tNext)
            D [some (.ref s0), some (.int (m : Nat)), some (.ref t), some (.int most), some (.int room), some (.ref o), some (.ref u), some (.int (2 + r1)), some (.int r2), v9, v10] H4 := by
        intro H4 ch4 hs4 hu4 ho4 hev4 v9 v10 D hD
        refine ⟨_, rfl, _, _, rfl, rfl, _, rfl, ite2 (fun hm => ?_) (fun hm => ?_)⟩
        · have hm : (0 : Int) < (m : Nat) := of_decide_eq_true hm
          refine ⟨.ref o, rfl, .inl ⟨rfl, _, .inl (.inl ho4)⟩, by show 1 ≤ sizeLine; decide, fun e he => ?_⟩
          have heo : o ≠ e := ne_of_none ho4 he
          have heu : u ≠ e := ne_of_none hu4 he
          have hes : s0 ≠ e := ne_of_none hs4 he
          have he0 : H e = none := ch4.free hs ⟨_, hs4⟩ he
          refine ⟨o, _, _, rfl, rfl, by rw [upd_ne heo]; exact ho4, lenA, ?_⟩
          refine ⟨_, rfl, _, _, rfl, rfl, hD _ _ ⟨l4, as ++ [e], es ++ [.out], k, m - 1, v9, v10, ?_, (ch4.new he0).new ho, hi, ?_, ?_, ?_, ?_, ?_, ?_, ?_, ?_, ?_⟩⟩
          · show [some (V.ref s0), some (V.int (((m : Nat) : Int) - 1)), some (V.ref t), some (V.int most), some (V.int room), some (V.ref o), some (V.ref u), some (V.int (2 + r1)), some (V.int r2), v9, v10] = _
            rw [show ((m : Nat) : Int) - 1 = ((m - 1 : Nat) : Int) by omega]
          · rw [upd_ne hos.symm, upd_ne hes]
            exact hs4
          · rw [show n + 3 + (i + 1) = n + 3 + i + 1 by omega]
            exact hl4
          · rw [upd_ne huo, upd_ne heu]
            exact hu4
          · rw [upd_same, List.map_append]
            rfl
          · refine Paired.snoc ?_ ?_
            · exact (hev4.kt (KT.upd fun xs e' => by rw [he] at e'; cases e')).kt (KT.upd fun xs e' => by rw [upd_ne heo, ho4] at e'; cases e')
            · show (upd _ _ _) e = _
              rw [upd_ne heo.symm, upd_same]
              rfl
          · intro b hb
            rcases List.mem_append.mp hb with hb | hb
            · exact hfr b hb
            · rw [List.mem_singleton.mp hb]
              exact he0
          · rw [List.length_append]
            show es.length + 1 ≤ _
            omega
          · rw [arrs_app, har]
            show zr.take k ++ [] = _
            rw [List.append_nil]
          · rw [cnt_snoc _ _ _ _ hct]
            show (if 0 < m then some (m - 1) else none) = _
            rw [if_pos (by omega)]
        · exact hD _ _ ⟨l4, as, es, k, m, v9, v10, rfl, ch4, hi, hs4, by rw [show n + 3 + (i + 1) = n + 3 + i + 1 by omega]; exact hl4, hu4, ho4, hev4, hfr, by omega, har, hct⟩
      -- if rest != [] and size < room and (size == 0 or wants_in)
      refine ⟨.ref u, rfl, Nat.zero_le _, fun e0 he0 => ?_⟩
      have hE0 : H e0 = none := ch4.free hs ⟨_, hs4⟩ he0
      have n0o : o ≠ e0 := ne_of_none ho4 he0
      have n0u : u ≠ e0 := ne_of_none hu4 he0
      have n0s : s0 ≠ e0 := ne_of_none hs4 he0
      have hu5 : (upd H4 e0 (.lst [])) u = some (.lst ((zr.drop k).reverse.map V.str)) := by rw [upd_ne n0u]; exact hu4
      have ho5 : (upd H4 e0 (.lst [])) o = some (.lst (as.map V.ref)) := by rw [upd_ne n0o]; exact ho4
      have hs5 : (upd H4 e0 (.lst [])) s0 = some (.lst l4) := by rw [upd_ne n0s]; exact hs4
      have ch5 := ch4.new (o := .lst []) hE0
      have hev5 : EvT (upd H4 e0 (.lst [])) as es := hev4.kt (KT.upd fun xs e' => by rw [he0] at e'; cases e')
      refine ⟨.list ((zr.drop k).reverse.map PyData.str), .list [], .lst (.inl (.inl hu5)) (dp_strs _), .lst (.inl (.inl upd_same)) .nil, shaped_strs _ fun x hx => car_ok (zrc x (List.mem_of_mem_drop (List.mem_reverse.mp hx))), by decide +kernel, ?_⟩
      rw [eqv_nil]
      generalize upd H4 e0 (.lst []) = H5 at *
      have skip : ∀ v9 v10 : Option V, _ := fun v9 v10 => els H5 ch5 hs5 hu5 ho5 hev5 v9 v10
      refine ⟨_, rfl, ?_⟩
      cases hdr : zr.drop k with
      | nil => exact iteF (iteF (skip _ _ _ fun σ H' h => h))
      | cons c rest =>
        have hk : zr[k]? = some c := by
          have : (zr.drop k)[0]? = some c := by rw [hdr]; rfl
          rw [List.getElem?_drop] at this
          exact this
        have hrest : rest = zr.drop (k + 1) := by
          have : (zr.drop k).drop 1 = rest := by rw [hdr]; rfl
          rw [List.drop_drop] at this
          exact this.symm
        rw [hdr] at hu5
        have hrv : ((c :: rest).reverse.map V.str) = rest.reverse.map V.str ++ [V.str c] := by simp
        rw [hrv] at hu5
        have yes : ∀ v9 v10 : Option V, ∀ D : Ends, (∀ σ H', EvInv H s0 t o u n n0 most room zr (.int (2 + r1)) (.int r2) r3.toNat (i + 1) σ H' → D.nx σ H') →
            (tSeq (tDrop (tBM K "list" rAppend (tVar 5) (tCons (tTup (tCons (tC (.str "in")) (tCons (tBM0 K "list" rPop (tVar 6)) tNil))) tNil))) (tAsg (tOp (rI0 fun i j => .int (i + j)) (tVar 1) (tC (.int 1))) (gName 1)))
              D [some (.ref s0), some (.int (m : Nat)), some (.ref t), some (.int most), some (.int room), some (.ref o), some (.ref u), some (.int (2 + r1)), some (.int r2), v9, v10] H5 := by
          intro v9 v10 D hD
          refine ⟨.ref o, rfl, .inl ⟨rfl, _, .inl (.inl ho5)⟩, .ref u, rfl, .inl ⟨rfl, _, .inl (.inl hu5)⟩, u, _, V.str c, rfl, rfl, hu5, ?_, ?_⟩
          · rw [List.length_append]
            show (rest.reverse.map V.str ++ [V.str c])[(rest.reverse.map V.str).length + 1 - 1]? = _
            rw [Nat.add_sub_cancel, List.getElem?_append_right (Nat.le_refl _), Nat.sub_self]
            rfl
          rw [List.dropLast_concat]
          refine ⟨by show 2 ≤ sizeLine; decide, fun e he => ?_⟩
          have heu : e ≠ u := fun z => by
            rw [z, upd_same] at he
            cases he
          rw [upd_ne heu] at he
          have heo : o ≠ e := ne_of_none ho5 he
          have hes : s0 ≠ e := ne_of_none hs5 he
          have he0 : H e = none := ch5.free hs ⟨_, hs5⟩ he
          refine ⟨o, _, _, rfl, rfl, by rw [upd_ne heo, upd_ne huo.symm]; exact ho5, lenA, ?_⟩
          refine ⟨_, rfl, _, _, rfl, rfl, hD _ _ ⟨l4, as ++ [e], es ++ [.inn c], k + 1, m + 1, v9, v10, rfl, ((ch5.new hu1).new he0).new ho, hi, ?_, ?_, ?_, ?_, ?_, ?_, ?_, ?_, ?_⟩⟩
          · rw [upd_ne hos.symm, upd_ne hes, upd_ne hus.symm]
            exact hs5
          · rw [show n + 3 + (i + 1) = n + 3 + i + 1 by omega]
            exact hl4
          · rw [upd_ne huo, upd_ne heu.symm, upd_same, ← hrest]
          · rw [upd_same, List.map_append]
            rfl
          · refine Paired.snoc ?_ ?_
            · exact ((hev5.kt (KT.upd fun xs e' => by rw [hu5] at e'; cases e')).kt (KT.upd fun xs e' => by rw [upd_ne heu, he] at e'; cases e')).kt (KT.upd fun xs e' => by rw [upd_ne heo, upd_ne huo.symm, ho5] at e'; cases e')
            · show (upd _ _ _) e = _
              rw [upd_ne heo.symm, upd_same]
              rfl
          · intro b hb
            rcases List.mem_append.mp hb with hb | hb
            · exact hfr b hb
            · rw [List.mem_singleton.mp hb]
              exact he0
          · rw [List.length_append]
            show es.length + 1 ≤ _
            omega
          · rw [arrs_app, har, List.take_add_one, hk]
            rfl
          · rw [cnt_snoc _ _ _ _ hct]
            rfl
        have hne : (!((c :: rest).reverse).isEmpty) = true := by
          cases h : (c :: rest).reverse with
          | nil => simp at h
          | cons a b => rfl
        rw [hdr] at *
        rw [hne]
        refine iteT ⟨_, rfl, _, rfl, _, _, rfl, rfl, _, rfl, ite2 (fun h40 => ?_) (fun h40 => ?_)⟩
        · refine ⟨_, rfl, rfl, _, rfl, ite2 (fun hm0 => ?_) (fun hm0 => ?_)⟩
          · exact iteT (yes _ _ _ fun σ H' h => h)
          · refine ⟨_, rfl, _, rfl, ite2 (fun ha => ?_) (fun ha => ?_)⟩
            · exact yes _ _ _ fun σ H' h => h
            · exact skip _ _ _ fun σ H' h => h
        · exact iteF (skip _ _ _ fun σ H' h => h)
    · rintro σ H' ⟨l', as, es, k, m, v9, v10, rfl, ch, _, hs', hl', hu', ho', hev, hfr, hel, har, hct⟩
      exact ⟨.ref o, rfl, q H' o as es k m l' ch ho hfr (by omega) har hct (hl'.mono (by omega)) hs' ho' hev⟩
end
end Ln


set_option Elab.async false
set_option linter.all false
set_option maxRecDepth 100000
set_option maxHeartbeats 4000000
namespace Ln
open PySem PySem.Spec PyProof.Rows L2 GxR
/-! ### the stayers as a dict by their moments -/
/-- what an event does: no stayer's arrival, or the first one's, or one on the left or on the right -/
def stOf (F : List Str) (lo : Option Nat) : Ev → Option (Option Bool)
  | .out => none
  | .inn c => if c ∈ F then some (lo.map fun l => decide (F.idxOf c < l)) else none
def loAt (F : List Str) : Option Nat → List Ev → Option Nat
  | lo, [] => lo
  | lo, e :: r => loAt F (loN F lo e) r
def kindW : Option (Option Bool) → Ev → Str
  | some none, _ => "first"
  | some (some true), _ => "L"
  | some (some false), _ => "R"
  | none, .out => "out"
  | none, .inn _ => "in"
theorem loN_st {F : List Str} {lo : Option Nat} {c : Str} (h : c ∈ F) : loN F lo (.inn c) = some (lo.getD (F.idxOf c)) := by
  cases lo <;> exact if_pos h
theorem loN_in {F : List Str} {lo : Option Nat} {c : Str} (h : c ∉ F) : loN F lo (.inn c) = lo := if_neg h
theorem kinds_cons {F : List Str} {lo : Option Nat} {e : Ev} {r : List Ev} : kindsL F lo (e :: r) = kindW (stOf F lo e) e :: kindsL F (loN F lo e) r := by
  cases e with
  | out => rfl
  | inn c =>
    by_cases h : c ∈ F
    · have e1 : loN F lo (.inn c) = (match lo with | none => some (F.idxOf c) | some l => some l) := if_pos h
      have e2 : stOf F lo (.inn c) = some (lo.map fun l => decide (F.idxOf c < l)) := if_pos h
      rw [e1, e2]
      cases lo with
      | none => exact kinds_first h
      | some l =>
        rw [kinds_st h]
        show _ = kindW (some (some (decide (F.idxOf c < l)))) (.inn c) :: _
        by_cases q : F.idxOf c < l
        · rw [if_pos q, decide_eq_true q]
          rfl
        · rw [if_neg q, decide_eq_false q]
          rfl
    · have e1 : loN F lo (.inn c) = lo := if_neg h
      have e2 : stOf F lo (.inn c) = none := if_neg h
      rw [e1, e2, kinds_in h]
      rfl
def nxS : Option (Option Bool) → Bool → Bool
  | some (some b), _ => b
  | _, d => d
theorem nxW_cons {F : List Str} {lo : Option Nat} {e : Ev} {r : List Ev} : nxW F lo (e :: r) = nxS (stOf F lo e) (nxW F (loN F lo e) r) := by
  cases e with
  | out => rfl
  | inn c =>
    by_cases h : c ∈ F
    · have e2 : stOf F lo (.inn c) = some (lo.map fun l => decide (F.idxOf c < l)) := if_pos h
      have e1 := loN_st (lo := lo) h
      rw [e1, e2]
      cases lo with
      | none => exact if_pos h
      | some l => exact if_pos h
    · have e2 : stOf F lo (.inn c) = none := if_neg h
      have e1 : loN F lo (.inn c) = lo := if_neg h
      rw [e1, e2]
      cases lo with
      | none => exact if_neg h
      | some l => exact if_neg h
def look (rs : List (Str × Nat × Option Bool)) (m : Nat) : Option (Option Bool) := (rs.find? fun r => decide (r.2.1 = m)).map (·.2.2)
theorem arr_ge {F : List Str} : ∀ (es : List Ev) (lo : Option Nat) (m : Nat), ∀ r ∈ arrSt F lo m es, m ≤ r.2.1
  | [], _, _, _, h => by cases h
  | .out :: es, lo, m, r, h => by
    have := arr_ge es lo (m + 1) r h
    omega
  | .inn c :: es, lo, m, r, h => by
    by_cases hc : c ∈ F
    · cases lo with
      | none =>
        have e : arrSt F none m (.inn c :: es) = (c, m, none) :: arrSt F (some (F.idxOf c)) (m + 1) es := if_pos hc
        rw [e] at h
        rcases List.mem_cons.mp h with h | h
        · rw [h]; exact Nat.le_refl m
        · have := arr_ge es _ (m + 1) r h
          omega
      | some l =>
        have e : arrSt F (some l) m (.inn c :: es) = (c, m, some (decide (F.idxOf c < l))) :: arrSt F (some l) (m + 1) es := if_pos hc
        rw [e] at h
        rcases List.mem_cons.mp h with h | h
        · rw [h]; exact Nat.le_refl m
        · have := arr_ge es _ (m + 1) r h
          omega
    · have e : arrSt F lo m (.inn c :: es) = arrSt F lo (m + 1) es := by cases lo <;> exact if_neg hc
      rw [e] at h
      have := arr_ge es lo (m + 1) r h
      omega
/-- the stayers, event by event -/
theorem arr_cons {F : List Str} {lo : Option Nat} {m : Nat} {e : Ev} {r : List Ev} : (stOf F lo e = none ∧ arrSt F lo m (e :: r) = arrSt F (loN F lo e) (m + 1) r) ∨ ∃ s c, stOf F lo e = some s ∧ arrSt F lo m (e :: r) = (c, m, s) :: arrSt F (loN F lo e) (m + 1) r := by
  cases e with
  | out => exact .inl ⟨rfl, rfl⟩
  | inn c =>
    by_cases h : c ∈ F
    · have e2 : stOf F lo (.inn c) = some (lo.map fun l => decide (F.idxOf c < l)) := if_pos h
      have e1 := loN_st (lo := lo) h
      refine .inr ⟨_, c, e2, ?_⟩
      rw [e1]
      cases lo with
      | none => exact if_pos h
      | some l => exact if_pos h
    · have e2 : stOf F lo (.inn c) = none := if_neg h
      have e1 : loN F lo (.inn c) = lo := if_neg h
      refine .inl ⟨e2, ?_⟩
      rw [e1]
      cases lo with
      | none => exact if_neg h
      | some l => exact if_neg h
theorem look_arr {F : List Str} : ∀ (es : List Ev) (lo : Option Nat) (m i : Nat) (e : Ev), es[i]? = some e → look (arrSt F lo m es) (m + i) = stOf F (loAt F lo (es.take i)) e
  | [], _, _, _, _, h => by cases h
  | e :: r, lo, m, i, e', h => by
    cases i with
    | zero =>
      cases h
      show _ = stOf F lo e
      rcases arr_cons (F := F) (lo := lo) (m := m) (e := e) (r := r) with ⟨h1, h2⟩ | ⟨s, c, h1, h2⟩
      · rw [h1, h2]
        unfold look
        rw [List.find?_eq_none.mpr fun x hx => by
          have := arr_ge r _ _ x hx
          rw [decide_eq_true_iff]
          omega]
        rfl
      · rw [h1, h2]
        unfold look
        rw [List.find?_cons, decide_eq_true (show (c, m, s).2.1 = m + 0 from rfl)]
        rfl
    | succ i =>
      have ih := look_arr (F := F) r (loN F lo e) (m + 1) i e' h
      have e0 : m + 1 + i = m + (i + 1) := by omega
      rw [e0] at ih
      show _ = stOf F (loAt F (loN F lo e) (r.take i)) e'
      rw [← ih]
      rcases arr_cons (F := F) (lo := lo) (m := m) (e := e) (r := r) with ⟨h1, h2⟩ | ⟨s, c, h1, h2⟩
      · rw [h2]
      · rw [h2]
        unfold look
        rw [List.find?_cons, decide_eq_false (show ¬ (c, m, s).2.1 = m + (i + 1) from by show ¬ m = m + (i + 1); omega)]
/-- the dict of them -/
def stK (rs : List (Str × Nat × Option Bool)) : List (Key × V) := rs.map fun r => (Sum.inl (r.2.1 : Int), sdV r.2.2)
theorem stK_val {rs : List (Str × Nat × Option Bool)} {m : Nat} : valV (stK rs) (Sum.inl (m : Int)) = (look rs m).map sdV := by
  induction rs with
  | nil => rfl
  | cons r rs ih =>
    unfold valV stK look at ih ⊢
    rw [List.map_cons, List.find?_cons, List.find?_cons]
    by_cases e : r.2.1 = m
    · rw [decide_eq_true (show (Sum.inl (r.2.1 : Int), sdV r.2.2).1 = (Sum.inl (m : Int) : Key) by rw [e]), decide_eq_true e]
      rfl
    · rw [decide_eq_false (show ¬ (Sum.inl (r.2.1 : Int), sdV r.2.2).1 = (Sum.inl (m : Int) : Key) from fun z => e (by injection z with z; omega)), decide_eq_false e]
      exact ih
theorem stK_put {rs : List (Str × Nat × Option Bool)} {r : Str × Nat × Option Bool} (h : ∀ q ∈ rs, q.2.1 ≠ r.2.1) : putK (stK rs) (Sum.inl (r.2.1 : Int)) (sdV r.2.2) = stK (rs ++ [r]) := by
  have e : ((stK rs).any fun kv => decide (kv.1 = (Sum.inl (r.2.1 : Int) : Key))) = false := by
    rw [List.any_eq_false]
    intro kv hkv
    unfold stK at hkv
    obtain ⟨q, hq, rfl⟩ := List.mem_map.mp hkv
    rw [decide_eq_true_iff]
    intro z
    have z : (Sum.inl (q.2.1 : Int) : Key) = Sum.inl (r.2.1 : Int) := z
    injection z with z
    exact h q hq (by omega)
  unfold putK
  rw [e]
  unfold stK
  rw [List.map_append]
  rfl
theorem arr_lt {F : List Str} : ∀ (es : List Ev) (lo : Option Nat) (m : Nat), (arrSt F lo m es).Pairwise fun a b => a.2.1 < b.2.1
  | [], _, _ => .nil
  | e :: r, lo, m => by
    have ih := arr_lt (F := F) r (loN F lo e) (m + 1)
    rcases arr_cons (F := F) (lo := lo) (m := m) (e := e) (r := r) with ⟨h1, h2⟩ | ⟨s, c, h1, h2⟩
    · rw [h2]; exact ih
    · rw [h2]
      refine .cons (fun b hb => ?_) ih
      have := arr_ge r _ _ b hb
      show m < _
      omega
theorem arr_len {F : List Str} : ∀ (es : List Ev) (lo : Option Nat) (m : Nat), (arrSt F lo m es).length ≤ es.length
  | [], _, _ => Nat.le_refl _
  | e :: r, lo, m => by
    have ih := arr_len (F := F) r (loN F lo e) (m + 1)
    rcases arr_cons (F := F) (lo := lo) (m := m) (e := e) (r := r) with ⟨h1, h2⟩ | ⟨s, c, h1, h2⟩
    · rw [h2, List.length_cons]; omega
    · rw [h2, List.length_cons, List.length_cons]; omega
/-- over a list that stays -/
theorem dc_list {K : PySem.W.Frag} {a : Addr} {xs : List V} {g : TG} {tt : TT} {tk tv : TE} {vs : List Nat} {σ : L2.St} {H1 : Hp} {D : Addr} {Qd : Hp → Prop} (Pv : Nat → Hp → Prop) (h0 : Pv 0 (upd H1 D (.dK []))) (hl : ∀ i H, i ≤ xs.length → Pv i H → SqL K H a xs)
    (hs : ∀ i x H, xs[i]? = some x → Pv i H → g x (wipe σ vs) H fun σ2 H2 => wipe σ2 vs = wipe σ vs ∧ tt σ2 H2 fun b H3 =>
      if b = true then tk σ2 H3 fun y H4 => tv σ2 H4 fun z H5 => ∃ kvs k, y = kV k ∧ H5 D = some (.dK kvs) ∧ kvs.length < sizeLine ∧ Pv (i + 1) (upd H5 D (.dK (putK kvs k z))) else Pv (i + 1) H3) (hd : ∀ H, Pv xs.length H → Qd H) :
    ∃ W : Nat → Nat → Hp → Prop, (∃ m, W 0 m (upd H1 D (.dK []))) ∧ ∀ i m H, W i m H →
      ((Itl K a).stop i H ∧ Qd H) ∨ ((Itl K a).go i H ∧ ∃ Nx : Hp → Prop, (∀ H', Nx H' → ∃ m', m' < m ∧ W (i + 1) m' H') ∧ ∀ x H', (Itl K a).yld i H x H' → g x (wipe σ vs) H' fun σ2 H2 => wipe σ2 vs = wipe σ vs ∧ tt σ2 H2 fun b H3 =>
        if b = true then tk σ2 H3 fun y H4 => tv σ2 H4 fun z H5 => ∃ kvs k, y = kV k ∧ H5 D = some (.dK kvs) ∧ kvs.length < sizeLine ∧ Nx (upd H5 D (.dK (putK kvs k z))) else Nx H3) := by
  refine ⟨fun i m H => m = xs.length - i ∧ i ≤ xs.length ∧ Pv i H, ⟨xs.length, by simp, Nat.zero_le _, h0⟩, ?_⟩
  rintro i m H ⟨rfl, hi, p⟩
  have q := hl i H hi p
  by_cases hlt : i < xs.length
  · refine .inr ⟨⟨xs, xs[i], q, by simp [hlt]⟩, Pv (i + 1), fun H' p' => ⟨xs.length - (i + 1), by omega, rfl, hlt, p'⟩, fun x H' y => ?_⟩
    obtain ⟨e, y⟩ := y
    subst e
    exact hs i x _ (y xs q) p
  · have e : i = xs.length := by omega
    subst e
    exact .inl ⟨⟨xs, q, Nat.le_refl _⟩, hd H p⟩
end Ln


set_option Elab.async false
set_option linter.all false
set_option maxRecDepth 100000
set_option maxHeartbeats 4000000
namespace Ln
open PySem PySem.Spec PyProof.Rows L2 GxR
/-! ### name = {k: v for ..} on one line, the name a local -/
section
variable {X : Cx}
theorem ps_setDc {i : Nat} {y : Str} {py : Pos} {kx vx tg iter : Expr} {ifs : List Expr} {scope : Scope} {own : List (Str × Nat)} {pos spos : Pos} {wi : TI} {g : TG} {tt : TT} {tk tv : TE} (hc : X.calm = true) (hN : X.N.Nodup) (hy : X.N[i]? = some y) (hyl : X.env.scope.names.lookup y = some .local)
    (hsw : swapsWith (.DictComp kx vx [⟨tg, iter, ifs, 0⟩] scope pos) (some (.Name y py)) spos.line X.env = pure true) (hi : PI X tg iter wi) (ok : BlkOk X.N X.env.scope scope own)
    (hg : ∀ (s : Shared) (H : Hp) (C : Addr) (cl : List (Str × Addr)) (fp : List Addr), PG (X.blk s H scope (compEnvC scope cl C X.env) fp) tg g) (ht : ∀ (s : Shared) (H : Hp) (C : Addr) (cl : List (Str × Addr)) (fp : List Addr), PTs (X.blk s H scope (compEnvC scope cl C X.env) fp) ifs tt)
    (hk : ∀ (s : Shared) (H : Hp) (C : Addr) (cl : List (Str × Addr)) (fp : List Addr), PE (X.blk s H scope (compEnvC scope cl C X.env) fp) kx tk)
    (he : ∀ (s : Shared) (H : Hp) (C : Addr) (cl : List (Str × Addr)) (fp : List Addr), PE (X.blk s H scope (compEnvC scope cl C X.env) fp) vx tv) (hs : ∀ x, foldedSetIterable iter X.env x = pure x := by intro _; rfl) :
    PS X (.Assign [.Name y py] (.DictComp kx vx [⟨tg, iter, ifs, 0⟩] scope pos) spos) (tAsg (tDc wi g tt tk tv (own.map (·.2))) (gName i)) := by
  refine ⟨fun pins s σ H D I h => ?_⟩
  rw [exec_Assign_Name_used _ _ _ _ hsw]
  refine wpAny_bind (wpAny_standAt (wpAny_bind ?_))
  show wpAny _ X.A (do let _ ← comprehension (.DictComp kx vx [⟨tg, iter, ifs, 0⟩] scope pos) scope X.env (firstIterPos [⟨tg, iter, ifs, 0⟩] pos) newDict false (eval iter X.env) (some (assign (.Name y py) X.env))) _ _ s
  have h : tDc wi g tt tk tv (own.map (·.2)) σ H (fun x H1 => gName i x σ H1 D.nx) := h
  refine wpAny_bind (thn (dc_core (Qf := fun _ s' => SP X pins D .next s') hc hN I hi ok hg ht hk he hs h fun L C s' m H' I' q hn f => ?_) fun _ s' hq => wpAny_pure (wpAny_pure hq))
  show wpAny _ _ (assign (.Name y py) X.env (.ref L)) _ _ _
  refine wpAny_assign_Name (store_ok2 (v := V.ref L) I' hN hy (.inl hyl) rfl (fun s2 I2 ⟨a, sb, ha⟩ => ?_) (.inr hyl))
  obtain ⟨f0, f1, f2, f3, f4, f5⟩ := f
  have haC : C ≠ a := by
    rcases ha with z | z
    · rw [z]; exact f1
    · exact fun e => f4 y a z e.symm
  refine ⟨m, hn.sameBut sb haC, fun h3 sb3 => ?_⟩
  exact ⟨_, H', I2.turned (t' := s2.toks) (fun b o hb e => (sb3.2 b hb).trans e) f0 f1 f3 f4 f5, q⟩
theorem sw_trueD {kx vx : Expr} {gs : List Comprehension} {scope : Scope} {pos py : Pos} {y : Str} {l : Nat} {env : Env} (hk : env.scope.kind = .function) (hy : env.scope.names.lookup y = some .local) (hl : (py.line == pos.line) = true)
    (ha : (scope.names.any fun (n, k) => n == y && (k == .local || k == .cell)) = false) : swapsWith (.DictComp kx vx gs scope pos) (some (.Name y py)) l env = pure true := by
  have ky : env.kindOf y = some .local := hy
  have hb : env.blockKind = .function := by unfold Env.blockKind; rw [hk]; rfl
  unfold swapsWith
  simp only [hb, ky, ha, Expr.pos, hl]
  rfl
end
end Ln


set_option Elab.async false
set_option linter.all false
set_option maxRecDepth 100000
set_option maxHeartbeats 4000000
namespace Ln
open PySem PySem.Spec PyProof.Rows L2 GxR
/-! ### wanted_sides, list_kinds -/
def wantB (F : List Str) : Option Nat → List Ev → List Bool
  | _, [] => []
  | lo, e :: r => nxW F lo (e :: r) :: wantB F (loN F lo e) r
def sB (b : Bool) : V := .str (if b = true then "L" else "R")
theorem wantB_len {F : List Str} : ∀ {es : List Ev} {lo : Option Nat}, (wantB F lo es).length = es.length
  | [], _ => rfl
  | _ :: _, _ => congrArg (· + 1) wantB_len
theorem wantB_drop {F : List Str} : ∀ {es : List Ev} {lo : Option Nat} {i : Nat}, (wantB F lo es).drop i = wantB F (loAt F lo (es.take i)) (es.drop i)
  | [], lo, 0 => rfl
  | [], lo, i + 1 => rfl
  | e :: r, lo, 0 => rfl
  | e :: r, lo, i + 1 => wantB_drop (es := r) (i := i)
theorem kinds_drop {F : List Str} : ∀ {es : List Ev} {lo : Option Nat} {i : Nat}, (kindsL F lo es).drop i = kindsL F (loAt F lo (es.take i)) (es.drop i)
  | [], lo, 0 => rfl
  | [], lo, i + 1 => rfl
  | e :: r, lo, 0 => rfl
  | e :: r, lo, i + 1 => by
    rw [kinds_cons, List.drop_succ_cons]
    exact kinds_drop (es := r) (i := i)
theorem kinds_len {F : List Str} : ∀ {es : List Ev} {lo : Option Nat}, (kindsL F lo es).length = es.length
  | [], _ => rfl
  | _ :: _, _ => by
    rw [kinds_cons, List.length_cons, List.length_cons, kinds_len]
theorem kinds_at {F : List Str} {es : List Ev} {lo : Option Nat} {i : Nat} {e : Ev} (h : es[i]? = some e) : (kindsL F lo es)[i]? = some (kindW (stOf F (loAt F lo (es.take i)) e) e) := by
  have h1 : (kindsL F lo es)[i]? = ((kindsL F lo es).drop i)[0]? := by rw [List.getElem?_drop, Nat.add_zero]
  have h2 : es.drop i = e :: es.drop (i + 1) := by
    have hl := (List.getElem?_eq_some_iff.mp h).1
    rw [List.drop_eq_getElem_cons hl, (List.getElem?_eq_some_iff.mp h).2]
  rw [h1, kinds_drop, h2, kinds_cons]
  rfl
theorem loAt_succ {F : List Str} : ∀ {es : List Ev} {lo : Option Nat} {i : Nat} {e : Ev}, es[i]? = some e → loAt F lo (es.take (i + 1)) = loN F (loAt F lo (es.take i)) e
  | [], _, _, _, h => by cases h
  | e' :: r, lo, 0, e, h => by
    cases h
    rfl
  | e' :: r, lo, i + 1, e, h => loAt_succ (es := r) (i := i) h
theorem stsT_same {H H' : Hp} {ts : List Addr} {rs : List (Str × Nat × Option Bool)} (h : StsT H ts rs) (k : L2.Same H H') : StsT H' ts rs := Paired.imp h fun _ _ q => k _ _ q
theorem rep_set {α : Type} {a w : α} {D : List α} {k : Nat} : (List.replicate (k + 1) a ++ D).set k w = List.replicate k a ++ w :: D := by
  rw [List.replicate_succ', List.append_assoc, List.set_append_right _ _ (by rw [List.length_replicate]; exact Nat.le_refl _), List.length_replicate, Nat.sub_self]
  rfl
theorem flat_rep {α : Type} (x : α) : ∀ n : Nat, (List.replicate n [x]).flatten = List.replicate n x
  | 0 => rfl
  | n + 1 => by
    rw [List.replicate_succ, List.flatten_cons, flat_rep x n]
    rfl
theorem kv_nat (n : Nat) : V.int (n : Int) = kV (Sum.inl (n : Int)) := rfl
theorem kv_natT (n : Nat) : V.int ((n : Int)) = kV (Sum.inl (n : Int)) := rfl
theorem scWant : FnScope ["start", "log", "lane", "known", "sides", "side", "moment", "_"] ["start", "log", "lane"] (defScope sWant) := ⟨rfl, rfl, rfl, by decide +kernel, rfl, by decide +kernel, by decide +kernel⟩
theorem scKinds : FnScope ["start", "log", "lane", "known", "kinds", "moment", "event", "_", "side"] ["start", "log", "lane"] (defScope sKinds) := ⟨rfl, rfl, rfl, by decide +kernel, rfl, by decide +kernel, by decide +kernel⟩
section
variable {P : Program} {w : World} {K : PySem.W.Frag} {mg : Str → Option Value} {base : Heap} {Ps : List Addr}
def spWant (K : PySem.W.Frag) (Ps : List Addr) : Sp := fun vs H Q _ => ∃ (a l f : Addr) (xs : List Str) (as : List Addr) (es : List Ev) (F : List Str), vs = [.ref a, .ref l, .ref f] ∧ SqT K H a (xs.map V.str) ∧ LogAt K H l as es ∧ TupD H f (F.map V.str) ∧ F.length ≤ 400 ∧ Tabs Ps H ∧
  ∀ H' p, Kp Ps H H' → H p = none → H' p = some (.lst ((wantB F (lo0 (brg F xs)) es).map sB)) → Q (.ref p) H'
theorem ok_want {f fA : Addr} {fd fdA : FuncData} (F : Fun K "wanted_sides" "wanted_sides" sWant f fd) (B : Bi mg) (B2 : Bl mg)
    (GA : FnOk P w K mg base CX0 2 fA fdA ["start", "log", "lane"] (spArrSt K Ps)) (mgA : mg "arriving_stayers" = some (.ref fA)) (kA : PySem.W.keepIn K (.ref fA) = true) (bA : Binds K fdA ["start", "log", "lane"] []) : FnOk P w K mg base CX0 3 f fd ["start", "log", "lane"] (spWant K Ps) := by
  refine F.ok scWant (fun vs H Q E h => ?_) (fun cdv A outer s H vs Q E hr h => ?_)
  · obtain ⟨a, l, f, xs, as, es, F, rfl, _⟩ := h
    rfl
  · obtain ⟨a, l, f, xs, as, es, F, rfl, hA, hL, hF, few, hT, q⟩ := h
    have hu := hu_of hr
    refine ⟨_, (pss_cons (ps_setDc (i := 3) (own := [("_", 7), ("moment", 6), ("side", 5)]) (g := gTup K 3 (gCons (gName 7) (gCons (gName 6) (gCons (gName 5) gNil)))) (tt := tYes) (tk := (tVar 6)) (tv := (tVar 5)) (by rfl) scWant.nd rfl rfl (sw_trueD rfl rfl rfl (by decide +kernel)) (pi_list (pe_call GA hr (by rfl) mgA kA bA .nil pass0 (pa_cons (pv 0) (pa_cons (pv 1) (pa_cons (pv 2) pa_nil))))) (blkOk_by (own := [("_", 7), ("moment", 6), ("side", 5)]) (N := ["start", "log", "lane", "known", "sides", "side", "moment", "_"]) (sc := defScope sWant) (by decide +kernel)) (fun _ _ _ _ _ => (pg_tup rfl (pgs_cons (pg_name (i := 7) scWant.nd rfl (Or.inl rfl)) (pgs_cons (pg_name (i := 6) scWant.nd rfl (Or.inl rfl)) (pgs_cons (pg_name (i := 5) scWant.nd rfl (Or.inl rfl)) pgs_nil))))) (fun _ _ _ _ _ => pts_nil) (fun _ _ _ _ _ => (pv 6)) (fun _ _ _ _ _ => (pv 5)))
      (pss_cons (ps_set (i := 4) scWant.nd rfl (.inl rfl) (pe_op op_rep (pe_lst (pa_cons pe_str pa_nil)) (pe_callB call_len_seq (by rfl) B.len PySem.boot_len (pa_cons (pv 1) pa_nil))))
      (pss_cons (ps_set (i := 5) scWant.nd rfl (.inl rfl) pe_str)
      (pss_cons (ps_for PassesOwn.never rfl (pi_range3 (by rfl) B2.rng (pa_cons (pe_callB call_len_seq (by rfl) B.len PySem.boot_len (pa_cons (pv 1) pa_nil)) (pa_cons pe_int (pa_cons (pe_un un_neg pe_int) pa_nil)))) (pg_name (i := 6) scWant.nd rfl (.inl rfl))
        (pss_cons (ps_if (pt_cmpR op_notN1 (pe_dget1 hu (pv 3) (pv 6) ⟨rfl, rfl, rfl, rfl⟩) pe_non (nomark _))
          (pss_one (ps_set (i := 5) scWant.nd rfl (.inl rfl) (pe_dget hu (pv 3) (pv 6) (fun _ _ => rfl))))
          pss_nil)
        (pss_one (ps_asg (pv 5) (pg_sub (pv 4) (pe_op op_sub (pv 6) pe_int) set_list)))))
      (pss_one (ps_ret (pv 4))))))), ?_⟩
    have few2 := hL.few
    have hasl : as.length = es.length := Paired.length hL.evs
    refine ⟨.ref a, rfl, .ref l, rfl, .ref f, rfl, a, l, f, xs, as, es, F, rfl, hA, hL, hF, few, hT, fun H1 p ts k1 hp hp' hst => ⟨p, rfl, ⟨_, SqL.of hp'⟩, fun D hD => ?_⟩⟩
    have hrl := arr_len (F := F) es (lo0 (brg F xs)) 1
    have hlt' := arr_lt (F := F) es (lo0 (brg F xs)) 1
    have hlook : ∀ i e, es[i]? = some e → look (arrSt F (lo0 (brg F xs)) 1 es) (1 + i) = stOf F (loAt F (lo0 (brg F xs)) (es.take i)) e := look_arr es (lo0 (brg F xs)) 1
    generalize arrSt F (lo0 (brg F xs)) 1 es = rs at hst hrl hlt' hlook
    have htl := Paired.length hst
    have hDp : D ≠ p := fun z => by rw [z, hp'] at hD; cases hD
    refine dc_list (K := K) (a := p) (xs := ts.map V.ref) (fun i H' => L2.Same H1 H' ∧ H' D = some (.dK (stK (rs.take i)))) ?_ ?_ ?_ ?_
    · exact ⟨sm_new sm_refl hD, upd_same⟩
    · rintro i H' _ ⟨sm, _⟩
      exact SqL.of (sm _ _ hp')
    · rintro i y H' hi ⟨sm, hD'⟩
      have hlt : i < ts.length := by
        have h1 := (List.getElem?_eq_some_iff.mp hi).1
        rw [List.length_map] at h1
        omega
      have hlr : i < rs.length := by omega
      obtain ⟨t, htt, hty⟩ := pair_at hst i _ (List.getElem?_eq_getElem hlr)
      have hy : y = .ref t := by
        rw [List.getElem?_map, htt] at hi
        exact (Option.some.inj hi).symm
      subst hy
      have hty := sm _ _ hty
      have e1 : rs.take (i + 1) = rs.take i ++ [rs[i]] := by rw [List.take_add_one, List.getElem?_eq_getElem hlr]; rfl
      have hput : putK (stK (rs.take i)) (Sum.inl (rs[i].2.1 : Int)) (sdV rs[i].2.2) = stK (rs.take (i + 1)) := by
        rw [e1]
        refine stK_put fun q0 hq0 z => ?_
        obtain ⟨j, hj, e0⟩ := List.getElem_of_mem hq0
        rw [List.length_take] at hj
        rw [List.getElem_take] at e0
        have := List.pairwise_iff_getElem.mp hlt' j i (by omega) hlr (by omega)
        rw [e0] at this
        omega
      generalize rs[i] = r at hty hput
      obtain ⟨c, m, sd⟩ := r
      have hty : H' t = some (.tup [.str c, .int (m : Nat), sdV sd]) := hty
      refine ⟨t, _, rfl, SqT.of hty, rfl, _, _, rfl, _, _, rfl, _, _, rfl, rfl, rfl, ?_⟩
      unfold tYes
      exact iteT ⟨_, rfl, _, rfl, _, Sum.inl (m : Int), rfl, hD', by
        unfold stK
        rw [List.length_map, List.length_take]
        have h1 : i < 1000 := by omega
        exact small1000 (by omega), fun b o e => by rw [upd_ne fun z => by rw [z, hD] at e; cases e]; exact sm b o e, by rw [upd_same]; exact congrArg (fun x => some (HO.dK x)) hput⟩
    rintro H2 ⟨sm2, hD2⟩
    have hD2 : H2 D = some (.dK (stK rs)) := by
      rw [List.length_map, htl, List.take_length] at hD2
      exact hD2
    have k2 : Kp Ps H H2 := ⟨fun b o e n => sm2 _ _ (k1.at_ b o e n), tabs_same k1.tab sm2⟩
    -- the sides
    refine ⟨by show 1 ≤ sizeLine; decide, fun o ho => ⟨.ref l, rfl, l, _, rfl, .inl (k2.upd hT (k2.free hT ho) |> fun k => (hL.kp k hT).at_), o, _, _, rfl, rfl, upd_same, by omega, ?_, ?_, fun o2 ho2 => ?_⟩⟩
    · rw [List.length_map]; omega
    · rw [List.length_map, Int.toNat_natCast, sizeLine_eq]
      show 1 * as.length ≤ _
      omega
    rw [Int.toNat_natCast, flat_rep, List.length_map]
    have sm3 : L2.Same H2 (upd (upd H2 o (.lst [.str "L"])) o2 (.lst (List.replicate as.length (.str "L")))) := sm_new (sm_new sm_refl ho) ho2
    have k3 : Kp Ps H (upd (upd H2 o (.lst [.str "L"])) o2 (.lst (List.replicate as.length (.str "L")))) := ⟨fun b o e n => sm3 _ _ (k2.at_ b o e n), tabs_same k2.tab sm3⟩
    have n2 : H2 o2 = none := sm_none (sm_new (o := .lst [.str "L"]) (sm_refl (H := H2)) ho) ho2
    have ho20 : H o2 = none := k2.free hT n2
    have hDo : D ≠ o2 := fun z => by rw [z, n2] at hD2; cases hD2
    have hD3 := sm3 _ _ hD2
    have e3 : (upd (upd H2 o (.lst [.str "L"])) o2 (.lst (List.replicate as.length (.str "L")))) o2 = some (.lst (List.replicate as.length (.str "L"))) := upd_same
    generalize upd (upd H2 o (.lst [.str "L"])) o2 (.lst (List.replicate as.length (.str "L"))) = H3 at sm3 k3 hD3 e3 ⊢
    have n0 : as.length ≤ 400 := by omega
    refine ⟨.ref l, rfl, l, _, rfl, .inl (hL.kp k3 hT).at_, 1, rfl, _, _, _, _, rfl, RgC.neg (by omega) (by rw [List.length_map]; omega) (by decide) (by decide), ?_⟩
    rw [List.length_map, show ((as.length : Int) - 0).toNat = es.length by omega, hasl]
    have hlen : (wantB F (lo0 (brg F xs)) es).length = es.length := wantB_len
    refine for_rangeC (Pv := fun i σ H' => ∃ v6 : Option V, σ = [some (.ref a), some (.ref l), some (.ref f), some (.ref D), some (.ref o2), some (sB (nxW F (loAt F (lo0 (brg F xs)) (es.take (es.length - i))) (es.drop (es.length - i)))), v6, none] ∧ Kp Ps H H' ∧ i ≤ es.length ∧ H' D = some (.dK (stK rs)) ∧
      H' o2 = some (.lst (List.replicate (es.length - i) (.str "L") ++ ((wantB F (lo0 (brg F xs)) es).drop (es.length - i)).map sB))) ?_ ?_ ?_
    · refine ⟨none, ?_, k3, Nat.zero_le _, hD3, ?_⟩
      · rw [Nat.sub_zero, List.drop_length]
        rfl
      · rw [e3, Nat.sub_zero, List.drop_eq_nil_of_le (by omega), hasl]
        simp
    · rintro i σ H' hi ⟨v6, rfl, k', hie, hD', ho'⟩
      obtain ⟨j, hj⟩ : ∃ j, es.length - i = j + 1 := ⟨es.length - i - 1, by omega⟩
      have hj2 : es.length - (i + 1) = j := by omega
      have hjl : j < es.length := by omega
      have ej : ((es.length : Int) + ((i : Nat) : Int) * -1) = ((j + 1 : Nat) : Int) := by omega
      rw [ej, hj2]
      rw [hj] at ho' ⊢
      have hje : es[j]? = some es[j] := List.getElem?_eq_getElem hjl
      have hdr : es.drop j = es[j] :: es.drop (j + 1) := List.drop_eq_getElem_cons hjl
      have hlk := hlook j _ hje
      have hval : valV (stK rs) (Sum.inl ((j + 1 : Nat) : Int)) = (stOf F (loAt F (lo0 (brg F xs)) (es.take j)) es[j]).map sdV := by
        rw [stK_val, show j + 1 = 1 + j by omega, hlk]
      have hnx : nxW F (loAt F (lo0 (brg F xs)) (es.take j)) (es.drop j) = nxS (stOf F (loAt F (lo0 (brg F xs)) (es.take j)) es[j]) (nxW F (loAt F (lo0 (brg F xs)) (es.take (j + 1))) (es.drop (j + 1))) := by
        rw [hdr, nxW_cons, loAt_succ hje]
      have hwd : (wantB F (lo0 (brg F xs)) es).drop j = nxW F (loAt F (lo0 (brg F xs)) (es.take j)) (es.drop j) :: (wantB F (lo0 (brg F xs)) es).drop (j + 1) := by
        rw [wantB_drop, hdr]
        show _ = _ :: _
        rw [wantB_drop, loAt_succ hje]
        rfl
      -- the end of a turn
      have fin : ∀ b : Bool, b = nxW F (loAt F (lo0 (brg F xs)) (es.take j)) (es.drop j) → H' o2 = some (.lst (List.replicate (j + 1) (.str "L") ++ ((wantB F (lo0 (brg F xs)) es).drop (j + 1)).map sB)) →
          (upd H' o2 (.lst ((List.replicate (j + 1) (V.str "L") ++ ((wantB F (lo0 (brg F xs)) es).drop (j + 1)).map sB).set j (sB b)))) o2 = some (.lst (List.replicate j (.str "L") ++ ((wantB F (lo0 (brg F xs)) es).drop j).map sB)) := fun b hb h => by
        rw [upd_same, rep_set, hwd, List.map_cons, hb]
      have kF : ∀ {v : HO}, Kp Ps H (upd H' o2 v) := fun {v} => k'.upd hT ho20
      have dF : ∀ {v : HO}, (upd H' o2 v) D = some (.dK (stK rs)) := fun {v} => by rw [upd_ne hDo]; exact hD'
      have lF : j < (List.replicate (j + 1) (V.str "L") ++ ((wantB F (lo0 (brg F xs)) es).drop (j + 1)).map sB).length := by
        rw [List.length_append, List.length_replicate]
        omega
      have ej2 : (((j + 1 : Nat) : Int) - 1) = (j : Int) := by omega
      have hg := DGet.k (k := Sum.inl ((j + 1 : Nat) : Int)) hD'
      rw [hval] at hg
      generalize stOf F (loAt F (lo0 (brg F xs)) (es.take j)) es[j] = so at hval hnx hg
      refine ⟨.ref D, rfl, D, rfl, .inl ⟨_, .inl hD'⟩, _, rfl, _, hg, rfl, ?_⟩
      cases so with
      | none => exact ⟨false, rfl, iteF ⟨_, rfl, .ref o2, rfl, _, rfl, _, _, rfl, rfl, o2, _, (((j + 1 : Nat) : Int) - 1), j, rfl, rfl, ho', by rw [ej2]; exact ixN_nat8 lF, some (.int ((j + 1 : Nat) : Int)), by rw [hnx]; rfl, kF, by omega, dF, fin _ hnx.symm ho'⟩⟩
      | some sd =>
        cases sd with
        | none => exact ⟨false, rfl, iteF ⟨_, rfl, .ref o2, rfl, _, rfl, _, _, rfl, rfl, o2, _, (((j + 1 : Nat) : Int) - 1), j, rfl, rfl, ho', by rw [ej2]; exact ixN_nat8 lF, some (.int ((j + 1 : Nat) : Int)), by rw [hnx]; rfl, kF, by omega, dF, fin _ hnx.symm ho'⟩⟩
        | some b =>
          have hsv : sdV (some b) = sB b := by cases b <;> rfl
          refine ⟨true, by cases b <;> rfl, iteT ⟨.ref D, rfl, .int ((j + 1 : Nat) : Int), rfl, D, sdV (some b), rfl, hg, ?_⟩⟩
          rw [hsv]
          exact ⟨_, rfl, .ref o2, rfl, _, rfl, _, _, rfl, rfl, o2, _, (((j + 1 : Nat) : Int) - 1), j, rfl, rfl, ho', by rw [ej2]; exact ixN_nat8 lF, some (.int ((j + 1 : Nat) : Int)), by rw [hnx]; rfl, kF, by omega, dF, fin _ hnx.symm ho'⟩
    · rintro σ H' ⟨v6, rfl, k', hie, hD', ho'⟩
      rw [Nat.sub_self] at ho'
      exact ⟨_, rfl, q _ _ k' ho20 (by rw [ho']; rfl)⟩
def spKinds (K : PySem.W.Frag) (Ps : List Addr) : Sp := fun vs H Q _ => ∃ (a l f : Addr) (xs : List Str) (as : List Addr) (es : List Ev) (F : List Str), vs = [.ref a, .ref l, .ref f] ∧ SqT K H a (xs.map V.str) ∧ LogAt K H l as es ∧ TupD H f (F.map V.str) ∧ F.length ≤ 400 ∧ Tabs Ps H ∧
  ∀ H' p, Kp Ps H H' → H p = none → H' p = some (.lst ((kindsL F (lo0 (brg F xs)) es).map V.str)) → Q (.ref p) H'
theorem ok_kinds {f fA : Addr} {fd fdA : FuncData} (F : Fun K "list_kinds" "list_kinds" sKinds f fd) (B3 : Bn mg)
    (GA : FnOk P w K mg base CX0 2 fA fdA ["start", "log", "lane"] (spArrSt K Ps)) (mgA : mg "arriving_stayers" = some (.ref fA)) (kA : PySem.W.keepIn K (.ref fA) = true) (bA : Binds K fdA ["start", "log", "lane"] []) : FnOk P w K mg base CX0 3 f fd ["start", "log", "lane"] (spKinds K Ps) := by
  refine F.ok scKinds (fun vs H Q E h => ?_) (fun cdv A outer s H vs Q E hr h => ?_)
  · obtain ⟨a, l, f, xs, as, es, F, rfl, _⟩ := h
    rfl
  · obtain ⟨a, l, f, xs, as, es, F, rfl, hA, hL, hF, few, hT, q⟩ := h
    have hu := hu_of hr
    refine ⟨_, (pss_cons (ps_setDc (i := 3) (own := [("_", 7), ("moment", 5), ("side", 8)]) (g := gTup K 3 (gCons (gName 7) (gCons (gName 5) (gCons (gName 8) gNil)))) (tt := tYes) (tk := (tVar 5)) (tv := (tVar 8)) (by rfl) scKinds.nd rfl rfl (sw_trueD rfl rfl rfl (by decide +kernel)) (pi_list (pe_call GA hr (by rfl) mgA kA bA .nil pass0 (pa_cons (pv 0) (pa_cons (pv 1) (pa_cons (pv 2) pa_nil))))) (blkOk_by (own := [("_", 7), ("moment", 5), ("side", 8)]) (N := ["start", "log", "lane", "known", "kinds", "moment", "event", "_", "side"]) (sc := defScope sKinds) (by decide +kernel)) (fun _ _ _ _ _ => (pg_tup rfl (pgs_cons (pg_name (i := 7) scKinds.nd rfl (Or.inl rfl)) (pgs_cons (pg_name (i := 5) scKinds.nd rfl (Or.inl rfl)) (pgs_cons (pg_name (i := 8) scKinds.nd rfl (Or.inl rfl)) pgs_nil))))) (fun _ _ _ _ _ => pts_nil) (fun _ _ _ _ _ => (pv 5)) (fun _ _ _ _ _ => (pv 8)))
      (pss_cons (ps_set (i := 4) scKinds.nd rfl (.inl rfl) (pe_lst pa_nil))
      (pss_cons (ps_for PassesOwn.never rfl (pi_enumF true 1 (by decide) (by decide) (by rfl) B3.enm (pa_cons (pv 1) (pa_cons pe_int pa_nil))) (pg_tup (by rfl) (pgs_cons (pg_name (i := 5) scKinds.nd rfl (.inl rfl)) (pgs_cons (pg_name (i := 6) scKinds.nd rfl (.inl rfl)) pgs_nil)))
        (pss_one (ps_if (pt_cmp (pc_dnotin hu (pv 5) (pv 3)))
          (pss_one (ps_expr (pe_bm PySem.F.plainAttrs_list PySem.F.slot_list_append PySem.F.type_list_append mt_append (pv 4) (pa_cons (pe_ix ix_tup (pv 6) pe_int (fun _ _ => rfl)) pa_nil))))
          (pss_one (ps_expr (pe_bm PySem.F.plainAttrs_list PySem.F.slot_list_append PySem.F.type_list_append mt_append (pv 4) (pa_cons (pe_ifExp (pt_cmpR op_isN1 (pe_dget hu (pv 3) (pv 5) (fun _ _ => rfl)) pe_non (nomark _)) pe_str (pe_dget hu (pv 3) (pv 5) (fun _ _ => rfl))) pa_nil)))))))
      (pss_one (ps_ret (pv 4)))))), ?_⟩
    have few2 := hL.few
    have hasl : as.length = es.length := Paired.length hL.evs
    refine ⟨.ref a, rfl, .ref l, rfl, .ref f, rfl, a, l, f, xs, as, es, F, rfl, hA, hL, hF, few, hT, fun H1 p ts k1 hp hp' hst => ⟨p, rfl, ⟨_, SqL.of hp'⟩, fun D hD => ?_⟩⟩
    have hrl := arr_len (F := F) es (lo0 (brg F xs)) 1
    have hlt' := arr_lt (F := F) es (lo0 (brg F xs)) 1
    have hlook : ∀ i e, es[i]? = some e → look (arrSt F (lo0 (brg F xs)) 1 es) (1 + i) = stOf F (loAt F (lo0 (brg F xs)) (es.take i)) e := look_arr es (lo0 (brg F xs)) 1
    generalize arrSt F (lo0 (brg F xs)) 1 es = rs at hst hrl hlt' hlook
    have htl := Paired.length hst
    have hDp : D ≠ p := fun z => by rw [z, hp'] at hD; cases hD
    refine dc_list (K := K) (a := p) (xs := ts.map V.ref) (fun i H' => L2.Same H1 H' ∧ H' D = some (.dK (stK (rs.take i)))) ?_ ?_ ?_ ?_
    · exact ⟨sm_new sm_refl hD, upd_same⟩
    · rintro i H' _ ⟨sm, _⟩
      exact SqL.of (sm _ _ hp')
    · rintro i y H' hi ⟨sm, hD'⟩
      have hlt : i < ts.length := by
        have h1 := (List.getElem?_eq_some_iff.mp hi).1
        rw [List.length_map] at h1
        omega
      have hlr : i < rs.length := by omega
      obtain ⟨t, htt, hty⟩ := pair_at hst i _ (List.getElem?_eq_getElem hlr)
      have hy : y = .ref t := by
        rw [List.getElem?_map, htt] at hi
        exact (Option.some.inj hi).symm
      subst hy
      have hty := sm _ _ hty
      have e1 : rs.take (i + 1) = rs.take i ++ [rs[i]] := by rw [List.take_add_one, List.getElem?_eq_getElem hlr]; rfl
      have hput : putK (stK (rs.take i)) (Sum.inl (rs[i].2.1 : Int)) (sdV rs[i].2.2) = stK (rs.take (i + 1)) := by
        rw [e1]
        refine stK_put fun q0 hq0 z => ?_
        obtain ⟨j, hj, e0⟩ := List.getElem_of_mem hq0
        rw [List.length_take] at hj
        rw [List.getElem_take] at e0
        have := List.pairwise_iff_getElem.mp hlt' j i (by omega) hlr (by omega)
        rw [e0] at this
        omega
      generalize rs[i] = r at hty hput
      obtain ⟨c, m, sd⟩ := r
      have hty : H' t = some (.tup [.str c, .int (m : Nat), sdV sd]) := hty
      refine ⟨t, _, rfl, SqT.of hty, rfl, _, _, rfl, _, _, rfl, _, _, rfl, rfl, rfl, ?_⟩
      unfold tYes
      exact iteT ⟨_, rfl, _, rfl, _, Sum.inl (m : Int), rfl, hD', by
        unfold stK
        rw [List.length_map, List.length_take]
        have h1 : i < 1000 := by omega
        exact small1000 (by omega), fun b o e => by rw [upd_ne fun z => by rw [z, hD] at e; cases e]; exact sm b o e, by rw [upd_same]; exact congrArg (fun x => some (HO.dK x)) hput⟩
    rintro H2 ⟨sm2, hD2⟩
    have hD2 : H2 D = some (.dK (stK rs)) := by
      rw [List.length_map, htl, List.take_length] at hD2
      exact hD2
    have k2 : Kp Ps H H2 := ⟨fun b o e n => sm2 _ _ (k1.at_ b o e n), tabs_same k1.tab sm2⟩
    refine ⟨Nat.zero_le _, fun o2 ho2 => ?_⟩
    have ho20 : H o2 = none := k2.free hT ho2
    have hDo : D ≠ o2 := fun z => by rw [z, ho2] at hD2; cases hD2
    have k3 : Kp Ps H (upd H2 o2 (.lst [])) := k2.upd hT ho20
    refine ⟨.ref l, rfl, l, as.map V.ref, rfl, (hL.kp k3 hT).at_, for_it (walk_enumA (K := K) (b := true) (k0 := 1) (a := l) (xs := as.map V.ref)) (fun i σ H' => ∃ (v5 v6 : Option V), σ = [some (.ref a), some (.ref l), some (.ref f), some (.ref D), some (.ref o2), v5, v6, none, none] ∧ Kp Ps H H' ∧ i ≤ es.length ∧ H' D = some (.dK (stK rs)) ∧
      H' o2 = some (.lst (((kindsL F (lo0 (brg F xs)) es).take i).map V.str))) ?_ ?_ ?_ ?_⟩
    · exact ⟨none, none, rfl, k3, Nat.zero_le _, by rw [upd_ne hDo]; exact hD2, upd_same⟩
    · rintro i σ H' _ ⟨_, _, _, k', _⟩
      exact (hL.kp k' hT).at_
    · rintro i x σ H1' H2' hi ⟨v5, v6, rfl, k', hie, hD', ho'⟩ ⟨T, y1, y2, rfl, hTn, rfl, e1, e2⟩
      obtain rfl := Option.some.inj e1
      have hlt : i < es.length := by
        rw [List.length_map] at hi
        omega
      have hev : es[i]? = some es[i] := List.getElem?_eq_getElem hlt
      have hT0 : H T = none := k'.free hT hTn
      have kp1 : Kp Ps H (L2.upd H1' T (.tup [.int (1 + (i : Nat)), y2])) := k'.upd hT hT0
      have ho1 : (L2.upd H1' T (.tup [.int (1 + (i : Nat)), y2])) o2 = some (.lst (((kindsL F (lo0 (brg F xs)) es).take i).map V.str)) := by rw [upd_ne (ne_of_none ho' hTn)]; exact ho'
      have hD1 : (L2.upd H1' T (.tup [.int (1 + (i : Nat)), y2])) D = some (.dK (stK rs)) := by rw [upd_ne (ne_of_none hD' hTn)]; exact hD'
      obtain ⟨b, hb, hbt⟩ := pair_at (hL.kp kp1 hT).evs i _ hev
      have hy : y2 = .ref b := by
        have e2 : (as.map V.ref)[i]? = some y2 := e2
        rw [List.getElem?_map, hb] at e2
        exact (Option.some.inj e2).symm
      subst hy
      refine ⟨T, _, rfl, .inl (.inl upd_same), rfl, _, _, rfl, _, _, rfl, rfl, ?_⟩
      generalize L2.upd H1' T (.tup [.int (1 + (i : Nat)), .ref b]) = Ha at kp1 ho1 hD1 hbt ⊢
      have hval : valV (stK rs) (Sum.inl ((1 + (i : Nat) : Nat) : Int)) = (stOf F (loAt F (lo0 (brg F xs)) (es.take i)) es[i]).map sdV := by
        rw [stK_val, hlook i _ hev]
      have hkat := kinds_at (F := F) (lo := lo0 (brg F xs)) hev
      have ei : ((1 + (i : Nat) : Nat) : Int) = 1 + (i : Int) := by omega
      have hg := DGet.k (k := Sum.inl ((1 + (i : Nat) : Nat) : Int)) hD1
      rw [hval, ei] at hg
      have htk : ∀ k : Str, (kindsL F (lo0 (brg F xs)) es)[i]? = some k → (((kindsL F (lo0 (brg F xs)) es).take (i + 1)).map V.str) = (((kindsL F (lo0 (brg F xs)) es).take i).map V.str) ++ [.str k] := fun k hk => by
        rw [List.take_add_one, hk, List.map_append]
        rfl
      have fin : ∀ k : Str, (kindsL F (lo0 (brg F xs)) es)[i]? = some k → ∃ v5 v6 : Option V, [some (V.ref a), some (.ref l), some (.ref f), some (.ref D), some (.ref o2), some (.int (1 + (i : Nat))), some (.ref b), none, none] = [some (.ref a), some (.ref l), some (.ref f), some (.ref D), some (.ref o2), v5, v6, none, none] ∧ Kp Ps H (upd Ha o2 (.lst ((((kindsL F (lo0 (brg F xs)) es).take i).map V.str) ++ [.str k]))) ∧ i + 1 ≤ es.length ∧ (upd Ha o2 (.lst ((((kindsL F (lo0 (brg F xs)) es).take i).map V.str) ++ [.str k]))) D = some (.dK (stK rs)) ∧ (upd Ha o2 (.lst ((((kindsL F (lo0 (brg F xs)) es).take i).map V.str) ++ [.str k]))) o2 = some (.lst (((kindsL F (lo0 (brg F xs)) es).take (i + 1)).map V.str)) := fun k hk =>
        ⟨_, _, rfl, kp1.upd hT ho20, hlt, by rw [upd_ne hDo]; exact hD1, by rw [upd_same, htk k hk]⟩
      have sz : ((((kindsL F (lo0 (brg F xs)) es).take i).map V.str) : List V).length < sizeLine := by
        rw [List.length_map, List.length_take]
        exact small1000 (by omega)
      generalize hso : stOf F (loAt F (lo0 (brg F xs)) (es.take i)) es[i] = so at hval hg hkat
      refine ⟨_, rfl, .ref D, rfl, D, so.map sdV, rfl, hg, _, rfl, ?_⟩
      cases so with
      | none =>
        refine iteT ⟨.ref o2, rfl, .inl ⟨rfl, _, SqL.of ho1⟩, .ref b, rfl, b, _, 0, _, rfl, rfl, hbt, atI_nat (j := 0) ?_, o2, _, _, rfl, rfl, ho1, sz, fin _ hkat⟩
        cases es[i] <;> rfl
      | some sd =>
        refine iteF ⟨.ref o2, rfl, .inl ⟨rfl, _, SqL.of ho1⟩, .ref D, rfl, _, rfl, D, sdV sd, rfl, hg, rfl, ?_⟩
        cases sd with
        | none => exact ⟨true, rfl, iteT ⟨o2, _, _, rfl, rfl, ho1, sz, fin _ hkat⟩⟩
        | some bb =>
          have hsv : sdV (some bb) = V.str (kindW (some (some bb)) es[i]) := by cases bb <;> rfl
          refine ⟨false, by cases bb <;> rfl, iteF ⟨.ref D, rfl, _, rfl, D, sdV (some bb), rfl, hg, ?_⟩⟩
          rw [hsv]
          exact ⟨o2, _, _, rfl, rfl, ho1, sz, fin _ hkat⟩
    · rintro σ H' ⟨v5, v6, rfl, k', hie, hD', ho'⟩
      rw [List.length_map, hasl, ← kinds_len (F := F) (es := es) (lo := lo0 (brg F xs)), List.take_length] at ho'
      exact ⟨_, rfl, q _ _ k' ho20 ho'⟩
end
end Ln


set_option Elab.async false
set_option linter.all false
set_option maxRecDepth 100000
set_option maxHeartbeats 4000000
namespace Ln
open PySem PySem.Spec PyProof.Rows L2 GxR
/-! ### side_of_event, history -/
def hSides (F : List Str) : Option Nat → List Str → List Ev → List Bool
  | _, _, [] => []
  | lo, L, e :: r => gSide F (nxW F lo (e :: r)) L e :: hSides F (loN F lo e) (mvB L e (gSide F (nxW F lo (e :: r)) L e)) r
def sS (b : Bool) : Str := if b = true then "L" else "R"
theorem sB_s {b : Bool} : sB b = .str (sS b) := rfl
theorem sS_L {b : Bool} : (sS b = "L") ↔ b = true := by cases b <;> decide
theorem stepR_mv {L : List Str} {e : Ev} {b : Bool} : (stepR (L, []) (e, sS b)).1 = mvB L e b := by
  cases e with
  | inn c => cases b <;> rfl
  | out =>
    cases b with
    | true => rfl
    | false =>
      show L.dropLast = L.take (L.length - 1)
      exact (take_dropLast L).symm
/-- the lane behind the first i events -/
def rowAt (F : List Str) : Option Nat → List Str → List Ev → Nat → List Str
  | _, L, _, 0 => L
  | _, L, [], _ + 1 => L
  | lo, L, e :: r, i + 1 => rowAt F (loN F lo e) (mvB L e (gSide F (nxW F lo (e :: r)) L e)) r i
theorem hSides_len {F : List Str} : ∀ {es : List Ev} {lo : Option Nat} {L : List Str}, (hSides F lo L es).length = es.length
  | [], _, _ => rfl
  | _ :: _, _, _ => congrArg (· + 1) hSides_len
theorem hSides_at {F : List Str} : ∀ {es : List Ev} {lo : Option Nat} {L : List Str} {i : Nat} {e : Ev}, es[i]? = some e →
    (hSides F lo L es)[i]? = some (gSide F (nxW F (loAt F lo (es.take i)) (es.drop i)) (rowAt F lo L es i) e) ∧ rowAt F lo L es (i + 1) = mvB (rowAt F lo L es i) e (gSide F (nxW F (loAt F lo (es.take i)) (es.drop i)) (rowAt F lo L es i) e)
  | [], _, _, _, _, h => by cases h
  | e' :: r, lo, L, 0, e, h => by
    cases h
    refine ⟨rfl, ?_⟩
    cases r <;> rfl
  | e' :: r, lo, L, i + 1, e, h => hSides_at (es := r) (i := i) h
theorem wantB_at {F : List Str} : ∀ {es : List Ev} {lo : Option Nat} {i : Nat}, i < es.length → (wantB F lo es)[i]? = some (nxW F (loAt F lo (es.take i)) (es.drop i))
  | [], _, _, h => by cases h
  | e' :: r, lo, 0, h => rfl
  | e' :: r, lo, i + 1, h => wantB_at (es := r) (i := i) (Nat.lt_of_succ_lt_succ h)
theorem oppS {b : Bool} : (if sS b = "L" then ("R" : Str) else "L") = sS (!b) := by cases b <;> rfl
theorem scSideEv : FnScope ["present", "event", "lane", "wanted", "outermost"] ["present", "event", "lane", "wanted"] (defScope sSideEv) := ⟨rfl, rfl, rfl, by decide +kernel, rfl, by decide +kernel, by decide +kernel⟩
theorem scHist : FnScope ["start", "log", "lane", "present", "sides", "event", "wanted", "side"] ["start", "log", "lane"] (defScope sHist) := ⟨rfl, rfl, rfl, by decide +kernel, rfl, by decide +kernel, by decide +kernel⟩
section
variable {P : Program} {w : World} {K : PySem.W.Frag} {mg : Str → Option Value} {base : Heap} {Ps : List Addr}
def spSideEv (K : PySem.W.Frag) : Sp := fun vs H Q _ => ∃ (u b f : Addr) (b0 : Bool) (L F : List Str) (e : Ev), vs = [.ref u, .ref b, .ref f, .str (sS b0)] ∧ H u = some (.lst (L.map V.str)) ∧ SqT K H b e.vals ∧ SqT K H f (F.map V.str) ∧ (e = .out → L ≠ []) ∧ Q (.str (sS (gSide F b0 L e))) H
theorem ok_sideEv {f fO : Addr} {fd fdO : FuncData} (F : Fun K "side_of_event" "side_of_event" sSideEv f fd)
    (GO : FnOk P w K mg base CX0 1 fO fdO ["side"] spOpp) (mgO : mg "opposite" = some (.ref fO)) (kO : PySem.W.keepIn K (.ref fO) = true) (bO : Binds K fdO ["side"] []) : FnOk P w K mg base CX0 2 f fd ["present", "event", "lane", "wanted"] (spSideEv K) := by
  refine F.ok scSideEv (fun vs H Q E h => ?_) (fun cdv A outer s H vs Q E hr h => ?_)
  · obtain ⟨u, b, f, b0, L, F, e, rfl, _⟩ := h
    rfl
  · obtain ⟨u, b, f, b0, L, F, e, rfl, hL, hb, hF, hne, q⟩ := h
    refine ⟨_, (pss_cons (ps_if (pt_cmpR op_eq (pe_ix ix_tup (pv 1) pe_int (fun _ _ => rfl)) pe_str (nomark _))
        (pss_one (ps_ret (pe_ifExp (pt_cmpR op_in_seq (pe_ix ix_tup (pv 1) pe_int (fun _ _ => rfl)) (pv 2) (by rfl)) (pv 3) (pe_call GO hr (by rfl) mgO kO bO .nil pass0 (pa_cons (pv 3) pa_nil)))))
        pss_nil)
      (pss_cons (ps_set (i := 4) scSideEv.nd rfl (.inl rfl) (pe_ifExp (pt_cmpR op_eq (pv 3) pe_str (nomark _)) (pe_ix ix_list (pv 0) pe_int (fun _ _ => rfl)) (pe_ix ix_list (pv 0) (pe_un un_neg pe_int) (fun _ _ => rfl))))
      (pss_one (ps_ret (pe_ifExp (pt_cmpR op_in_seq (pv 4) (pv 2) (by rfl)) (pe_call GO hr (by rfl) mgO kO bO .nil pass0 (pa_cons (pv 3) pa_nil)) (pv 3)))))), ?_⟩
    cases e with
    | inn c =>
      have hb : SqT K H b [.str "in", .str c] := hb
      refine ⟨.ref b, rfl, b, _, 0, _, rfl, rfl, hb, atI_nat (j := 0) rfl, rfl, true, congrArg V.bl (decide_eq_true rfl), iteT ⟨.ref b, rfl, b, _, 1, _, rfl, rfl, hb, atI_nat (j := 1) rfl, .ref f, rfl, f, _, rfl, .inr hF, rfl, flat_strs _, _, rfl, ?_⟩⟩
      show if inV (.str c) (F.map V.str) = true then _ else _
      rw [inV_strs]
      have hg : gSide F b0 L (.inn c) = (decide (c ∈ F) == b0) := rfl
      rw [hg] at q
      by_cases hc : c ∈ F
      · rw [decide_eq_true hc] at q ⊢
        refine iteT ⟨_, rfl, ?_⟩
        rw [show (true == b0) = b0 by cases b0 <;> rfl] at q
        exact q
      · rw [decide_eq_false hc] at q ⊢
        refine iteF ⟨_, rfl, _, rfl, ?_⟩
        rw [oppS]
        rw [show (false == b0) = !b0 by cases b0 <;> rfl] at q
        exact q
    | out =>
      have hb : SqT K H b [.str "out"] := hb
      have hL0 := hne rfl
      refine ⟨.ref b, rfl, b, _, 0, _, rfl, rfl, hb, atI_nat (j := 0) rfl, rfl, false, congrArg V.bl (decide_eq_false fun z => by injection z with z; exact absurd z (by decide)), iteF ?_⟩
      cases b0 with
      | true =>
        refine ⟨_, rfl, rfl, true, congrArg V.bl (decide_eq_true rfl), iteT ?_⟩
        cases L with
        | nil => exact absurd rfl hL0
        | cons y L' =>
          refine ⟨.ref u, rfl, u, _, 0, .str y, rfl, rfl, SqL.of hL, atI_nat (j := 0) rfl, _, rfl, .ref f, rfl, f, _, rfl, .inr hF, rfl, flat_strs _, _, rfl, ?_⟩
          show if inV (.str y) (F.map V.str) = true then _ else _
          rw [inV_strs]
          have hg : gSide F true (y :: L') .out = !decide (y ∈ F) := by
            show (if true = true then !decide (∃ z ∈ (y :: L').head?, z ∈ F) else decide (∃ z ∈ (y :: L').getLast?, z ∈ F)) = _
            rw [if_pos rfl]
            congr 1
            exact decide_eq_decide.mpr ⟨fun ⟨z, h1, h2⟩ => by cases h1; exact h2, fun h => ⟨y, rfl, h⟩⟩
          rw [hg] at q
          by_cases hc : y ∈ F
          · rw [decide_eq_true hc] at q ⊢
            exact iteT ⟨_, rfl, _, rfl, q⟩
          · rw [decide_eq_false hc] at q ⊢
            exact iteF ⟨_, rfl, q⟩
      | false =>
        refine ⟨_, rfl, rfl, false, congrArg V.bl (decide_eq_false fun z => by injection z with z; exact absurd z (by decide)), iteF ?_⟩
        rcases List.eq_nil_or_concat L with h | ⟨L', y, h⟩
        · exact absurd h hL0
        · rw [List.concat_eq_append] at h
          subst h
          refine ⟨.ref u, rfl, 1, rfl, u, _, -1, .str y, rfl, rfl, SqL.of hL, ?_, _, rfl, .ref f, rfl, f, _, rfl, .inr hF, rfl, flat_strs _, _, rfl, ?_⟩
          · rw [List.map_append]; exact atI_last _ _
          show if inV (.str y) (F.map V.str) = true then _ else _
          rw [inV_strs]
          have hg : gSide F false (L' ++ [y]) .out = decide (y ∈ F) := by
            show (if false = true then !decide (∃ z ∈ (L' ++ [y]).head?, z ∈ F) else decide (∃ z ∈ (L' ++ [y]).getLast?, z ∈ F)) = _
            rw [if_neg Bool.false_ne_true]
            refine decide_eq_decide.mpr ⟨fun ⟨z, h1, h2⟩ => ?_, fun h => ⟨y, by rw [List.getLast?_append]; rfl, h⟩⟩
            rw [List.getLast?_append] at h1
            cases h1
            exact h2
          rw [hg] at q
          by_cases hc : y ∈ F
          · rw [decide_eq_true hc] at q ⊢
            exact iteT ⟨_, rfl, _, rfl, q⟩
          · rw [decide_eq_false hc] at q ⊢
            exact iteF ⟨_, rfl, q⟩
def spHist (K : PySem.W.Frag) (Ps : List Addr) : Sp := fun vs H Q _ => ∃ (a l f : Addr) (xs : List Str) (as : List Addr) (es : List Ev) (F : List Str), vs = [.ref a, .ref l, .ref f] ∧ LaneAt K H a xs ∧ laneB xs = true ∧ LogAt K H l as es ∧ logB xs xs.length es = true ∧ LaneAt K H f F ∧ laneB F = true ∧ TupD H f (F.map V.str) ∧ Tabs Ps H ∧
  (why xs es F ≠ .ok → ∀ H', Kp Ps H H' → Q .non H') ∧ (why xs es F = .ok → ∀ H' p, Kp Ps H H' → H p = none → H' p = some (.lst ((hSides F (lo0 (brg F xs)) xs es).map sB)) → Q (.ref p) H')
def evN : Ev → Nat → Nat
  | .inn _, n => n + 1
  | .out, n => n - 1
theorem rowAt_len {F : List Str} {xs : List Str} {es : List Ev} {lo : Option Nat} {i : Nat} {e : Ev} (h : es[i]? = some e) : (rowAt F lo xs es (i + 1)).length = evN e (rowAt F lo xs es i).length := by
  rw [(hSides_at h).2, mvB_len2]
  cases e <;> rfl
theorem ok_hist {f fP fW fS fM : Addr} {fd fdP fdW fdS fdM : FuncData} (F : Fun K "history" "history" sHist f fd) (B : Bi mg)
    (GP : FnOk P w K mg base CX0 12 fP fdP ["start", "log", "lane"] (spPoss K Ps)) (mgP : mg "is_possible" = some (.ref fP)) (kP : PySem.W.keepIn K (.ref fP) = true) (bP : Binds K fdP ["start", "log", "lane"] [])
    (GW : FnOk P w K mg base CX0 3 fW fdW ["start", "log", "lane"] (spWant K Ps)) (mgW : mg "wanted_sides" = some (.ref fW)) (kW : PySem.W.keepIn K (.ref fW) = true) (bW : Binds K fdW ["start", "log", "lane"] [])
    (GS : FnOk P w K mg base CX0 2 fS fdS ["present", "event", "lane", "wanted"] (spSideEv K)) (mgS : mg "side_of_event" = some (.ref fS)) (kS : PySem.W.keepIn K (.ref fS) = true) (bS : Binds K fdS ["present", "event", "lane", "wanted"] [])
    (GM : FnOk P w K mg base CX0 1 fM fdM ["present", "event", "side"] (spMove K)) (mgM : mg "move" = some (.ref fM)) (kM : PySem.W.keepIn K (.ref fM) = true) (bM : Binds K fdM ["present", "event", "side"] []) : FnOk P w K mg base CX0 13 f fd ["start", "log", "lane"] (spHist K Ps) := by
  refine F.ok scHist (fun vs H Q E h => ?_) (fun cdv A outer s H vs Q E hr h => ?_)
  · obtain ⟨a, l, f, xs, as, es, F, rfl, _⟩ := h
    rfl
  · obtain ⟨a, l, f, xs, as, es, F, rfl, hL, hB, hE, hB2, hLF, hBF, hF, hT, q1, q2⟩ := h
    have hr1 := hr.mono (show 1 ≤ 12 by decide)
    have hr2 := hr.mono (show 2 ≤ 12 by decide)
    have hr3 := hr.mono (show 3 ≤ 12 by decide)
    refine ⟨_, (pss_cons (ps_if (pt_not (pt_val (pe_call GP hr (by rfl) mgP kP bP .nil pass0 (pa_cons (pv 0) (pa_cons (pv 1) (pa_cons (pv 2) pa_nil))))))
        (pss_one (ps_ret pe_non))
        pss_nil)
      (pss_cons (ps_set (i := 3) scHist.nd rfl (.inl rfl) (pe_callTy call_list_of (by rfl) B.lst (by decide +kernel) (pa_cons (pv 0) pa_nil)))
      (pss_cons (ps_set (i := 4) scHist.nd rfl (.inl rfl) (pe_lst pa_nil))
      (pss_cons (ps_for PassesOwn.never rfl (pi_zip (by rfl) B.zip (pa_cons (pv 1) (pa_cons (pe_call GW hr3 (by rfl) mgW kW bW .nil pass0 (pa_cons (pv 0) (pa_cons (pv 1) (pa_cons (pv 2) pa_nil)))) pa_nil))) (pg_tup (by rfl) (pgs_cons (pg_name (i := 5) scHist.nd rfl (.inl rfl)) (pgs_cons (pg_name (i := 6) scHist.nd rfl (.inl rfl)) pgs_nil)))
        (pss_cons (ps_set (i := 7) scHist.nd rfl (.inl rfl) (pe_call GS hr2 (by rfl) mgS kS bS .nil pass0 (pa_cons (pv 3) (pa_cons (pv 5) (pa_cons (pv 2) (pa_cons (pv 6) pa_nil))))))
        (pss_cons (ps_expr (pe_call GM hr1 (by rfl) mgM kM bM .nil pass0 (pa_cons (pv 3) (pa_cons (pv 5) (pa_cons (pv 7) pa_nil)))))
        (pss_one (ps_expr (pe_bm PySem.F.plainAttrs_list PySem.F.slot_list_append PySem.F.type_list_append mt_append (pv 4) (pa_cons (pv 7) pa_nil)))))))
      (pss_one (ps_ret (pv 4))))))), ?_⟩
    refine ⟨.ref a, rfl, .ref l, rfl, .ref f, rfl, a, l, f, xs, as, es, F, rfl, hL, hB, hE, hB2, hLF, hBF, hF, hT, fun H1 k1 => ⟨_, rfl, ?_⟩⟩
    by_cases hw : why xs es F = .ok
    · have hpb : possB (why xs es F) = true := by rw [hw]; rfl
      rw [hpb]
      have few1 := hL.few
      have few2 := hE.few
      have hlen := Paired.length hE.evs
      refine iteF ⟨.ref a, rfl, a, _, rfl, .inr (hL.kp k1 hT).at_, fun u hu => ?_⟩
      have hu0 : H u = none := k1.free hT hu
      have k3 : Kp Ps H (upd H1 u (.lst (xs.map V.str))) := k1.upd hT hu0
      refine ⟨Nat.zero_le _, fun d hd => ?_⟩
      have hd0 : H d = none := k3.free hT hd
      have hdu : d ≠ u := fun z => by
        rw [z, upd_same] at hd
        cases hd
      have k4 : Kp Ps H (upd (upd H1 u (.lst (xs.map V.str))) d (.lst [])) := k3.upd hT hd0
      have u4 : (upd (upd H1 u (.lst (xs.map V.str))) d (.lst [])) u = some (.lst (xs.map V.str)) := by rw [upd_ne hdu.symm, upd_same]
      have d4 : (upd (upd H1 u (.lst (xs.map V.str))) d (.lst [])) d = some (.lst []) := upd_same
      generalize upd (upd H1 u (.lst (xs.map V.str))) d (.lst []) = H4 at k4 u4 d4 ⊢
      refine ⟨.ref l, rfl, .ref a, rfl, .ref l, rfl, .ref f, rfl, a, l, f, xs, as, es, F, rfl, (hL.kp k4 hT).at_, hE.kp k4 hT, hF.kp k4 hT, hLF.few, k4.tab, fun H5 p5 k5 hp5 hp5' => ?_⟩
      have k6 := k4.trans k5
      have u5 := k5.lst k4.tab u4
      have d5 := k5.lst k4.tab d4
      have np5u : p5 ≠ u := fun z => by rw [z, u4] at hp5; cases hp5
      have np5d : p5 ≠ d := fun z => by rw [z, d4] at hp5; cases hp5
      refine ⟨l, p5, as.map V.ref, (wantB F (lo0 (brg F xs)) es).map sB, rfl, (hE.kp k6 hT).at_, SqL.of hp5', RZ.for_zipL (K := K) (a := l) (b := p5) (xs := as.map V.ref) (ys := (wantB F (lo0 (brg F xs)) es).map sB) (by rw [List.length_map, List.length_map, wantB_len]; omega)
        (fun i σ H' => ∃ (v5 v6 v7 : Option V), σ = [some (.ref a), some (.ref l), some (.ref f), some (.ref u), some (.ref d), v5, v6, v7] ∧ Kp Ps H H' ∧ i ≤ es.length ∧ H' u = some (.lst ((rowAt F (lo0 (brg F xs)) xs es i).map V.str)) ∧ H' d = some (.lst (((hSides F (lo0 (brg F xs)) xs es).take i).map sB)) ∧ H' p5 = some (.lst ((wantB F (lo0 (brg F xs)) es).map sB)) ∧
          (rowAt F (lo0 (brg F xs)) xs es i).length ≤ xs.length + i ∧ Live xs es i (rowAt F (lo0 (brg F xs)) xs es i).length) ?_ ?_ ?_ ?_⟩
      · refine ⟨none, none, none, rfl, k6, Nat.zero_le _, ?_, d5, hp5', ?_, xs, ?_⟩
        · rw [u5]; cases es <;> rfl
        · cases es <;> exact Nat.le_refl _
        · have e0 : rowAt F (lo0 (brg F xs)) xs es 0 = xs := by cases es <;> rfl
          rw [e0]
          exact hB2
      · rintro i σ H' ⟨_, _, _, _, kp, _, _, _, h5, _⟩
        exact ⟨(hE.kp kp hT).at_, SqL.of h5⟩
      · rintro i y z T σ H' hi hsi ⟨v5, v6, v7, rfl, kp, hie, hu', hd', hp', hnb, hlive⟩ hTn
        have hlt : i < es.length := by
          have h1 := (List.getElem?_eq_some_iff.mp hi).1
          rw [List.length_map] at h1
          omega
        obtain ⟨ev, hev⟩ : ∃ ev, es[i]? = some ev := ⟨es[i], List.getElem?_eq_getElem hlt⟩
        have hT0 : H T = none := kp.free hT hTn
        have kp1 : Kp Ps H (L2.upd H' T (.tup [y, z])) := kp.upd hT hT0
        have nTu : u ≠ T := ne_of_none hu' hTn
        have nTd : d ≠ T := ne_of_none hd' hTn
        have nTp : p5 ≠ T := ne_of_none hp' hTn
        obtain ⟨b, hb, hbt⟩ := pair_at (hE.kp kp1 hT).evs i _ hev
        have hy : y = .ref b := by
          rw [List.getElem?_map, hb] at hi
          exact (Option.some.inj hi).symm
        subst hy
        have hz : z = sB (nxW F (loAt F (lo0 (brg F xs)) (es.take i)) (es.drop i)) := by
          rw [List.getElem?_map, wantB_at hlt] at hsi
          exact (Option.some.inj hsi).symm
        subst hz
        have hsa := hSides_at (F := F) (lo := lo0 (brg F xs)) (L := xs) hev
        have hrl := rowAt_len (F := F) (lo := lo0 (brg F xs)) (xs := xs) hev
        have htk : (hSides F (lo0 (brg F xs)) xs es).take (i + 1) = (hSides F (lo0 (brg F xs)) xs es).take i ++ [gSide F (nxW F (loAt F (lo0 (brg F xs)) (es.take i)) (es.drop i)) (rowAt F (lo0 (brg F xs)) xs es i) ev] := by
          rw [List.take_add_one, hsa.1]
          rfl
        have hstep := hsa.2
        generalize nxW F (loAt F (lo0 (brg F xs)) (es.take i)) (es.drop i) = b0 at *
        have u1 : (L2.upd H' T (.tup [.ref b, sB b0])) u = some (.lst ((rowAt F (lo0 (brg F xs)) xs es i).map V.str)) := by rw [upd_ne nTu]; exact hu'
        have d1 : (L2.upd H' T (.tup [.ref b, sB b0])) d = some (.lst (((hSides F (lo0 (brg F xs)) xs es).take i).map sB)) := by rw [upd_ne nTd]; exact hd'
        have p1 : (L2.upd H' T (.tup [.ref b, sB b0])) p5 = some (.lst ((wantB F (lo0 (brg F xs)) es).map sB)) := by rw [upd_ne nTp]; exact hp'
        have hf1 : SqT K (L2.upd H' T (.tup [.ref b, sB b0])) f (F.map V.str) := (hLF.kp kp1 hT).at_
        refine ⟨T, _, rfl, .inl (.inl upd_same), rfl, _, _, rfl, _, _, rfl, rfl, ?_⟩
        generalize L2.upd H' T (.tup [.ref b, sB b0]) = Ha at kp1 hbt u1 d1 p1 hf1 ⊢
        generalize rowAt F (lo0 (brg F xs)) xs es i = lane at *
        generalize hnx : rowAt F (lo0 (brg F xs)) xs es (i + 1) = lane2 at *
        have hls := live_step hlive hev
        have hne : ev = .out → lane ≠ [] := fun ho z => by
          subst ho
          rw [z] at hls
          exact absurd hls.1 (by decide)
        have hlive2 : Live xs es (i + 1) lane2.length := by
          rw [hrl]
          cases ev with
          | inn c => exact hls
          | out => exact hls.2
        have hnb2 : lane2.length ≤ xs.length + (i + 1) := by
          rw [hrl]
          cases ev with
          | inn c => show lane.length + 1 ≤ _; omega
          | out => show lane.length - 1 ≤ _; omega
        refine ⟨_, rfl, .ref b, rfl, .ref f, rfl, _, rfl, u, b, f, b0, lane, F, ev, rfl, u1, hbt, hf1, hne, ?_⟩
        generalize gSide F b0 lane ev = g1 at hsa htk hstep ⊢
        have hmv : (stepR (lane, []) (ev, sS g1)).1 = lane2 := by rw [stepR_mv, hstep]
        have sz : ((((hSides F (lo0 (brg F xs)) xs es).take i).map sB) : List V).length < sizeLine := by
          rw [List.length_map, List.length_take]
          exact small1000 (by omega)
        have fin : ∃ v5 v6 v7 : Option V, [some (V.ref a), some (.ref l), some (.ref f), some (.ref u), some (.ref d), some (.ref b), some (sB b0), some (.str (sS g1))] = [some (.ref a), some (.ref l), some (.ref f), some (.ref u), some (.ref d), v5, v6, v7] ∧
            Kp Ps H (upd (upd Ha u (.lst (lane2.map V.str))) d (.lst ((((hSides F (lo0 (brg F xs)) xs es).take i).map sB) ++ [.str (sS g1)]))) ∧ i + 1 ≤ es.length ∧
            (upd (upd Ha u (.lst (lane2.map V.str))) d (.lst ((((hSides F (lo0 (brg F xs)) xs es).take i).map sB) ++ [.str (sS g1)]))) u = some (.lst (lane2.map V.str)) ∧
            (upd (upd Ha u (.lst (lane2.map V.str))) d (.lst ((((hSides F (lo0 (brg F xs)) xs es).take i).map sB) ++ [.str (sS g1)]))) d = some (.lst (((hSides F (lo0 (brg F xs)) xs es).take (i + 1)).map sB)) ∧
            (upd (upd Ha u (.lst (lane2.map V.str))) d (.lst ((((hSides F (lo0 (brg F xs)) xs es).take i).map sB) ++ [.str (sS g1)]))) p5 = some (.lst ((wantB F (lo0 (brg F xs)) es).map sB)) ∧ lane2.length ≤ xs.length + (i + 1) ∧ Live xs es (i + 1) lane2.length :=
          ⟨_, _, _, rfl, (kp1.upd hT hu0).upd hT hd0, hlt, by rw [upd_ne hdu.symm, upd_same], by rw [upd_same, htk, List.map_append]; rfl, by rw [upd_ne np5d, upd_ne np5u]; exact p1, hnb2, hlive2⟩
        have hgc : sS g1 = "L" ∨ sS g1 = "R" := by
          cases g1 with
          | true => exact .inl rfl
          | false => exact .inr rfl
        have app : (upd Ha u (.lst (lane2.map V.str))) d = some (.lst (((hSides F (lo0 (brg F xs)) xs es).take i).map sB)) := by rw [upd_ne hdu]; exact d1
        refine ⟨.ref u, rfl, .ref b, rfl, _, rfl, u, b, sS g1, lane, ev, rfl, u1, hbt, hgc, by omega, fun c hc => ?_, fun ho => ⟨hne ho, fun x hx => ?_⟩⟩
        · rw [hmv]
          exact ⟨.ref d, rfl, .inl ⟨rfl, _, SqL.of app⟩, _, rfl, d, _, _, rfl, rfl, app, sz, fin⟩
        · rw [hmv]
          exact ⟨.ref d, rfl, .inl ⟨rfl, _, SqL.of app⟩, _, rfl, d, _, _, rfl, rfl, app, sz, fin⟩
      · rintro σ H' ⟨v5, v6, v7, rfl, kp, hie, hu', hd', hp', hnb, hlive⟩
        rw [List.length_map, hlen, ← hSides_len (F := F) (es := es) (lo := lo0 (brg F xs)) (L := xs), List.take_length] at hd'
        exact ⟨_, rfl, q2 hw _ _ kp hd0 hd'⟩
    · have hpb : possB (why xs es F) = false := by
        cases h : why xs es F with
        | ok => exact absurd h hw
        | _ => rfl
      rw [hpb]
      exact iteT (q1 hw H1 k1)
end
end Ln


set_option Elab.async false
set_option linter.all false
set_option maxRecDepth 100000
set_option maxHeartbeats 8000000
namespace Ln
open PySem PySem.Spec PyProof.Rows L2 GxR
/-- two cars exchanged -/
def swp (L : List Str) (i j : Nat) : List Str := (L.set i (L.getD j "")).set j (L.getD i "")
theorem swp_get {L : List Str} {i j k : Nat} (hi : i < L.length) (hj : j < L.length) (hk : k < (swp L i j).length) : ∃ p, ∃ hp : p < L.length, (swp L i j)[k] = L[p] ∧ p = if j = k then i else if i = k then j else k := by
  have hk' : k < L.length := by
    unfold swp at hk
    rw [List.length_set, List.length_set] at hk
    exact hk
  have key : (swp L i j)[k]? = L[if j = k then i else if i = k then j else k]? := by
    unfold swp
    rw [List.getElem?_set]
    by_cases h1 : j = k
    · rw [if_pos h1, if_pos h1, List.length_set, if_pos hj, List.getD_eq_getElem?_getD, List.getElem?_eq_getElem hi]
      rfl
    · rw [if_neg h1, if_neg h1, List.getElem?_set]
      by_cases h2 : i = k
      · rw [if_pos h2, if_pos h2, if_pos hi, List.getD_eq_getElem?_getD, List.getElem?_eq_getElem hj]
        rfl
      · rw [if_neg h2, if_neg h2]
  have hp : (if j = k then i else if i = k then j else k) < L.length := by
    split
    · exact hi
    · split
      · exact hj
      · exact hk'
  refine ⟨_, hp, ?_, rfl⟩
  rw [List.getElem?_eq_getElem hk, List.getElem?_eq_getElem hp] at key
  exact Option.some.inj key
theorem swp_nodup {L : List Str} {i j : Nat} (h : L.Nodup) (hi : i < L.length) (hj : j < L.length) : (swp L i j).Nodup := by
  rw [List.nodup_iff_pairwise_ne, List.pairwise_iff_getElem]
  intro a b ha hb hab e
  obtain ⟨p, hp, e1, q1⟩ := swp_get hi hj ha
  obtain ⟨q, hq, e2, q2⟩ := swp_get hi hj hb
  rw [e1, e2] at e
  have := (List.nodup_iff_pairwise_ne.mp h)
  have inj : p = q := by
    rcases Nat.lt_trichotomy p q with w | w | w
    · exact absurd e (List.pairwise_iff_getElem.mp this p q hp hq w)
    · exact w
    · exact absurd e.symm (List.pairwise_iff_getElem.mp this q p hq hp w)
  split at q1 <;> split at q2 <;> (try split at q1) <;> (try split at q2) <;> omega
theorem swp_mem {L : List Str} {i j : Nat} (hi : i < L.length) (hj : j < L.length) : ∀ x ∈ swp L i j, x ∈ L := fun x hx => by
  obtain ⟨k, hk, rfl⟩ := List.getElem_of_mem hx
  obtain ⟨p, hp, e, _⟩ := swp_get hi hj hk
  rw [e]
  exact List.getElem_mem hp
theorem set_nodup {L : List Str} {i : Nat} {x : Str} (h : L.Nodup) (hi : i < L.length) (hx : x ∉ L ∨ x = L[i]) : (L.set i x).Nodup := by
  rcases hx with hx | rfl
  · rw [List.nodup_iff_pairwise_ne, List.pairwise_iff_getElem] at h ⊢
    intro a b ha hb hab e
    rw [List.length_set] at ha hb
    rw [List.getElem_set, List.getElem_set] at e
    split at e
    · split at e
      · omega
      · exact hx (by rw [e]; exact List.getElem_mem hb)
    · split at e
      · exact hx (by rw [← e]; exact List.getElem_mem ha)
      · exact h a b ha hb hab e
  · rw [List.set_getElem_self]
    exact h
theorem set_mem {L : List Str} {i : Nat} {x : Str} : ∀ y ∈ L.set i x, y ∈ L ∨ y = x := fun y hy => List.mem_or_eq_of_mem_set hy
theorem ixN_nat {n j : Nat} (h : j < n) : ixN n ((j : Nat) : Int) = some j := by
  unfold ixN
  rw [if_pos (by omega), if_pos (by omega)]
  rfl
theorem cut_d1 (xs : List V) : cutV xs (some 1) none = xs.drop 1 := by
  cases xs with
  | nil => rfl
  | cons x r => exact cut_one (by rw [List.length_cons]; omega)
theorem cut_t1 (xs : List V) : cutV xs none (some 1) = xs.take 1 := cut_pre (c := 1)
theorem cut_l1 (xs : List V) : cutV xs none (some (-1)) = xs.take (xs.length - 1) := by
  cases xs with
  | nil => rfl
  | cons x r => exact cut_lastV (by rw [List.length_cons]; omega)
section
variable {P : Program} {w : World} {K : PySem.W.Frag} {mg : Str → Option Value} {base : Heap} {Ps : List Addr}
def spBent (K : PySem.W.Frag) : Sp := fun vs H Q _ => ∃ (s0 f k : Addr) (l : List V) (n : Nat) (F kn : List Str), vs = [.ref s0, .ref f, .ref k] ∧ H s0 = some (.lst l) ∧ SrcV n l ∧ n + 300 ≤ 1000000 ∧ TupD H f (F.map V.str) ∧ H k = some (.lst (kn.map V.str)) ∧ s0 ≠ k ∧ F.Nodup ∧ F.length ≤ 300 ∧ kn.length ≤ 400 ∧
  (∀ x ∈ F, carB x = true) ∧ (∀ x ∈ kn, carB x = true) ∧ (F ≠ [] → kn ≠ []) ∧
  ∀ (H' : Hp) (p : Addr) (L : List Str) (l' : List V), Ch s0 H H' → H' s0 = some (.lst l') → SrcV (n + 5) l' → TupD H' p (L.map V.str) → L.Nodup → L.length ≤ 300 → (∀ x ∈ L, carB x = true) → Q (.ref p) H'
end
end Ln


set_option Elab.async false
set_option linter.all false
set_option maxRecDepth 100000
set_option maxHeartbeats 8000000
namespace Ln
open PySem PySem.Spec PyProof.Rows L2 GxR
/-! ### the second family's helpers: counts, plays, everyone -/
theorem scEvery : FnScope ["begin", "events", "event"] ["begin", "events"] (defScope sEvery) := ⟨rfl, rfl, rfl, by decide +kernel, rfl, by decide +kernel, by decide +kernel⟩
theorem scCounts2 : FnScope ["size", "events", "found", "event"] ["size", "events"] (defScope sCounts) := ⟨rfl, rfl, rfl, by decide +kernel, rfl, by decide +kernel, by decide +kernel⟩
theorem scPlay : FnScope ["begin", "events", "ends", "row", "gone", "event", "end"] ["begin", "events", "ends"] (defScope sPlay) := ⟨rfl, rfl, rfl, by decide +kernel, rfl, by decide +kernel, by decide +kernel⟩
/-- the lane and the departed cars of a history -/
def runB : List Str → List Ev → List Bool → List Str
  | L, e :: r, b :: bs => runB (mvB L e b) r bs
  | L, _, _ => L
def gnB (L : List Str) (e : Ev) (b : Bool) : List Str := match e with
  | .inn _ => []
  | .out => if b = true then L.take 1 else L.drop (L.length - 1)
def gonB : List Str → List Ev → List Bool → List Str
  | L, e :: r, b :: bs => gnB L e b ++ gonB (mvB L e b) r bs
  | _, _, _ => []
theorem runB_take : ∀ {L : List Str} {es : List Ev} {bs : List Bool} {i : Nat} {e : Ev} {b : Bool}, es[i]? = some e → bs[i]? = some b →
    runB L (es.take (i + 1)) (bs.take (i + 1)) = mvB (runB L (es.take i) (bs.take i)) e b ∧ gonB L (es.take (i + 1)) (bs.take (i + 1)) = gonB L (es.take i) (bs.take i) ++ gnB (runB L (es.take i) (bs.take i)) e b
  | L, [], _, _, _, _, h, _ => by cases h
  | L, _ :: _, [], _, _, _, _, h => by cases h
  | L, e' :: r, b' :: bs, 0, e, b, h1, h2 => by
    cases h1
    cases h2
    refine ⟨?_, ?_⟩
    · cases r <;> cases bs <;> rfl
    · show gnB L e' b' ++ gonB (mvB L e' b') (r.take 0) (bs.take 0) = _
      rw [List.take_zero, List.take_zero]
      show gnB L e' b' ++ [] = [] ++ gnB L e' b'
      rw [List.append_nil, List.nil_append]
  | L, e' :: r, b' :: bs, i + 1, e, b, h1, h2 => by
    obtain ⟨g1, g2⟩ := runB_take (L := mvB L e' b') (es := r) (bs := bs) (i := i) h1 h2
    refine ⟨g1, ?_⟩
    show gnB L e' b' ++ gonB (mvB L e' b') (r.take (i + 1)) (bs.take (i + 1)) = (gnB L e' b' ++ gonB (mvB L e' b') (r.take i) (bs.take i)) ++ _
    rw [g2, List.append_assoc]
    rfl
theorem extL_take {F : List Str} : ∀ {es : List Ev} {x : Int} {i : Nat} {e : Ev}, es[i]? = some e → ∃ y, (extL F x es).take (i + 1) = (extL F x (es.take i)) ∧ (extL F x (es.take i)).getLast? = some y ∧ extL F x (es.take (i + 1)) = extL F x (es.take i) ++ [(extL F y [e]).getD 1 0]
  | [], _, _, _, h => by cases h
  | e' :: r, x, 0, e, h => by
    cases h
    refine ⟨x, ?_, rfl, ?_⟩
    · cases e' <;> cases r <;> rfl
    · cases e' with
      | out => rfl
      | inn c =>
        show x :: extL F (if c ∈ F then x else x + 1) [] = [x] ++ [(x :: extL F (if c ∈ F then x else x + 1) []).getD 1 0]
        rfl
  | e' :: r, x, i + 1, e, h => by
    cases e' with
    | out =>
      obtain ⟨y, g1, g2, g3⟩ := extL_take (F := F) (es := r) (x := x - 1) (i := i) h
      refine ⟨y, congrArg (x :: ·) g1, ?_, congrArg (x :: ·) g3⟩
      show (x :: extL F (x - 1) (r.take i)).getLast? = _
      rw [List.getLast?_cons, g2]
      rfl
    | inn c =>
      obtain ⟨y, g1, g2, g3⟩ := extL_take (F := F) (es := r) (x := if c ∈ F then x else x + 1) (i := i) h
      refine ⟨y, congrArg (x :: ·) g1, ?_, congrArg (x :: ·) g3⟩
      show (x :: extL F (if c ∈ F then x else x + 1) (r.take i)).getLast? = _
      rw [List.getLast?_cons, g2]
      rfl
section
variable {P : Program} {w : World} {K : PySem.W.Frag} {mg : Str → Option Value} {base : Heap} {Ps : List Addr}
def spFolk2 (K : PySem.W.Frag) : Sp := fun vs H Q _ => ∃ (a l : Addr) (xs : List Str) (as : List Addr) (es : List Ev), vs = [.ref a, .ref l] ∧ SqT K H a (xs.map V.str) ∧ SqL K H l (as.map V.ref) ∧ EvsAt K H as es ∧ xs.length ≤ 400 ∧ es.length ≤ 400 ∧
  ∀ (H' : Hp) (p : Addr), L2.Same H H' → H p = none → H' p = some (.lst ((xs ++ arrs es).map V.str)) → Q (.ref p) H'
theorem ok_every {f : Addr} {fd : FuncData} (F : Fun K "_law_everyone" "_law_everyone" sEvery f fd) (B : Bi mg) : FnOk P w K mg base CX0 1 f fd ["begin", "events"] (spFolk2 K) := by
  refine F.ok scEvery (fun vs H Q E h => ?_) (fun cdv A outer s H vs Q E hr h => ?_)
  · obtain ⟨a, l, xs, as, es, rfl, _⟩ := h
    rfl
  · obtain ⟨a, l, xs, as, es, rfl, hA, hL, hE, few1, few2, q⟩ := h
    refine ⟨_, pss_one (ps_ret (pe_op op_cat (pe_callTy call_list_of (by rfl) B.lst (by decide +kernel) (pa_cons (pv 0) pa_nil))
        (pe_lc (own := [("event", 2)]) (g := gName 2) (by rfl) scEvery.nd (pi_list (pv 1)) (blkOk_by (own := [("event", 2)]) (N := ["begin", "events", "event"]) (sc := defScope sEvery) (by decide +kernel))
          (fun _ _ _ _ _ => pg_name (i := 2) scEvery.nd rfl (Or.inl rfl)) (fun _ _ _ _ _ => pts_one (pt_cmpR op_eq (pe_ix (r := rIxT K) ix_tup (pv 2) pe_int (fun _ _ => rfl)) pe_str (nomark _))) (fun _ _ _ _ _ => pe_ix (r := rIxT K) ix_tup (pv 2) pe_int (fun _ _ => rfl))))), ?_⟩
    have hlen := Paired.length hE
    refine ⟨.ref a, rfl, a, _, rfl, .inr hA, fun o ho => ?_⟩
    have smo : L2.Same H (upd H o (.lst (xs.map V.str))) := fun b u e => by rw [upd_ne (ne_of_none e ho)]; exact e
    refine ⟨.ref l, rfl, l, rfl, ⟨_, smo.seq hL⟩, fun D hD => ?_⟩
    have hDo : D ≠ o := fun z => by
      rw [z, upd_same] at hD
      cases hD
    rw [upd_ne hDo] at hD
    have seqT : ∀ {H1 : Hp} {b : Addr} {zs : List V}, L2.Same H H1 → SqT K H b zs → SqT K H1 b zs := fun {H1 b zs} k h => by
      rcases h with (e | ⟨ob, e⟩) | e
      · exact .inl (.inl (k _ _ e))
      · exact .inl (.inr ⟨ob, k _ _ e⟩)
      · exact .inr e
    have new : ∀ {H1 : Hp} {p : Addr} {u : HO}, L2.Same H H1 → H p = none → L2.Same H (upd H1 p u) := fun {H1 p u} k hp b v e => by
      rw [upd_ne (ne_of_none e hp)]
      exact k b v e
    refine lc_list (K := K) (a := l) (xs := as.map V.ref) (fun i H' => L2.Same H H' ∧ i ≤ es.length ∧ H' o = some (.lst (xs.map V.str)) ∧ H' D = some (.lst ((arrs (es.take i)).map V.str))) ?_ ?_ ?_ ?_
    · exact ⟨new smo hD, Nat.zero_le _, by rw [upd_ne hDo.symm, upd_same], upd_same⟩
    · rintro i H' _ ⟨sm, _⟩
      exact sm.seq hL
    · rintro i y H' hi ⟨sm, hie, ho', hD'⟩
      have hlt : i < es.length := by
        have h1 := (List.getElem?_eq_some_iff.mp hi).1
        rw [List.length_map] at h1
        omega
      have hev : es[i]? = some es[i] := List.getElem?_eq_getElem hlt
      obtain ⟨b, hb, hbt0⟩ := pair_at hE i _ hev
      have hbt := seqT sm hbt0
      have hy : y = .ref b := by
        rw [List.getElem?_map, hb] at hi
        exact (Option.some.inj hi).symm
      subst hy
      have htake : es.take (i + 1) = es.take i ++ [es[i]] := by rw [List.take_add_one, hev]; rfl
      refine ⟨rfl, ?_⟩
      cases hE2 : es[i] with
      | inn c =>
        rw [hE2] at hbt htake
        refine ⟨.ref b, rfl, b, _, 0, .str "in", rfl, rfl, hbt, atI_nat (j := 0) rfl, rfl, _, rfl, ?_⟩
        rw [decide_eq_true (rfl : V.str "in" = V.str "in")]
        refine iteT ⟨.ref b, rfl, b, _, 1, .str c, rfl, rfl, hbt, atI_nat (j := 1) rfl, _, hD', ?_, new sm hD, hlt, ?_, ?_⟩
        · rw [List.length_map]
          refine small1000 ?_
          have := arrs_len (es.take i)
          rw [List.length_take] at this
          omega
        · rw [upd_ne hDo.symm]
          exact ho'
        · rw [upd_same, htake, arrs_app, List.map_append]
          rfl
      | out =>
        rw [hE2] at hbt htake
        refine ⟨.ref b, rfl, b, _, 0, .str "out", rfl, rfl, hbt, atI_nat (j := 0) rfl, rfl, _, rfl, ?_⟩
        rw [decide_eq_false (fun z => ne_oi (V.str.inj z))]
        refine iteF ⟨sm, hlt, ho', ?_⟩
        rw [hD', htake, arrs_app]
        show _ = some (HO.lst ((arrs (es.take i) ++ []).map V.str))
        rw [List.append_nil]
    · rintro H' ⟨sm, hie, ho', hD'⟩
      rw [List.length_map, hlen, List.take_length] at hD'
      refine ⟨o, D, _, _, rfl, rfl, ho', hD', ?_, fun p hp => ?_⟩
      · have h3 := arrs_len es
        rw [List.length_map, List.length_map]
        exact Nat.le_of_lt (small1000 (by omega))
      · exact q _ p (new sm (sm.free hp)) (sm.free hp) (by rw [upd_same, List.map_append])
def spCounts2 (K : PySem.W.Frag) : Sp := fun vs H Q _ => ∃ (n : Int) (l : Addr) (as : List Addr) (es : List Ev), vs = [.int n, .ref l] ∧ SqL K H l (as.map V.ref) ∧ EvsAt K H as es ∧ es.length ≤ 400 ∧
  ∀ (H' : Hp) (p : Addr), L2.Same H H' → H p = none → H' p = some (.lst ((extL [] n es).map V.int)) → Q (.ref p) H'
theorem ok_counts2 {f : Addr} {fd : FuncData} (F : Fun K "_law_counts" "_law_counts" sCounts f fd) : FnOk P w K mg base CX0 1 f fd ["size", "events"] (spCounts2 K) := by
  refine F.ok scCounts2 (fun vs H Q E h => ?_) (fun cdv A outer s H vs Q E hr h => ?_)
  · obtain ⟨n, l, as, es, rfl, _⟩ := h
    rfl
  · obtain ⟨n, l, as, es, rfl, hL, hE, few, q⟩ := h
    refine ⟨_, (pss_cons (ps_set (i := 2) scCounts2.nd rfl (.inl rfl) (pe_lst (pa_cons (pv 0) pa_nil)))
      (pss_cons (ps_for PassesOwn.never rfl (pi_list (pv 1)) (pg_name (i := 3) scCounts2.nd rfl (.inl rfl))
        (pss_one (ps_expr (pe_bm PySem.F.plainAttrs_list PySem.F.slot_list_append PySem.F.type_list_append mt_append (pv 2) (pa_cons (pe_op op_add (pe_ix ix_list (pv 2) (pe_un un_neg pe_int) (fun _ _ => rfl)) (pe_ifExp (pt_cmpR op_eq (pe_ix ix_tup (pv 3) pe_int (fun _ _ => rfl)) pe_str (nomark _)) pe_int (pe_un un_neg pe_int))) pa_nil)))))
      (pss_one (ps_ret (pv 2))))), ?_⟩
    have hlen := Paired.length hE
    refine ⟨_, rfl, by show 1 ≤ sizeLine; decide, fun o ho => ?_⟩
    have sm1 : L2.Same H (upd H o (.lst [.int n])) := sm_new sm_refl ho
    refine ⟨.ref l, rfl, l, rfl, ⟨_, sm1.seq hL⟩, for_list (K := K) (a := l) (xs := as.map V.ref) (fun i σ H' => ∃ v3 : Option V, σ = [some (.int n), some (.ref l), some (.ref o), v3] ∧ L2.Same H H' ∧ i ≤ es.length ∧ H' o = some (.lst ((extL [] n (es.take i)).map V.int))) ?_ ?_ ?_ ?_⟩
    · exact ⟨none, rfl, sm1, Nat.zero_le _, by rw [upd_same, List.take_zero]; rfl⟩
    · rintro i σ H' _ ⟨_, _, sm, _⟩
      exact sm.seq hL
    · rintro i y σ H' hi ⟨v3, rfl, sm, hie, ho'⟩
      have hlt : i < es.length := by
        have h1 := (List.getElem?_eq_some_iff.mp hi).1
        rw [List.length_map] at h1
        omega
      have hev : es[i]? = some es[i] := List.getElem?_eq_getElem hlt
      obtain ⟨b, hb, hbt0⟩ := pair_at hE i _ hev
      have hbt : SqT K H' b es[i].vals := sqT_sm hbt0 sm
      have hy : y = .ref b := by
        rw [List.getElem?_map, hb] at hi
        exact (Option.some.inj hi).symm
      subst hy
      obtain ⟨z, _, hz, hnx⟩ := extL_take (F := []) (x := n) hev
      obtain ⟨pre, hpre⟩ : ∃ pre, extL [] n (es.take i) = pre ++ [z] := by
        obtain ⟨pre, h⟩ := List.getLast?_eq_some_iff.mp hz
        exact ⟨pre, h⟩
      have hat : atI ((extL [] n (es.take i)).map V.int) (-1) = some (V.int z) := by
        rw [hpre, List.map_append]
        exact atI_last _ _
      have hsz : (((extL [] n (es.take i)).map V.int) : List V).length < sizeLine := by
        rw [List.length_map, extL_len, List.length_take]
        exact small1000 (by omega)
      have kk : ∀ {x : HO}, L2.Same H (upd H' o x) := fun {x} => fun b q e => by rw [upd_ne (ne_of_none e ho)]; exact sm b q e
      refine ⟨.ref o, rfl, .inl ⟨rfl, _, SqL.of ho'⟩, .ref o, rfl, 1, rfl, o, _, -1, _, rfl, rfl, SqL.of ho', hat, ?_⟩
      cases hE2 : es[i] with
      | inn c =>
        rw [hE2] at hbt hnx
        have hbt : SqT K H' b [.str "in", .str c] := hbt
        refine ⟨.ref b, rfl, b, _, 0, _, rfl, rfl, hbt, atI_nat (j := 0) rfl, rfl, true, congrArg V.bl (decide_eq_true rfl), iteT ⟨_, _, rfl, rfl, o, _, _, rfl, rfl, ho', hsz, _, rfl, kk, hlt, ?_⟩⟩
        rw [upd_same, hnx, List.map_append]
        rfl
      | out =>
        rw [hE2] at hbt hnx
        have hbt : SqT K H' b [.str "out"] := hbt
        refine ⟨.ref b, rfl, b, _, 0, _, rfl, rfl, hbt, atI_nat (j := 0) rfl, rfl, false, congrArg V.bl (decide_eq_false fun z => by injection z with z; exact absurd z (by decide)), iteF ⟨1, rfl, _, _, rfl, rfl, o, _, _, rfl, rfl, ho', hsz, _, rfl, kk, hlt, ?_⟩⟩
        rw [upd_same, hnx, List.map_append]
        rfl
    · rintro σ H' ⟨v3, rfl, sm, hie, ho'⟩
      rw [List.length_map, hlen, List.take_length] at ho'
      exact ⟨_, rfl, q _ _ sm ho ho'⟩
theorem sBf : ¬ sB false = V.str "L" := fun z => by
  have z : V.str "R" = V.str "L" := z
  injection z with z
  exact absurd z (by decide)
theorem vld_run : ∀ {es : List Ev} {bs : List Bool} {L : List Str} {i : Nat}, bs.length = es.length → vld L.length es = true → vld (runB L (es.take i) (bs.take i)).length (es.drop i) = true
  | es, bs, L, 0, _, h => by
    rw [List.take_zero, List.take_zero, List.drop_zero]
    exact h
  | [], bs, L, i + 1, _, h => by
    rw [List.take_nil, List.drop_nil]
    rfl
  | e :: r, [], L, i + 1, h, _ => by cases h
  | e :: r, b :: bs, L, i + 1, h, hv => vld_run (es := r) (bs := bs) (L := mvB L e b) (i := i) (Nat.succ.inj h) (vld_mv hv)
theorem run_le : ∀ {es : List Ev} {bs : List Bool} {L : List Str}, (runB L es bs).length ≤ L.length + es.length ∧ (gonB L es bs).length ≤ es.length
  | [], _, _ => ⟨Nat.le_refl _, Nat.le_refl _⟩
  | _ :: _, [], _ => ⟨Nat.le_add_right _ _, Nat.zero_le _⟩
  | e :: r, b :: bs, L => by
    have ih := run_le (es := r) (bs := bs) (L := mvB L e b)
    have h1 : (mvB L e b).length ≤ L.length + 1 := by rw [mvB_len2]; cases e <;> simp <;> omega
    have h2 : (gnB L e b).length ≤ 1 := by
      cases e with
      | inn c => exact Nat.zero_le _
      | out => cases b <;> simp [gnB] <;> omega
    refine ⟨?_, ?_⟩
    · show (runB (mvB L e b) r bs).length ≤ _
      rw [List.length_cons]
      omega
    · show (gnB L e b ++ gonB (mvB L e b) r bs).length ≤ _
      rw [List.length_append, List.length_cons]
      omega
def spPlay (K : PySem.W.Frag) : Sp := fun vs H Q _ => ∃ (a l e : Addr) (xs : List Str) (as : List Addr) (es : List Ev) (bs : List Bool), vs = [.ref a, .ref l, .ref e] ∧ (SqL K H a (xs.map V.str) ∨ SqT K H a (xs.map V.str)) ∧ SqL K H l (as.map V.ref) ∧ EvsAt K H as es ∧ SqL K H e (bs.map sB) ∧ bs.length = es.length ∧ vld xs.length es = true ∧ xs.length ≤ 400 ∧ es.length ≤ 400 ∧
  ∀ (H' : Hp) (t r g : Addr), L2.Same H H' → H t = none → H r = none → H g = none → H' t = some (.tup [.ref r, .ref g]) → TupD H' r ((runB xs es bs).map V.str) → H' g = some (.lst ((gonB xs es bs).map V.str)) → Q (.ref t) H'
theorem ok_play {f : Addr} {fd : FuncData} (F : Fun K "_law_play" "_law_play" sPlay f fd) (B : Bi mg) : FnOk P w K mg base CX0 1 f fd ["begin", "events", "ends"] (spPlay K) := by
  refine F.ok scPlay (fun vs H Q E h => ?_) (fun cdv A outer s H vs Q E hr h => ?_)
  · obtain ⟨a, l, e, xs, as, es, bs, rfl, _⟩ := h
    rfl
  · obtain ⟨a, l, e, xs, as, es, bs, rfl, hA, hL, hE, hB, hbl, hv, few1, few2, q⟩ := h
    refine ⟨_, (pss_cons (ps_par (i := 3) (j := 4) (by rfl) scPlay.nd rfl rfl (by decide) rfl rfl (pa_cons (pe_callTy call_list_of (by rfl) B.lst (by decide +kernel) (pa_cons (pv 0) pa_nil)) (pa_cons (pe_lst pa_nil) pa_nil)) (by rfl))
      (pss_cons (ps_for PassesOwn.never rfl (pi_zip (by rfl) B.zip (pa_cons (pv 1) (pa_cons (pv 2) pa_nil))) (pg_tup (by rfl) (pgs_cons (pg_name (i := 5) scPlay.nd rfl (.inl rfl)) (pgs_cons (pg_name (i := 6) scPlay.nd rfl (.inl rfl)) pgs_nil)))
        (pss_one (ps_if (pt_cmpR op_eq (pe_ix ix_tup (pv 5) pe_int (fun _ _ => rfl)) pe_str (nomark _))
          (pss_one (ps_set (i := 3) scPlay.nd rfl (.inl rfl) (pe_ifExp (pt_cmpR op_eq (pv 6) pe_str (nomark _)) (pe_op op_cat (pe_lst (pa_cons (pe_ix ix_tup (pv 5) pe_int (fun _ _ => rfl)) pa_nil)) (pv 3)) (pe_op op_cat (pv 3) (pe_lst (pa_cons (pe_ix ix_tup (pv 5) pe_int (fun _ _ => rfl)) pa_nil))))))
          (pss_cons (ps_expr (pe_bm PySem.F.plainAttrs_list PySem.F.slot_list_append PySem.F.type_list_append mt_append (pv 4) (pa_cons (pe_ifExp (pt_cmpR op_eq (pv 6) pe_str (nomark _)) (pe_ix ix_list (pv 3) pe_int (fun _ _ => rfl)) (pe_ix ix_list (pv 3) (pe_un un_neg pe_int) (fun _ _ => rfl))) pa_nil)))
          (pss_one (ps_set (i := 3) scPlay.nd rfl (.inl rfl) (pe_ifExp (pt_cmpR op_eq (pv 6) pe_str (nomark _)) (pe_slice sl_list (pv 3) (po_some pe_int) po_none) (pe_slice sl_list (pv 3) po_none (po_some (pe_un un_neg pe_int))))))))))
      (pss_one (ps_ret (pe_tup (pa_cons (pe_callTy call_tuple_ofD (by rfl) B.tup (by decide +kernel) (pa_cons (pv 3) pa_nil)) (pa_cons (pv 4) pa_nil))))))), ?_⟩
    have hlen := Paired.length hE
    refine ⟨.ref a, rfl, a, _, rfl, hA, fun u0 hu0 => ⟨Nat.zero_le _, fun g hg => ⟨_, _, rfl, ?_⟩⟩⟩
    have sm1 : L2.Same H (upd (upd H u0 (.lst (xs.map V.str))) g (.lst [])) := sm_new (sm_new sm_refl hu0) hg
    have hgu : g ≠ u0 := fun z => by rw [z, upd_same] at hg; cases hg
    have e1 : (upd (upd H u0 (.lst (xs.map V.str))) g (.lst [])) u0 = some (.lst (xs.map V.str)) := by rw [upd_ne hgu.symm, upd_same]
    have e2 : (upd (upd H u0 (.lst (xs.map V.str))) g (.lst [])) g = some (.lst []) := upd_same
    have hg0 : H g = none := by rw [upd_ne hgu] at hg; exact hg
    generalize upd (upd H u0 (.lst (xs.map V.str))) g (.lst []) = H1 at sm1 e1 e2 ⊢
    refine ⟨.ref l, rfl, .ref e, rfl, l, e, as.map V.ref, bs.map sB, rfl, sm1.seq hL, sm1.seq hB, RZ.for_zipL (K := K) (a := l) (b := e) (xs := as.map V.ref) (ys := bs.map sB) (by rw [List.length_map, List.length_map]; omega)
      (fun i σ H' => ∃ (u : Addr) (v5 v6 : Option V), σ = [some (.ref a), some (.ref l), some (.ref e), some (.ref u), some (.ref g), v5, v6] ∧ L2.Same H H' ∧ i ≤ es.length ∧ g ≠ u ∧ H' u = some (.lst ((runB xs (es.take i) (bs.take i)).map V.str)) ∧ H' g = some (.lst ((gonB xs (es.take i) (bs.take i)).map V.str))) ?_ ?_ ?_ ?_⟩
    · exact ⟨u0, none, none, rfl, sm1, Nat.zero_le _, hgu, by rw [e1, List.take_zero, List.take_zero]; rfl, by rw [e2, List.take_zero, List.take_zero]; rfl⟩
    · rintro i σ H' ⟨_, _, _, _, sm, _⟩
      exact ⟨sm.seq hL, sm.seq hB⟩
    · rintro i y z T σ H' hi hsi ⟨u, v5, v6, rfl, sm, hie, hgu', hu', hg'⟩ hTn
      have hlt : i < es.length := by
        have h1 := (List.getElem?_eq_some_iff.mp hi).1
        rw [List.length_map] at h1
        omega
      have hev : es[i]? = some es[i] := List.getElem?_eq_getElem hlt
      have hbv : bs[i]? = some bs[i] := List.getElem?_eq_getElem (by omega)
      obtain ⟨b, hb, hbt0⟩ := pair_at hE i _ hev
      have hy : y = .ref b := by
        rw [List.getElem?_map, hb] at hi
        exact (Option.some.inj hi).symm
      subst hy
      have hz : z = sB bs[i] := by
        rw [List.getElem?_map, hbv] at hsi
        exact (Option.some.inj hsi).symm
      subst hz
      obtain ⟨r1, r2⟩ := runB_take (L := xs) hev hbv
      have hrl := run_le (L := xs) (es := es.take i) (bs := bs.take i)
      have hvl := vld_run (L := xs) (i := i) hbl hv
      have hdr : es.drop i = es[i] :: es.drop (i + 1) := List.drop_eq_getElem_cons hlt
      rw [hdr] at hvl
      have htl : (es.take i).length = i := by rw [List.length_take]; omega
      rw [htl] at hrl
      have smT : L2.Same H (upd H' T (.tup [.ref b, sB bs[i]])) := sm_new sm hTn
      have hbt : SqT K (upd H' T (.tup [.ref b, sB bs[i]])) b es[i].vals := sqT_sm hbt0 smT
      have u1 : (upd H' T (.tup [.ref b, sB bs[i]])) u = some (.lst ((runB xs (es.take i) (bs.take i)).map V.str)) := by rw [upd_ne (ne_of_none hu' hTn)]; exact hu'
      have g1 : (upd H' T (.tup [.ref b, sB bs[i]])) g = some (.lst ((gonB xs (es.take i) (bs.take i)).map V.str)) := by rw [upd_ne (ne_of_none hg' hTn)]; exact hg'
      refine ⟨T, _, rfl, .inl (.inl upd_same), rfl, _, _, rfl, _, _, rfl, rfl, ?_⟩
      generalize upd H' T (.tup [.ref b, sB bs[i]]) = Ha at smT hbt u1 g1 ⊢
      generalize runB xs (es.take i) (bs.take i) = L at *
      generalize gonB xs (es.take i) (bs.take i) = G at *
      generalize hL2 : runB xs (es.take (i + 1)) (bs.take (i + 1)) = L2' at *
      generalize hG2 : gonB xs (es.take (i + 1)) (bs.take (i + 1)) = G2 at *
      have szL : ((L.map V.str) : List V).length ≤ 900 := by rw [List.length_map]; omega
      have szG : ((G.map V.str) : List V).length < sizeLine := by rw [List.length_map]; exact small1000 (by omega)
      have fin : ∀ (H2 : Hp) (u2 : Addr), L2.Same H H2 → g ≠ u2 → H2 u2 = some (.lst (L2'.map V.str)) → H2 g = some (.lst (G2.map V.str)) → ∃ (u : Addr) (v5 v6 : Option V), [some (V.ref a), some (.ref l), some (.ref e), some (.ref u2), some (.ref g), some (.ref b), some (sB bs[i])] = [some (.ref a), some (.ref l), some (.ref e), some (.ref u), some (.ref g), v5, v6] ∧ L2.Same H H2 ∧ i + 1 ≤ es.length ∧ g ≠ u ∧ H2 u = some (.lst (L2'.map V.str)) ∧ H2 g = some (.lst (G2.map V.str)) :=
        fun H2 u2 a1 a2 a3 a4 => ⟨u2, _, _, rfl, a1, hlt, a2, a3, a4⟩
      cases hE2 : es[i] with
      | inn c =>
        rw [hE2] at hbt r1 r2
        have hbt : SqT K Ha b [.str "in", .str c] := hbt
        have r2 : G2 = G := by rw [r2]; exact List.append_nil _
        refine ⟨.ref b, rfl, b, _, 0, _, rfl, rfl, hbt, atI_nat (j := 0) rfl, rfl, true, congrArg V.bl (decide_eq_true rfl), iteT ?_⟩
        cases hb0 : bs[i] with
        | true =>
          rw [hb0] at r1
          refine ⟨_, rfl, rfl, true, congrArg V.bl (decide_eq_true rfl), iteT ⟨.ref b, rfl, b, _, 1, _, rfl, rfl, hbt, atI_nat (j := 1) rfl, by show 1 ≤ sizeLine; decide, fun o ho => ?_⟩⟩
          have hbt2 := sm_new (o := .lst [.str c]) (sm_refl (H := Ha)) ho
          refine ⟨.ref u, rfl, o, u, _, _, rfl, rfl, upd_same, hbt2 _ _ u1, by rw [sizeLine_eq]; show 1 + _ ≤ _; omega, fun u2 hu2 => ?_⟩
          have k2 := sm_new (o := .lst ([V.str c] ++ L.map V.str)) hbt2 hu2
          have := fin _ u2 (sm_trans smT k2) (ne_of_none (hbt2 _ _ g1) hu2) (by rw [upd_same, r1]; rfl) (by rw [r2]; exact k2 _ _ g1)
          rw [hb0] at this
          exact this
        | false =>
          rw [hb0] at r1
          refine ⟨_, rfl, rfl, false, congrArg V.bl (decide_eq_false sBf), iteF ⟨.ref u, rfl, .ref b, rfl, b, _, 1, _, rfl, rfl, hbt, atI_nat (j := 1) rfl, by show 1 ≤ sizeLine; decide, fun o ho => ?_⟩⟩
          have hbt2 := sm_new (o := .lst [.str c]) (sm_refl (H := Ha)) ho
          refine ⟨u, o, _, _, rfl, rfl, hbt2 _ _ u1, upd_same, by rw [sizeLine_eq]; show _ + 1 ≤ _; omega, fun u2 hu2 => ?_⟩
          have k2 := sm_new (o := .lst (L.map V.str ++ [V.str c])) hbt2 hu2
          have := fin _ u2 (sm_trans smT k2) (ne_of_none (hbt2 _ _ g1) hu2) (by rw [upd_same, r1]; show _ = some (HO.lst ((L ++ [c]).map V.str)); rw [List.map_append]; rfl) (by rw [r2]; exact k2 _ _ g1)
          rw [hb0] at this
          exact this
      | out =>
        rw [hE2] at hbt r1 r2 hvl
        have hbt : SqT K Ha b [.str "out"] := hbt
        have hpos : 0 < L.length := by
          have h : (decide (0 < L.length) && vld (L.length - 1) (es.drop (i + 1))) = true := hvl
          exact of_decide_eq_true (Bool.and_eq_true _ _ ▸ h).1
        refine ⟨.ref b, rfl, b, _, 0, _, rfl, rfl, hbt, atI_nat (j := 0) rfl, rfl, false, congrArg V.bl (decide_eq_false fun z => by injection z with z; exact absurd z (by decide)), iteF ?_⟩
        cases hb0 : bs[i] with
        | true =>
          rw [hb0] at r1 r2
          obtain ⟨y, L1, rfl⟩ : ∃ y L1, L = y :: L1 := by
            cases L with
            | nil => cases hpos
            | cons y L1 => exact ⟨y, L1, rfl⟩
          have r1 : L2' = L1 := r1
          have r2 : G2 = G ++ [y] := r2
          refine ⟨.ref g, rfl, .inl ⟨rfl, _, SqL.of g1⟩, _, rfl, rfl, true, congrArg V.bl (decide_eq_true rfl), iteT ⟨.ref u, rfl, u, _, 0, _, rfl, rfl, SqL.of u1, atI_nat (j := 0) rfl, g, _, _, rfl, rfl, g1, szG, ?_⟩⟩
          have u2 : (upd Ha g (.lst (G.map V.str ++ [.str y]))) u = some (.lst ((y :: L1).map V.str)) := by rw [upd_ne hgu'.symm]; exact u1
          have sm2 : L2.Same H (upd Ha g (.lst (G.map V.str ++ [.str y]))) := fun b q e => by rw [upd_ne (ne_of_none e hg0)]; exact smT b q e
          have g2 : (upd Ha g (.lst (G.map V.str ++ [.str y]))) g = some (.lst (G2.map V.str)) := by rw [upd_same, r2, List.map_append]; rfl
          generalize upd Ha g (.lst (G.map V.str ++ [.str y])) = Hb at u2 sm2 g2 ⊢
          refine ⟨_, rfl, rfl, true, congrArg V.bl (decide_eq_true rfl), iteT ⟨.ref u, rfl, 1, rfl, u, _, rfl, SqL.of u2, fun p1 hp1 => ?_⟩⟩
          rw [cut_d1]
          have := fin _ p1 (sm_new sm2 hp1) (ne_of_none g2 hp1) (by rw [upd_same, r1]) (by rw [upd_ne (ne_of_none g2 hp1)]; exact g2)
          rw [hb0] at this
          exact this
        | false =>
          rw [hb0] at r1 r2
          obtain ⟨y, L1, rfl⟩ : ∃ y L1, L = L1 ++ [y] := by
            rcases List.eq_nil_or_concat L with h | ⟨L1, y, h⟩
            · rw [h] at hpos; cases hpos
            · exact ⟨y, L1, by rw [h, List.concat_eq_append]⟩
          have r1 : L2' = L1 := by rw [r1]; exact take_right
          have r2 : G2 = G ++ [y] := by
            rw [r2]
            show G ++ (L1 ++ [y]).drop ((L1 ++ [y]).length - 1) = _
            rw [List.length_append]
            show G ++ (L1 ++ [y]).drop (L1.length + 1 - 1) = _
            rw [Nat.add_sub_cancel, List.drop_left]
          have hlast : atI ((L1 ++ [y]).map V.str) (-1) = some (V.str y) := by rw [List.map_append]; exact atI_last _ _
          refine ⟨.ref g, rfl, .inl ⟨rfl, _, SqL.of g1⟩, _, rfl, rfl, false, congrArg V.bl (decide_eq_false sBf), iteF ⟨.ref u, rfl, 1, rfl, u, _, -1, _, rfl, rfl, SqL.of u1, hlast, g, _, _, rfl, rfl, g1, szG, ?_⟩⟩
          have u2 : (upd Ha g (.lst (G.map V.str ++ [.str y]))) u = some (.lst ((L1 ++ [y]).map V.str)) := by rw [upd_ne hgu'.symm]; exact u1
          have sm2 : L2.Same H (upd Ha g (.lst (G.map V.str ++ [.str y]))) := fun b q e => by rw [upd_ne (ne_of_none e hg0)]; exact smT b q e
          have g2 : (upd Ha g (.lst (G.map V.str ++ [.str y]))) g = some (.lst (G2.map V.str)) := by rw [upd_same, r2, List.map_append]; rfl
          generalize upd Ha g (.lst (G.map V.str ++ [.str y])) = Hb at u2 sm2 g2 ⊢
          refine ⟨_, rfl, rfl, false, congrArg V.bl (decide_eq_false sBf), iteF ⟨.ref u, rfl, 1, rfl, -1, rfl, u, _, rfl, SqL.of u2, fun p1 hp1 => ?_⟩⟩
          have e9 : ((L1 ++ [y]).map V.str).take (((L1 ++ [y]).map V.str).length - 1) = L2'.map V.str := by
            rw [r1, List.map_append, List.length_append]
            show (L1.map V.str ++ [V.str y]).take ((L1.map V.str).length + 1 - 1) = _
            rw [Nat.add_sub_cancel, List.take_left]
          rw [cut_l1, e9]
          have := fin _ p1 (sm_new sm2 hp1) (ne_of_none g2 hp1) upd_same (by rw [upd_ne (ne_of_none g2 hp1)]; exact g2)
          rw [hb0] at this
          exact this
    · rintro σ H' ⟨u, v5, v6, rfl, sm, hie, hgu', hu', hg'⟩
      rw [List.length_map, hlen, List.take_length] at hu' hg'
      rw [← hbl, List.take_length] at hu' hg'
      refine ⟨.ref u, rfl, u, _, rfl, SqL.of hu', fun r ob hob hr => ⟨.ref g, rfl, by show 2 ≤ sizeLine; decide, fun t ht => ?_⟩⟩
      have k1 := sm_new (o := .frz ob (.tup ((runB xs es bs).map V.str))) (sm_refl (H := H')) hr
      have k2 := sm_new (o := .tup [.ref r, .ref g]) k1 ht
      exact q _ t r g (sm_trans sm k2) (sm_none (sm_trans sm k1) ht) (sm_none sm hr) hg0 upd_same ⟨ob, hob, by rw [upd_ne (ne_of_none upd_same ht), upd_same]⟩ (k2 _ _ hg')
end
end Ln


set_option Elab.async false
set_option linter.all false
set_option maxRecDepth 100000
set_option maxHeartbeats 4000000
namespace Ln
open PySem
/-! ### all lists of sides -/
def allE : Nat → List (List Bool)
  | 0 => [[]]
  | n + 1 => (allE n).map (· ++ [true]) ++ (allE n).map (· ++ [false])
def allF : Nat → List (List Bool)
  | 0 => [[]]
  | n + 1 => (allF n).map (true :: ·) ++ (allF n).map (false :: ·)
theorem allF_back : ∀ n, ((allF n).map (· ++ [true]) ++ (allF n).map (· ++ [false])).Perm (allF (n + 1))
  | 0 => List.Perm.refl _
  | n + 1 => by
    have ih := allF_back n
    have e : ∀ b : Bool, (allF (n + 1)).map (· ++ [b]) = ((allF n).map (· ++ [b])).map (true :: ·) ++ ((allF n).map (· ++ [b])).map (false :: ·) := fun b => by
      show ((allF n).map (true :: ·) ++ (allF n).map (false :: ·)).map (· ++ [b]) = _
      rw [List.map_append, List.map_map, List.map_map, List.map_map, List.map_map]
      rfl
    rw [e true, e false]
    have h1 : (((allF n).map (· ++ [true])).map (true :: ·) ++ ((allF n).map (· ++ [true])).map (false :: ·) ++ (((allF n).map (· ++ [false])).map (true :: ·) ++ ((allF n).map (· ++ [false])).map (false :: ·))).Perm
        ((((allF n).map (· ++ [true])).map (true :: ·) ++ ((allF n).map (· ++ [false])).map (true :: ·)) ++ (((allF n).map (· ++ [true])).map (false :: ·) ++ ((allF n).map (· ++ [false])).map (false :: ·))) := by
      rw [List.append_assoc, List.append_assoc]
      refine List.Perm.append_left _ ?_
      rw [← List.append_assoc, ← List.append_assoc]
      exact List.Perm.append_right _ List.perm_append_comm
    refine h1.trans ?_
    rw [← List.map_append, ← List.map_append]
    exact (ih.map _).append (ih.map _)
theorem allE_perm : ∀ n, (allE n).Perm (allF n)
  | 0 => List.Perm.refl _
  | n + 1 => (((allE_perm n).map _).append ((allE_perm n).map _)).trans (allF_back n)
theorem allE_len : ∀ n, ∀ bs ∈ allE n, bs.length = n
  | 0, bs, h => by rw [List.mem_singleton.mp h]; rfl
  | n + 1, bs, h => by
    rcases List.mem_append.mp h with h | h
    · obtain ⟨c, hc, rfl⟩ := List.mem_map.mp h
      rw [List.length_append, allE_len n c hc]
      rfl
    · obtain ⟨c, hc, rfl⟩ := List.mem_map.mp h
      rw [List.length_append, allE_len n c hc]
      rfl
theorem allE_size : ∀ n, (allE n).length = 2 ^ n
  | 0 => rfl
  | n + 1 => by
    show ((allE n).map _ ++ (allE n).map _).length = _
    rw [List.length_append, List.length_map, List.length_map, allE_size n, Nat.pow_succ]
    omega
theorem allF_mem : ∀ (n : Nat) (bs : List Bool), bs.length = n → bs ∈ allF n
  | 0, bs, h => by rw [List.eq_nil_of_length_eq_zero h]; exact List.mem_singleton.mpr rfl
  | n + 1, [], h => by cases h
  | n + 1, b :: bs, h => by
    have ih := allF_mem n bs (Nat.succ.inj h)
    cases b
    · exact List.mem_append_right _ (List.mem_map.mpr ⟨bs, ih, rfl⟩)
    · exact List.mem_append_left _ (List.mem_map.mpr ⟨bs, ih, rfl⟩)
theorem allE_mem {n : Nat} {bs : List Bool} (h : bs.length = n) : bs ∈ allE n := (allE_perm n).mem_iff.mpr (allF_mem n bs h)
theorem countF_hcnt {F : List Str} : ∀ (es : List Ev) (L : List Str), (allF es.length).countP (fun bs => decide (runB L es bs = F)) = hcnt F L es
  | [], L => by
    show ([[]] : List (List Bool)).countP (fun bs => decide (L = F)) = if L = F then 1 else 0
    by_cases h : L = F
    · rw [if_pos h, decide_eq_true h]; rfl
    · rw [if_neg h, decide_eq_false h]; rfl
  | e :: r, L => by
    show ((allF r.length).map (true :: ·) ++ (allF r.length).map (false :: ·)).countP _ = _
    rw [List.countP_append, List.countP_map, List.countP_map, hcnt_cons, ← countF_hcnt r (mvB L e true), ← countF_hcnt r (mvB L e false)]
    rfl
theorem countE_hcnt {F : List Str} (es : List Ev) (L : List Str) : (allE es.length).countP (fun bs => decide (runB L es bs = F)) = hcnt F L es := by
  rw [(allE_perm es.length).countP_eq]
  exact countF_hcnt es L
/-- a history by its sides is a history -/
theorem run_runB : ∀ (es : List Ev) (L : List Str) (bs : List Bool), bs.length = es.length → vld L.length es = true → Run L es (runB L es bs)
  | [], L, bs, h, _ => by
    rw [List.eq_nil_of_length_eq_zero h]
    exact .nil L
  | e :: r, L, [], h, _ => by cases h
  | e :: r, L, b :: bs, h, hv => .cons (vld_mvr hv) (run_runB r (mvB L e b) bs (Nat.succ.inj h) (vld_mv hv))
theorem runB_gRun {F : List Str} : ∀ (es : List Ev) (lo : Option Nat) (L : List Str), runB L es (hSides F lo L es) = gRun F lo L es
  | [], _, _ => rfl
  | e :: r, lo, L => runB_gRun r (loN F lo e) _
end Ln


set_option Elab.async false
set_option linter.all false
set_option maxRecDepth 100000
set_option maxHeartbeats 4000000
namespace Ln
open PySem PySem.Spec PyProof.Rows L2
/-! ### dicts whose keys are tuples of texts without attributes, every value True -/
abbrev Ky := List Str × Addr
def DX (xs : List Ky) : List (List Str × Addr × Value) := xs.map fun q => (q.1, q.2, Value.bool true)
def KDp (P : Program) (w : World) (a : Addr) (xs : List Ky) (h : Heap) : Prop := (a == sysModules) = false ∧ ∃ o es ep, h.get? a = some o ∧ o.ExactDict ∧ o.data = .dict es ep ∧ es.toList = (DX xs).map (entryOfKey (tupleKind (PySem.strKind P w))) ∧ (xs.map (·.1)).Nodup
def KD (P : Program) (w : World) (a : Addr) (xs : List Ky) : HO := .ext (KDp P w a xs)
theorem kd_ok {P : Program} {w : World} {a : Addr} {xs : List Ky} {H : Hp} {h : Heap} (R : KDp P w a xs h) : ObjOk P w H h a (KD P w a xs) :=
  ⟨R, let ⟨_, o, _, _, e, _⟩ := R; ⟨o, e⟩, fun h1 h2 r k => let ⟨y, o, es, ep, e, q⟩ := r; ⟨y, o, es, ep, k o e, q⟩⟩
def KeysT (H : Hp) (xs : List Ky) : Prop := ∀ q ∈ xs, TupD H q.2 (q.1.map V.str)
theorem items_strs {P : Program} {w : World} : ∀ {ks : List Str} {us : List Value}, Vals (ks.map V.str) us → ItemsAre (PySem.strKind P w) ks us
  | [], us, r => by
    rw [List.map_nil] at r
    cases r
    exact .nil
  | k :: ks, us, r => by
    rw [List.map_cons] at r
    cases r with
    | cons h t =>
      obtain ⟨tk, rfl⟩ := h
      exact .cons (by show (k == k) = true; exact beq_self_eq_true k) (items_strs t)
section
variable {P : Program} {w : World} {H : Hp} {h : Heap} {a b : Addr} {xs : List Ky} {k : List Str}
theorem key_isD (ok : HOk P w H h) (e : TupD H b (k.map V.str)) : (tupleKind (PySem.strKind P w)).is h k b := by
  obtain ⟨ob, _, e⟩ := e
  obtain ⟨_, z, its, r, o, h1, h2, n, h3⟩ := (show ObjOk P w H h b (.frz ob (.tup (k.map V.str))) from ok b _ e)
  exact ⟨o, its.toArray, n, h1, h2, h3, by simpa using items_strs r⟩
theorem dx_keys : (DX xs).map (·.1) = xs.map (·.1) := by simp [DX]
theorem dict_kd (R : KDp P w a xs h) (hk : KeysT H xs) (ok : HOk P w H h) : h.DictOfH (tupleKind (PySem.strKind P w)) a (DX xs) := by
  obtain ⟨_, o, es, ep, e, ex, dt, el, nd⟩ := R
  refine ⟨o, es, ep, e, ex, dt, el, fun x hx => ?_, by rw [dx_keys]; exact nd⟩
  obtain ⟨q, hq, rfl⟩ := List.mem_map.mp hx
  exact key_isD ok (hk q hq)
def putD (xs : List Ky) (k : List Str) (b : Addr) : List Ky := if k ∈ xs.map (·.1) then xs else xs ++ [(k, b)]
theorem at_dx : (atKey (DX xs) k).isSome = decide (k ∈ xs.map (·.1)) := by
  induction xs with
  | nil => rfl
  | cons x xs ih =>
    unfold DX atKey at ih ⊢
    rw [List.map_cons, List.map_cons, List.find?_cons]
    by_cases e : x.1 = k
    · subst e
      simp
    · have e' : ¬ k = x.1 := fun z => e z.symm
      rw [show decide ((x.1, x.2, Value.bool true).1 = k) = false from decide_eq_false e]
      rw [show decide (k ∈ x.1 :: xs.map (·.1)) = decide (k ∈ xs.map (·.1)) by simp [e']]
      exact ih
theorem put_dx : (DX xs).map (putAt k (Value.bool true)) = DX xs := by
  unfold DX
  rw [List.map_map]
  refine List.map_congr_left fun q _ => ?_
  show putAt k (Value.bool true) (q.1, q.2, Value.bool true) = _
  unfold putAt
  split <;> rfl
theorem stored_dx : storedH (DX xs) k b (Value.bool true) = DX (putD xs k b) := by
  unfold storedH putD
  rw [at_dx]
  by_cases e : k ∈ xs.map (·.1)
  · rw [if_pos (decide_eq_true e), if_pos e]
    exact put_dx
  · rw [if_neg (by rw [decide_eq_false e]; exact Bool.false_ne_true), if_neg e]
    simp [DX]
theorem putD_mem {z : List Str} : z ∈ (putD xs k b).map (·.1) ↔ z ∈ xs.map (·.1) ∨ z = k := by
  unfold putD
  split
  · rename_i e
    exact ⟨.inl, fun h => h.elim id fun q => by rw [q]; exact e⟩
  · simp
theorem putD_in {q : Ky} (h : q ∈ putD xs k b) : q ∈ xs ∨ q = (k, b) := by
  unfold putD at h
  split at h
  · exact .inl h
  · simpa using h
theorem putD_len : (putD xs k b).length ≤ xs.length + 1 := by
  unfold putD
  split <;> simp
theorem putD_nd (h : (xs.map (·.1)).Nodup) : ((putD xs k b).map (·.1)).Nodup := by
  unfold putD
  split
  · exact h
  · rename_i e
    rw [List.map_append]
    exact List.nodup_append.mpr ⟨h, by simp, fun x hx y hy z => e (by simp at hy; rw [← hy, ← z]; exact hx)⟩
theorem TupD.updX {o : HO} {φ : Heap → Prop} {t : Addr} {ys : List V} (h : TupD H t ys) (e : H a = some (.ext φ)) : TupD (upd H a o) t ys := by
  obtain ⟨ob, d, q⟩ := h
  refine ⟨ob, d, ?_⟩
  rw [upd_ne fun z => by rw [z, e] at q; cases q]
  exact q
theorem KeysT.updX {o : HO} {φ : Heap → Prop} (h : KeysT H xs) (e : H a = some (.ext φ)) : KeysT (upd H a o) xs := fun q hq => (h q hq).updX e
theorem KeysT.same {H1 : Hp} (h : KeysT H xs) (k : L2.Same H H1) : KeysT H1 xs := fun q hq => (h q hq).same k
theorem KeysT.kp {Ps : List Addr} {H1 : Hp} (h : KeysT H xs) (k : Kp Ps H H1) (hT : Tabs Ps H) : KeysT H1 xs := fun q hq => (h q hq).kp k hT
theorem KeysT.put {t : Addr} (h : KeysT H xs) (hb : TupD H t (k.map V.str)) : KeysT H (putD xs k t) := fun q hq => by
  rcases putD_in hq with e | e
  · exact h q e
  · rw [e]
    exact hb
end
section
variable {X : Cx} {pos : Pos}
theorem pe_kdnew : PE X (.Dict [] [] pos) (fun _ H Q => ∀ p, H p = none → Q (.ref p) (upd H p (KD X.prog X.w p []))) := ⟨fun pins s σ H Q I h =>
  wpAny_Dict_empty ⟨.ref s.heap.objs.size, _, I.laid (a := s.heap.objs.size) (o := KD X.prog X.w s.heap.objs.size []) (t' := s.toks) (fun _ _ q => Heap.get?_push_of_some _ q) (Nat.le_refl _)
    (kd_ok ⟨beq_eq_false_iff_ne.mpr (Ne.symm (Nat.ne_of_lt I.big)), _, #[], 0, Heap.get?_push_size _ rfl, ⟨rfl, rfl, rfl⟩, rfl, rfl, List.nodup_nil⟩), rfl, h _ (I.hok.fresh (Nat.le_refl _))⟩⟩
def rSetKD (P : Program) (w : World) : TSet := fun o i v H Q => ∃ (a b : Addr) (xs : List Ky) (k : List Str), o = .ref a ∧ i = .ref b ∧ v = .bl true ∧ H a = some (KD P w a xs) ∧ KeysT H xs ∧ TupD H b (k.map V.str) ∧ xs.length ≤ 100000 ∧ ∀ H', H' = upd H a (KD P w a (putD xs k b)) → Q H'
theorem set_kd (hu : X.A.units + 1 < cLine) : PSet X (rSetKD X.prog X.w) := by
  intro pins s σ H o i v ov iv u Q I ro ri rv h
  obtain ⟨a, b, xs, k, rfl, rfl, rfl, ha, hk, hb, few, q⟩ := h
  cases (show ov = Value.ref a from ro)
  cases (show iv = Value.ref b from ri)
  cases (show u = Value.bool true from rv)
  have R : KDp X.prog X.w a xs s.heap := (I.hok a _ ha).1
  refine wpAny_setItem_heap (hsz := by unfold DX; rw [List.length_map, sizeLine_eq]; omega) (tupleKind_room_in1 hu) (key_isD I.hok hb) (dict_kd R hk I.hok) fun h' dd' hs => ⟨_, ?_, q _ rfl⟩
  rw [stored_dx] at dd'
  obtain ⟨o, es, ep, e, ex, dt, el, _, nd⟩ := dd'
  rw [dx_keys] at nd
  exact d_write I (by rw [ha]; exact True.intro) hs ⟨o, e⟩ (kd_ok ⟨R.1, o, es, ep, e, ex, dt, el, nd⟩)
def rInKD (P : Program) (w : World) : R2 := fun x y H Q => ∃ (a b : Addr) (xs : List Ky) (k : List Str), x = .ref b ∧ y = .ref a ∧ H a = some (KD P w a xs) ∧ KeysT H xs ∧ TupD H b (k.map V.str) ∧ Q (.bl (decide (k ∈ xs.map (·.1)))) H
theorem op_in_kd2 (hu : X.A.units + 1 < cLine) : OpR X (compareOp .In) (rInKD X.prog X.w) := by
  intro pins s σ H x y v u Q I rx ry h
  obtain ⟨a, b, xs, k, rfl, rfl, ha, hk, hb, q⟩ := h
  cases (show v = Value.ref b from rx)
  cases (show u = Value.ref a from ry)
  have R : KDp X.prog X.w a xs s.heap := (I.hok a _ ha).1
  refine wpAny_in_heap (tupleKind_room_in1 hu) (key_isD I.hok hb) R.1 (dict_kd R hk I.hok) ⟨_, H, I.tok _, ?_, q⟩
  rw [at_dx]
  exact rfl
def rListKD (P : Program) (w : World) : List V → Hp → VK → Prop := fun vs H Q => ∃ (a : Addr) (xs : List Ky), vs = [.ref a] ∧ H a = some (KD P w a xs) ∧ xs.length ≤ 100000 ∧ ∀ p, H p = none → Q (.ref p) (upd H p (.lst (xs.map fun q => V.ref q.2)))
theorem vals_refs : ∀ {ps : List Addr} {us : List Value}, us.length = ps.length → (∀ (j : Nat) v, us[j]? = some v → ∃ b, ps[j]? = some b ∧ v = Value.ref b) → Vals (ps.map V.ref) us
  | [], [], _, _ => .nil
  | p :: ps, u :: us, hl, h => by
    obtain ⟨b, hb, rfl⟩ := h 0 u rfl
    cases (show p = b from Option.some.inj hb)
    exact .cons rfl (vals_refs (by simpa using hl) fun j v hv => by simpa using h (j + 1) v (by simpa using hv))
  | [], _ :: _, hl, _ => by simp at hl
  | _ :: _, [], hl, _ => by simp at hl
theorem call_list_kd (hc : X.calm = true) : CallR X (.type "list") (rListKD X.prog X.w) := by
  intro pins s σ H vs us Q I r h
  obtain ⟨a, xs, rfl, ha, few, q⟩ := h
  obtain ⟨u, rfl, rx⟩ := vals1 r
  cases rx
  obtain ⟨y, o, es, ep, e, ex, dt, el, nd⟩ : KDp X.prog X.w a xs s.heap := (I.hok a _ ha).1
  have hes : es.size = xs.length := by rw [← Array.length_toList, el, List.length_map]; simp [DX]
  have raw : s.heap.DictRaw a es ep := ⟨o, e, ex, dt⟩
  refine PySem.W.kdl_call (KdlSrc.rawDict y) (I.ok.hd hc) raw (by rw [hes, sizeLine_eq]; omega) fun h' tk acc' c' k hD hacc => ?_
  refine ⟨.ref s.heap.objs.size, _, I.laid (t' := tk) k (Nat.le_refl _) ?_, rfl, q _ (I.hok.fresh (Nat.le_refl _))⟩
  refine ⟨by rw [List.length_map, sizeLine_eq]; omega, acc'.toList, c', ?_, by rw [Array.toArray_toList]; exact hD⟩
  have hv : Vals ((xs.map (·.2)).map V.ref) acc'.toList := vals_refs (by rw [Array.length_toList, hacc.1, hes, List.length_map]) fun j v hv => by
    obtain ⟨hi, ev⟩ := hacc.2 j v (by simpa using hv)
    have h1 : es.toList[j]? = some es[j] := by rw [Array.getElem?_toList]; exact Array.getElem?_eq_getElem hi
    rw [el, List.getElem?_map, DX, List.getElem?_map] at h1
    cases hx : xs[j]? with
    | none => rw [hx] at h1; cases h1
    | some q =>
      rw [hx] at h1
      have h2 := Option.some.inj h1
      refine ⟨q.2, by rw [List.getElem?_map, hx]; rfl, ?_⟩
      rw [ev, ← h2]
      rfl
  rw [List.map_map] at hv
  exact hv
/-- dict([(k, True), ..]) -/
def rDictKD (K : PySem.W.Frag) (P : Program) (w : World) : List V → Hp → VK → Prop := fun vs H Q => ∃ (a : Addr) (ps : List Addr) (kvs : List Ky), vs = [.ref a] ∧ SqL K H a (ps.map V.ref) ∧ Paired (fun p (q : Ky) => SqT K H p [.ref q.2, .bl true]) ps kvs ∧ KeysT H kvs ∧ kvs.length ≤ 100000 ∧
  ∀ (p : Addr) (ys : List Ky) (H' : Hp), (∀ q ∈ ys, q ∈ kvs) → (∀ k, k ∈ ys.map (·.1) ↔ k ∈ kvs.map (·.1)) → H p = none → H' = upd H p (KD P w p ys) → Q (.ref p) H'
theorem pairs_kd {pins : List (Addr × Obj)} {σ : L2.St} {H : Hp} {s : Shared} (I : Inv X pins σ H s) : ∀ {ps : List Addr} {kvs : List Ky}, Paired (fun p (q : Ky) => SqT X.K H p [.ref q.2, .bl true]) ps kvs →
    ∀ (j : Nat) (q : Ky), kvs[j]? = some q → ∃ b, ps[j]? = some b ∧ IsTup s.heap b #[.ref q.2, .bool true]
  | _, _, .nil, j, q, e => by simp at e
  | _, _, .cons (a := p) (b := kv) h t, j, q, e => by
    cases j with
    | zero =>
      cases (show kv = q from Option.some.inj e)
      obtain ⟨its, rv, ht, _⟩ := I.tuple h
      obtain ⟨u, y, ei, ru, ry⟩ := vals2 rv
      subst ei
      cases (show u = Value.ref kv.2 from ru)
      cases (show y = Value.bool true from ry)
      exact ⟨p, rfl, ht⟩
    | succ j =>
      obtain ⟨b, e1, e2⟩ := pairs_kd I t j q (by simpa using e)
      exact ⟨b, by simpa using e1, e2⟩
def putsD (xs : List Ky) : List Ky := xs.foldl (fun acc q => putD acc q.1 q.2) []
theorem puts_dx (kvs : List Ky) : ∀ acc, storedAllH (DX acc) (DX kvs) = DX (kvs.foldl (fun acc q => putD acc q.1 q.2) acc) := by
  induction kvs with
  | nil => exact fun acc => rfl
  | cons q r ih =>
    intro acc
    show storedAllH (storedH (DX acc) q.1 q.2 (Value.bool true)) (DX r) = _
    rw [stored_dx, ih]
    rfl
theorem puts_mem (kvs : List Ky) : ∀ acc k, k ∈ (kvs.foldl (fun acc q => putD acc q.1 q.2) acc).map (·.1) ↔ k ∈ acc.map (·.1) ∨ k ∈ kvs.map (·.1) := by
  induction kvs with
  | nil => intro acc k; simp
  | cons q r ih =>
    intro acc k
    rw [List.foldl_cons, ih, putD_mem, List.map_cons, List.mem_cons, or_assoc]
theorem puts_in (kvs : List Ky) : ∀ acc q, q ∈ kvs.foldl (fun acc q => putD acc q.1 q.2) acc → q ∈ acc ∨ q ∈ kvs := by
  induction kvs with
  | nil => intro acc q h; exact .inl h
  | cons x r ih =>
    intro acc q h
    rcases ih _ q h with e | e
    · rcases putD_in e with z | z
      · exact .inl z
      · exact .inr (by rw [z]; exact List.mem_cons_self)
    · exact .inr (List.mem_cons_of_mem _ e)
theorem call_dict_kd (hc : X.calm = true) (hu : X.A.units + 2 < cLine) : CallR X (.type "dict") (rDictKD X.K X.prog X.w) := by
  intro pins s σ H vs us Q I r h
  obtain ⟨a, ps, kvs, rfl, hq, hp, hk, few, q⟩ := h
  obtain ⟨u, rfl, rx⟩ := vals1 r
  cases rx
  obtain ⟨its, rv, pl, hz⟩ := I.list hq
  have ei := refs_at rv
  subst ei
  have hpl := hp.length
  have hl2 : (DX kvs).length = kvs.length := by simp [DX]
  have arg := PairArg.list (prog := X.prog) (w := X.w) a (ps.map Value.ref).toArray (fun j => ps.getD j 0) (kvs.map fun q => (Value.ref q.2, Value.bool true))
  rw [List.length_map] at arg
  have hm : (s.heap.objs.size == sysModules) = false := beq_eq_false_iff_ne.mpr (Nat.ne_of_gt I.big)
  have ok : PlainSeq "list" s.heap a (ps.map Value.ref).toArray ∧ PairItems s.heap (ps.map Value.ref).toArray (fun j => ps.getD j 0) (kvs.map fun q => (Value.ref q.2, Value.bool true)) := by
    obtain ⟨o, n, ho, hcl, hd, hdat⟩ := pl
    refine ⟨⟨o, n, ho, hcl, hd, hdat⟩, by simp [hpl], fun j k v e => ?_⟩
    rw [List.getElem?_map] at e
    cases hx : kvs[j]? with
    | none => rw [hx] at e; cases e
    | some q =>
      rw [hx] at e
      cases (show (Value.ref q.2, Value.bool true) = (k, v) from Option.some.inj e)
      obtain ⟨b, hb, o, h1, h2, n, h3⟩ := pairs_kd I hp j q hx
      have hg : ps.getD j 0 = b := by rw [List.getD_eq_getElem?_getD, hb]; rfl
      refine ⟨by simp [hb, hg], .inl ⟨o, ?_, h2, n, h3⟩⟩
      show s.heap.get? (ps.getD j 0) = some o
      rw [hg]
      exact h1
  refine call_dict_pairsH (knd := tupleKind (PySem.strKind X.prog X.w)) (ps := DX kvs) arg (I.ok.hd hc) (show X.A.in1.in1.units < cLine from ?_) ok ⟨hl2, fun i key v e => ?_⟩ (fun h' k' x hx => ?_) (by rw [sizeLine_eq]; omega) fun h' tk hd' k' => ?_
  · show X.A.units + 1 + 1 < cLine
    omega
  · have e : (kvs.map fun q => (Value.ref q.2, Value.bool true))[i]? = some (key, v) := e
    rw [List.getElem?_map] at e
    cases hx : kvs[i]? with
    | none => rw [hx] at e; cases e
    | some q =>
      rw [hx] at e
      cases (show (Value.ref q.2, Value.bool true) = (key, v) from Option.some.inj e)
      exact ⟨q.1, q.2, by unfold DX; rw [List.getElem?_map, hx]; rfl, rfl⟩
  · obtain ⟨q, hq', rfl⟩ := List.mem_map.mp hx
    obtain ⟨o, items, n, h1, h2⟩ := key_isD I.hok (hk q hq')
    exact ⟨o, items, n, k' _ _ (Nat.ne_of_lt (Heap.lt_size h1)) (fun z => nomatch z) h1, h2⟩
  · have e0 : storedAllH [] (DX kvs) = DX (putsD kvs) := puts_dx kvs []
    rw [e0] at hd'
    obtain ⟨o, es, ep, e, ex, dt, el, _, nd⟩ := hd'
    rw [dx_keys] at nd
    refine ⟨.ref s.heap.objs.size, _, I.laid (t' := tk) (fun b o e => k' b o (fun z => nomatch z) e) (Nat.le_refl _) (kd_ok ⟨hm, o, es, ep, e, ex, dt, el, nd⟩), rfl, q _ (putsD kvs) _ (fun x hx => ?_) (fun k => ?_) (I.hok.fresh (Nat.le_refl _)) rfl⟩
    · rcases puts_in kvs [] x hx with z | z
      · cases z
      · exact z
    · unfold putsD
      rw [puts_mem]
      simp
end
end Ln


set_option Elab.async false
set_option linter.all false
set_option maxRecDepth 100000
set_option maxHeartbeats 4000000
namespace Ln
open PySem PySem.Spec PyProof.Rows L2
/-! ### dicts whose keys are tuples of texts without attributes, the values objects -/
abbrev Kz := List Str × Addr × Addr
def DZ (xs : List Kz) : List (List Str × Addr × Value) := xs.map fun q => (q.1, q.2.1, Value.ref q.2.2)
def KZp (P : Program) (w : World) (a : Addr) (xs : List Kz) (h : Heap) : Prop := (a == sysModules) = false ∧ ∃ o es ep, h.get? a = some o ∧ o.ExactDict ∧ o.data = .dict es ep ∧ es.toList = (DZ xs).map (entryOfKey (tupleKind (PySem.strKind P w))) ∧ (xs.map (·.1)).Nodup
def KZ (P : Program) (w : World) (a : Addr) (xs : List Kz) : HO := .ext (KZp P w a xs)
theorem kz_ok {P : Program} {w : World} {a : Addr} {xs : List Kz} {H : Hp} {h : Heap} (R : KZp P w a xs h) : ObjOk P w H h a (KZ P w a xs) :=
  ⟨R, let ⟨_, o, _, _, e, _⟩ := R; ⟨o, e⟩, fun h1 h2 r k => let ⟨y, o, es, ep, e, q⟩ := r; ⟨y, o, es, ep, k o e, q⟩⟩
def KeysZ (H : Hp) (xs : List Kz) : Prop := ∀ q ∈ xs, TupD H q.2.1 (q.1.map V.str)
section
variable {P : Program} {w : World} {H : Hp} {h : Heap} {a b c : Addr} {xs : List Kz} {k : List Str}
theorem dz_keys : (DZ xs).map (·.1) = xs.map (·.1) := by simp [DZ]
theorem dict_kz (R : KZp P w a xs h) (hk : KeysZ H xs) (ok : HOk P w H h) : h.DictOfH (tupleKind (PySem.strKind P w)) a (DZ xs) := by
  obtain ⟨_, o, es, ep, e, ex, dt, el, nd⟩ := R
  refine ⟨o, es, ep, e, ex, dt, el, fun x hx => ?_, by rw [dz_keys]; exact nd⟩
  obtain ⟨q, hq, rfl⟩ := List.mem_map.mp hx
  exact key_isD ok (hk q hq)
theorem at_dz : atKey (DZ xs) k = (xs.find? fun q => decide (q.1 = k)).map fun q => (q.2.1, Value.ref q.2.2) := by
  induction xs with
  | nil => rfl
  | cons x xs ih =>
    unfold DZ atKey at ih ⊢
    rw [List.map_cons, List.find?_cons, List.find?_cons]
    by_cases e : x.1 = k
    · rw [show decide ((x.1, x.2.1, Value.ref x.2.2).1 = k) = true from decide_eq_true e]
      rfl
    · rw [show decide ((x.1, x.2.1, Value.ref x.2.2).1 = k) = false from decide_eq_false e]
      exact ih
theorem find_none (h : k ∉ xs.map (·.1)) : (xs.find? fun q => decide (q.1 = k)) = none := by
  rw [List.find?_eq_none]
  intro q hq z
  exact h (List.mem_map.mpr ⟨q, hq, of_decide_eq_true z⟩)
theorem stored_dz (h : k ∉ xs.map (·.1)) : storedH (DZ xs) k b (Value.ref c) = DZ (xs ++ [(k, b, c)]) := by
  unfold storedH
  have e : (atKey (DZ xs) k).isSome = false := by
    rw [at_dz, find_none h]
    rfl
  rw [if_neg (by rw [e]; exact Bool.false_ne_true)]
  simp [DZ]
theorem KeysZ.same {H1 : Hp} (h : KeysZ H xs) (k : L2.Same H H1) : KeysZ H1 xs := fun q hq => (h q hq).same k
theorem KeysZ.updX {o : HO} {φ : Heap → Prop} (h : KeysZ H xs) (e : H a = some (.ext φ)) : KeysZ (upd H a o) xs := fun q hq => (h q hq).updX e
theorem KeysZ.updL {o : HO} {l : List V} (h : KeysZ H xs) (e : H a = some (.lst l)) : KeysZ (upd H a o) xs := fun q hq => by
  obtain ⟨ob, d, z⟩ := h q hq
  exact ⟨ob, d, by rw [upd_ne fun y => by rw [y, e] at z; cases z]; exact z⟩
theorem KeysZ.put (h : KeysZ H xs) (hb : TupD H b (k.map V.str)) : KeysZ H (xs ++ [(k, b, c)]) := fun q hq => by
  rcases List.mem_append.mp hq with e | e
  · exact h q e
  · rw [List.mem_singleton.mp e]
    exact hb
end
section
variable {prog : Program} {w : World} {A : Around} {E : Value → Shared → Prop} {s : Shared}
theorem meets_len_raw {d : Addr} (hd : (d == sysModules) = false) :
    MeetsIn prog w (Builtin.«dict.__len__» ⟨[.ref d], []⟩) (fun _ R s => ∃ o es ep, s.heap.get? d = some o ∧ o.data = .dict es ep ∧ R (.ok (.ret (.int es.size s.toks))) { s with toks := s.toks + 1 }) :=
  .of_wp fun A R s ⟨o, es, ep, ho, hdat, h⟩ => by
    show wpAny _ _ (dictSize d >>= _) _ _ s
    unfold dictSize
    refine wpAny_bind (wpAny_bind (wpAny_dictEntries ho hdat (wpAny_pure ?_)))
    show wpAny _ _ (Builtin.Dict.pendingCount d >>= _) _ _ s
    refine wpAny_bind (wpAny_pendingCount_other hd ?_)
    refine wpAny_ret_mkInt ?_
    rw [Nat.add_zero]
    exact h
theorem len_body_raw {d : Addr} {o : Obj} {es : Array DictEntry} {ep : Nat} {Q : Value → Shared → Prop} (hd : (d == sysModules) = false) (ho : s.heap.get? d = some o) (ht : s.TypeIs (.ref d) "dict") (hdat : o.data = .dict es ep) (hfit : (es.size : Int) < 2 ^ 63)
    (h : Q (.int es.size (s.toks + 1)) { s with toks := s.toks + 1 + 1 }) : wpAny (model prog w) A (Builtin.«len» ⟨[.ref d], []⟩) (fun fin s' => ∃ r, fin = .done (.ret r) ∧ Q r s') E s := by
  unfold Builtin.«len»
  refine wpAny_bind (m := oneArg "len" _) (wpAny_pure ?_)
  refine wpAny_bind (m := callSpecial? (.ref d) (Str.ofString "__len__")) (wpAny_callSpecial?_slot (name := Str.ofString "__len__") ht F.slot_dict_len
    (call_meetsIn F.slot_dict_len ht F.entry_dict_len (F.args_dict_len_1 _) (meets_len_raw hd) ⟨o, es, ep, ho, hdat, ?_⟩))
  show wpAny _ _ _ _ _ { s with toks := s.toks + 1 }
  refine wpAny_bind (wpAny_holding (wpAny_pure ?_))
  refine wpAny_bind (wpAny_letGo ?_)
  show wpAny _ _ (if ((es.size : Nat) : Int) < 0 then _ else _) _ _ _
  rw [if_neg (by omega)]
  show wpAny _ _ (if ((es.size : Nat) : Int) ≥ 2 ^ 63 then _ else _) _ _ _
  rw [if_neg (by omega)]
  exact wpAny_bind (wpAny_mkInt (wpAny_pure ⟨_, rfl, h⟩))
theorem call_len_raw {d : Addr} {o : Obj} {es : Array DictEntry} {ep : Nat} {Q : Value → Shared → Prop} (hd : (d == sysModules) = false) (ho : s.heap.get? d = some o) (ht : s.TypeIs (.ref d) "dict") (hdat : o.data = .dict es ep) (hfit : (es.size : Int) < 2 ^ 63)
    (h : Q (.int es.size (s.toks + 1)) { s with toks := s.toks + 1 + 1 }) : wpAny (model prog w) A (call (.builtin "len") [.ref d]) Q E s :=
  Calls.call_function_entry kind_len plain_len entry_len (args_len1 _) (len_body_raw hd ho ht hdat hfit h)
end
section
variable {X : Cx} {pos apos cpos : Pos} {o e f : Expr} {to te tf : TE}
theorem pe_kznew : PE X (.Dict [] [] pos) (fun _ H Q => ∀ p, H p = none → ∀ H', H' = upd H p (KZ X.prog X.w p []) → Q (.ref p) H') := ⟨fun pins s σ H Q I h =>
  wpAny_Dict_empty ⟨.ref s.heap.objs.size, _, I.laid (a := s.heap.objs.size) (o := KZ X.prog X.w s.heap.objs.size []) (t' := s.toks) (fun _ _ q => Heap.get?_push_of_some _ q) (Nat.le_refl _)
    (kz_ok ⟨beq_eq_false_iff_ne.mpr (Ne.symm (Nat.ne_of_lt I.big)), _, #[], 0, Heap.get?_push_size _ rfl, ⟨rfl, rfl, rfl⟩, rfl, rfl, List.nodup_nil⟩), rfl, h _ (I.hok.fresh (Nat.le_refl _)) _ rfl⟩⟩
theorem isZ_at {pins : List (Addr × Obj)} {σ : L2.St} {H : Hp} {s : Shared} {a : Addr} {xs : List Kz} (I : Inv X pins σ H s) (h : H a = some (KZ X.prog X.w a xs)) : s.TypeIs (.ref a) "dict" ∧ ∀ b, Value.ref a = .ref b → ∃ ob, s.heap.get? b = some ob ∧ ob.dict = none := by
  obtain ⟨y, o, es, ep, e, ex, dt, el, nd⟩ : KZp X.prog X.w a xs s.heap := (I.hok a _ h).1
  have raw : s.heap.DictRaw a es ep := ⟨o, e, ex, dt⟩
  exact ⟨⟨o, e, ex.1⟩, fun b eb => by cases eb; exact ⟨o, e, ex.2.1⟩⟩
/-- d.setdefault(t, x) -/
def tZset (P : Program) (w : World) (to te tf : TE) : TE := fun σ H Q => to σ H fun x H1 => ∃ a, x = .ref a ∧ (∃ xs, H1 a = some (KZ P w a xs)) ∧ te σ H1 fun y H2 => tf σ H2 fun z H3 => ∃ (xs : List Kz) (k : List Str) (b c : Addr), H3 a = some (KZ P w a xs) ∧ y = .ref b ∧ z = .ref c ∧ KeysZ H3 xs ∧ TupD H3 b (k.map V.str) ∧ xs.length ≤ 100000 ∧
  (∀ q ∈ xs, q.1 = k → Q (.ref q.2.2) H3) ∧ (k ∉ xs.map (·.1) → ∀ H', H' = upd H3 a (KZ P w a (xs ++ [(k, b, c)])) → Q (.ref c) H')
theorem pe_zset (hu : X.A.units + 1 < cLine) (ho : PE X o to) (he : PE X e te) (hf : PE X f tf) (m : M2 X o "setdefault" apos e f cpos) : PE X (.Call (.Attribute o "setdefault" apos) [e, f] [] cpos) (tZset X.prog X.w to te tf) := by
  refine ⟨fun pins s σ H Q I h => ?_⟩
  refine wpAny_Call_method m.base m.few m.line PySem.F.plainAttrs_dict PySem.F.slot_dict_setdefault PySem.F.type_dict_setdefault (thn (ho.run pins s σ H _ I h) fun u s1 ⟨x, H1, I1, rx, a, ex, ⟨xs0, d⟩, q1⟩ => ?_)
  subst ex
  obtain rfl : u = Value.ref a := rx
  obtain ⟨t1, t2⟩ := isZ_at I1 d
  refine ⟨t1, t2, ?_⟩
  rw [m.trees]
  refine Calls.callWith_builtin rfl (Calls.evalArgs_plain (Calls.spliced_cons (thn (he.run pins s1 σ H1 _ I1 q1) fun iv s2 ⟨y, H2, I2, ry, q2⟩ =>
    Calls.spliced_cons (thn (hf.run pins s2 σ H2 _ I2 q2) fun fv s3 ⟨z, H3, I3, rz, xs, k, b, c, ea, ey, ez, hk, hb, hl, q3, q4⟩ => Calls.spliced_nil ?_))))
  subst ey
  subst ez
  obtain rfl : iv = Value.ref b := ry
  obtain rfl : fv = Value.ref c := rz
  have R : KZp X.prog X.w a xs s3.heap := (I3.hok a _ ea).1
  refine call_setdefault_heap (k := k) (hsz := by unfold DZ; rw [List.length_map, sizeLine_eq]; omega) (tupleKind_room_in1 hu) (key_isD I3.hok hb) R.1 (dict_kz R hk I3.hok) (fun p hp => ?_) (fun hn h' dd' hs => ?_)
  · rw [at_dz] at hp
    cases hf : xs.find? fun q => decide (q.1 = k) with
    | none => rw [hf] at hp; cases hp
    | some q =>
      rw [hf] at hp
      cases hp
      exact ⟨.ref q.2.2, H3, I3.tok _, rfl, q3 q (List.mem_of_find?_eq_some hf) (of_decide_eq_true (p := q.1 = k) (by simpa using List.find?_some hf))⟩
  · have hn' : k ∉ xs.map (·.1) := fun z => by
      rw [at_dz] at hn
      obtain ⟨q, hq, e⟩ := List.mem_map.mp z
      cases hf : xs.find? fun q => decide (q.1 = k) with
      | none =>
        rw [List.find?_eq_none] at hf
        exact hf q hq (decide_eq_true e)
      | some q => rw [hf] at hn; cases hn
    rw [stored_dz hn'] at dd'
    obtain ⟨o, es, ep, e, ex, dt, el, _, nd⟩ := dd'
    rw [dz_keys] at nd
    exact ⟨.ref c, _, d_write I3 (by rw [ea]; exact True.intro) hs ⟨o, e⟩ (kz_ok ⟨R.1, o, es, ep, e, ex, dt, el, nd⟩), rfl, q4 hn' _ rfl⟩
/-- d.get(t, x) -/
def tZget (P : Program) (w : World) (to te tf : TE) : TE := fun σ H Q => to σ H fun x H1 => ∃ a, x = .ref a ∧ (∃ xs, H1 a = some (KZ P w a xs)) ∧ te σ H1 fun y H2 => tf σ H2 fun z H3 => ∃ (xs : List Kz) (k : List Str) (b c : Addr), H3 a = some (KZ P w a xs) ∧ y = .ref b ∧ z = .ref c ∧ KeysZ H3 xs ∧ TupD H3 b (k.map V.str) ∧ xs.length ≤ 100000 ∧
  (∀ q ∈ xs, q.1 = k → Q (.ref q.2.2) H3) ∧ (k ∉ xs.map (·.1) → Q (.ref c) H3)
theorem pe_zget (hu : X.A.units + 1 < cLine) (ho : PE X o to) (he : PE X e te) (hf : PE X f tf) (m : M2 X o "get" apos e f cpos) : PE X (.Call (.Attribute o "get" apos) [e, f] [] cpos) (tZget X.prog X.w to te tf) := by
  refine ⟨fun pins s σ H Q I h => ?_⟩
  refine wpAny_Call_method m.base m.few m.line PySem.F.plainAttrs_dict PySem.F.slot_dict_get PySem.F.type_dict_get (thn (ho.run pins s σ H _ I h) fun u s1 ⟨x, H1, I1, rx, a, ex, ⟨xs0, d⟩, q1⟩ => ?_)
  subst ex
  obtain rfl : u = Value.ref a := rx
  obtain ⟨t1, t2⟩ := isZ_at I1 d
  refine ⟨t1, t2, ?_⟩
  rw [m.trees]
  refine Calls.callWith_builtin rfl (Calls.evalArgs_plain (Calls.spliced_cons (thn (he.run pins s1 σ H1 _ I1 q1) fun iv s2 ⟨y, H2, I2, ry, q2⟩ =>
    Calls.spliced_cons (thn (hf.run pins s2 σ H2 _ I2 q2) fun fv s3 ⟨z, H3, I3, rz, xs, k, b, c, ea, ey, ez, hk, hb, hl, q3, q4⟩ => Calls.spliced_nil ?_))))
  subst ey
  subst ez
  obtain rfl : iv = Value.ref b := ry
  obtain rfl : fv = Value.ref c := rz
  have R : KZp X.prog X.w a xs s3.heap := (I3.hok a _ ea).1
  have dd := dict_kz R hk I3.hok
  refine call_meetsIn PySem.F.slot_dict_get dd.typeIs PySem.F.entry_dict_get (PySem.F.args_dict_get_3 _ _ _) (meetsH_dict_get_default (tupleKind (PySem.strKind X.prog X.w)) a b R.1 (Value.ref c)) ⟨tupleKind_room_in1 hu, k, DZ xs, key_isD I3.hok hb, dd, ?_⟩
  rw [at_dz]
  cases hf : xs.find? fun q => decide (q.1 = k) with
  | none =>
    have hn : k ∉ xs.map (·.1) := fun z => by
      obtain ⟨q, hq, e⟩ := List.mem_map.mp z
      rw [List.find?_eq_none] at hf
      exact hf q hq (decide_eq_true e)
    exact ⟨.ref c, H3, I3.tok _, rfl, q4 hn⟩
  | some q => exact ⟨.ref q.2.2, H3, I3.tok _, rfl, q3 q (List.mem_of_find?_eq_some hf) (of_decide_eq_true (p := q.1 = k) (by simpa using List.find?_some hf))⟩
/-- list(d) -/
def rListKZ (P : Program) (w : World) : List V → Hp → VK → Prop := fun vs H Q => ∃ (a : Addr) (xs : List Kz), vs = [.ref a] ∧ H a = some (KZ P w a xs) ∧ xs.length ≤ 100000 ∧ ∀ p, H p = none → Q (.ref p) (upd H p (.lst (xs.map fun q => V.ref q.2.1)))
theorem call_list_kz (hc : X.calm = true) : CallR X (.type "list") (rListKZ X.prog X.w) := by
  intro pins s σ H vs us Q I r h
  obtain ⟨a, xs, rfl, ha, few, q⟩ := h
  obtain ⟨u, rfl, rx⟩ := vals1 r
  cases rx
  obtain ⟨y, o, es, ep, e, ex, dt, el, nd⟩ : KZp X.prog X.w a xs s.heap := (I.hok a _ ha).1
  have hes : es.size = xs.length := by rw [← Array.length_toList, el, List.length_map]; simp [DZ]
  have raw : s.heap.DictRaw a es ep := ⟨o, e, ex, dt⟩
  refine PySem.W.kdl_call (KdlSrc.rawDict y) (I.ok.hd hc) raw (by rw [hes, sizeLine_eq]; omega) fun h' tk acc' c' k hD hacc => ?_
  refine ⟨.ref s.heap.objs.size, _, I.laid (t' := tk) k (Nat.le_refl _) ?_, rfl, q _ (I.hok.fresh (Nat.le_refl _))⟩
  refine ⟨by rw [List.length_map, sizeLine_eq]; omega, acc'.toList, c', ?_, by rw [Array.toArray_toList]; exact hD⟩
  have hv : Vals ((xs.map (·.2.1)).map V.ref) acc'.toList := vals_refs (by rw [Array.length_toList, hacc.1, hes, List.length_map]) fun j v hv => by
    obtain ⟨hi, ev⟩ := hacc.2 j v (by simpa using hv)
    have h1 : es.toList[j]? = some es[j] := by rw [Array.getElem?_toList]; exact Array.getElem?_eq_getElem hi
    rw [el, List.getElem?_map, DZ, List.getElem?_map] at h1
    cases hx : xs[j]? with
    | none => rw [hx] at h1; cases h1
    | some q =>
      rw [hx] at h1
      have h2 := Option.some.inj h1
      refine ⟨q.2.1, by rw [List.getElem?_map, hx]; rfl, ?_⟩
      rw [ev, ← h2]
      rfl
  rw [List.map_map] at hv
  exact hv
/-- len(d) -/
def rLenKZ (P : Program) (w : World) : List V → Hp → VK → Prop := fun vs H Q => ∃ (a : Addr) (xs : List Kz), vs = [.ref a] ∧ H a = some (KZ P w a xs) ∧ xs.length ≤ 100000 ∧ Q (.int (xs.length : Nat)) H
theorem call_len_kz : CallR X (.builtin "len") (rLenKZ X.prog X.w) := by
  intro pins s σ H vs us Q I r h
  obtain ⟨a, xs, rfl, ha, few, q⟩ := h
  obtain ⟨u, rfl, rx⟩ := vals1 r
  cases rx
  obtain ⟨t1, _⟩ := isZ_at I ha
  obtain ⟨y, o, es, ep, e, ex, dt, el, nd⟩ : KZp X.prog X.w a xs s.heap := (I.hok a _ ha).1
  have hes : es.size = xs.length := by rw [← Array.length_toList, el, List.length_map]; simp [DZ]
  refine call_len_raw y e t1 dt (by omega) ?_
  rw [hes]
  exact ⟨.int (xs.length : Nat), H, I.tok _, ⟨_, rfl⟩, q⟩
end
end Ln


set_option Elab.async false
set_option linter.all false
set_option maxRecDepth 100000
set_option maxHeartbeats 4000000
namespace Ln
open PySem PySem.Spec PyProof.Rows L2 GxR
/-! ### all lists of sides, the table of all histories -/
theorem scAllEnds : FnScope ["amount", "found", "k", "ends"] ["amount"] (defScope sAllEnds) := ⟨rfl, rfl, rfl, by decide +kernel, rfl, by decide +kernel, by decide +kernel⟩
theorem scTable : FnScope ["begin", "events", "found", "ends", "row", "gone"] ["begin", "events"] (defScope sTable) := ⟨rfl, rfl, rfl, by decide +kernel, rfl, by decide +kernel, by decide +kernel⟩
def LsB (H : Hp) (ps : List Addr) (BS : List (List Bool)) : Prop := Paired (fun p bs => H p = some (.lst (bs.map sB))) ps BS
theorem LsB.same {H H' : Hp} {ps : List Addr} {BS : List (List Bool)} (h : LsB H ps BS) (k : L2.Same H H') : LsB H' ps BS := Paired.imp h fun _ _ q => k _ _ q
theorem LsB.app {H : Hp} {ps qs : List Addr} {BS CS : List (List Bool)} (h : LsB H ps BS) (g : LsB H qs CS) : LsB H (ps ++ qs) (BS ++ CS) := by
  induction h with
  | nil => exact g
  | cons a _ ih => exact .cons a ih
theorem LsB.upd {H : Hp} {D : Addr} {o : HO} {ps : List Addr} {BS : List (List Bool)} (h : LsB H ps BS) : D ∉ ps → LsB (L2.upd H D o) ps BS := by
  induction h with
  | nil => exact fun _ => .nil
  | cons a _ ih => exact fun n => .cons ((upd_ne fun z => n (by rw [← z]; exact List.mem_cons_self)).trans a) (ih fun z => n (List.mem_cons_of_mem _ z))
/-- one half of the lists of sides -/
theorem half_lc {K : PySem.W.Frag} {Ha : Hp} {p D : Addr} {ps : List Addr} {BS : List (List Bool)} {b : Bool} {v0 v1 v2 : Option V} {Qd : Hp → Prop} (hp : Ha p = some (.lst (ps.map V.ref))) (hl : LsB Ha ps BS) (hD : Ha D = none) (hb : ∀ bs ∈ BS, bs.length ≤ 100) (hf : ps.length ≤ 900)
    (hQ : ∀ (Hb : Hp) (qs : List Addr), L2.Same Ha Hb → Hb D = some (.lst (qs.map V.ref)) → LsB Hb qs (BS.map (· ++ [b])) → Qd Hb) :
    ∃ W : Nat → Nat → Hp → Prop, (∃ m, W 0 m (upd Ha D (.lst []))) ∧ ∀ i m H, W i m H →
      ((Itl K p).stop i H ∧ Qd H) ∨ ((Itl K p).go i H ∧ ∃ Nx : Hp → Prop, (∀ H', Nx H' → ∃ m', m' < m ∧ W (i + 1) m' H') ∧ ∀ x H', (Itl K p).yld i H x H' → gName 3 x (wipe [v0, v1, v2, none] [3]) H' fun σ2 H2 => wipe σ2 [3] = wipe [v0, v1, v2, none] [3] ∧ tYes σ2 H2 fun b' H3 =>
        if b' = true then (tOp rCat (tVar 3) (tLst (tCons (tC (sB b)) tNil))) σ2 H3 fun y H4 => ∃ acc, H4 D = some (.lst acc) ∧ acc.length < sizeLine ∧ Nx (upd H4 D (.lst (acc ++ [y]))) else Nx H3) := by
  have hlen := Paired.length hl
  refine lc_list (K := K) (a := p) (xs := ps.map V.ref) (fun j Hx => L2.Same Ha Hx ∧ j ≤ ps.length ∧ ∃ qs : List Addr, D ∉ qs ∧ Hx D = some (.lst (qs.map V.ref)) ∧ qs.length = j ∧ LsB Hx qs ((BS.map (· ++ [b])).take j)) ?_ ?_ ?_ ?_
  · exact ⟨sm_new sm_refl hD, Nat.zero_le _, [], (fun z => nomatch z), upd_same, rfl, .nil⟩
  · rintro j Hx _ ⟨smx, _⟩
    exact SqL.of (smx _ _ hp)
  · rintro j y Hx hj ⟨smx, hjl, qs, hnq, hq, hql, hqs⟩
    have hlt : j < ps.length := by
      have h1 := (List.getElem?_eq_some_iff.mp hj).1
      rw [List.length_map] at h1
      exact h1
    have hbj : BS[j]? = some BS[j] := List.getElem?_eq_getElem (by omega)
    obtain ⟨t, htt, hty⟩ := pair_at hl j _ hbj
    have hy : y = .ref t := by
      rw [List.getElem?_map, htt] at hj
      exact (Option.some.inj hj).symm
    subst hy
    have hty := smx _ _ hty
    have hbl := hb _ (List.getElem_mem (show j < BS.length by omega))
    have htk : (BS.map (· ++ [b])).take (j + 1) = (BS.map (· ++ [b])).take j ++ [BS[j] ++ [b]] := by
      rw [List.take_add_one, List.getElem?_map, hbj]
      rfl
    generalize BS[j] = bs at hty hbl htk
    refine ⟨rfl, ?_⟩
    unfold tYes
    refine iteT ⟨.ref t, rfl, by show 1 ≤ sizeLine; decide, fun o ho => ?_⟩
    have k1 := sm_new (o := .lst [sB b]) (sm_refl (H := Hx)) ho
    refine ⟨t, o, _, _, rfl, rfl, k1 _ _ hty, upd_same, by rw [List.length_map, sizeLine_eq]; show _ + 1 ≤ _; omega, fun p1 hp1 => ?_⟩
    have k2 := sm_new (o := .lst (bs.map sB ++ [sB b])) k1 hp1
    have hq2 := k2 _ _ hq
    have nq : D ≠ p1 := ne_of_none (k1 _ _ hq) hp1
    refine ⟨_, hq2, by rw [List.length_map]; exact small1000 (by omega), fun c q e => by rw [upd_ne (ne_of_none e hD)]; exact k2 _ _ (smx c q e), hlt, qs ++ [p1], fun z => (List.mem_append.mp z).elim hnq fun z => nq (List.mem_singleton.mp z), by rw [upd_same, List.map_append]; rfl, by rw [List.length_append, hql]; rfl, ?_⟩
    rw [htk]
    exact LsB.app ((hqs.same k2).upd hnq) (.cons (by rw [upd_ne nq.symm, upd_same, List.map_append]; rfl) .nil)
  · rintro Hx ⟨smx, hjl, qs, hnq, hq, hql, hqs⟩
    rw [List.length_map, hlen, ← List.length_map (as := BS) (· ++ [b]), List.take_length] at hqs
    exact hQ Hx qs smx hq hqs
theorem nodup_inj {α β : Type} {f : α → β} : ∀ {l : List α}, (l.map f).Nodup → ∀ {a b : α}, a ∈ l → b ∈ l → f a = f b → a = b
  | [], _, _, _, h, _, _ => by cases h
  | x :: r, hn, a, b, ha, hb, e => by
    have h := List.nodup_cons.mp hn
    rcases List.mem_cons.mp ha with ea | ha'
    · rcases List.mem_cons.mp hb with eb | hb'
      · rw [ea, eb]
      · exact absurd (by rw [← ea, e]; exact List.mem_map.mpr ⟨b, hb', rfl⟩) h.1
    · rcases List.mem_cons.mp hb with eb | hb'
      · exact absurd (by rw [← eb, ← e]; exact List.mem_map.mpr ⟨a, ha', rfl⟩) h.1
      · exact nodup_inj h.2 ha' hb' e
theorem cp1 {α : Type} {p : α → Bool} {a : α} : [a].countP p = if p a = true then 1 else 0 := by
  rw [List.countP_cons, List.countP_nil, Nat.zero_add]
theorem pair_at' {α β : Type} {R : α → β → Prop} : ∀ {xs : List α} {ys : List β}, Paired R xs ys → ∀ (i : Nat), i < ys.length → ∃ x, xs[i]? = some x ∧ ∃ y, R x y
  | _, _, .nil, i, h => by cases h
  | _, _, .cons a t, 0, _ => ⟨_, rfl, _, a⟩
  | _, _, .cons a t, i + 1, h => pair_at' t i (Nat.lt_of_succ_lt_succ h)
section
variable {P : Program} {w : World} {K : PySem.W.Frag} {mg : Str → Option Value} {base : Heap} {Ps : List Addr}
def spAllEnds : Sp := fun vs H Q _ => ∃ n : Nat, vs = [.int n] ∧ n ≤ 8 ∧ ∀ (H' : Hp) (p : Addr) (ps : List Addr), L2.Same H H' → H p = none → H' p = some (.lst (ps.map V.ref)) → LsB H' ps (allE n) → Q (.ref p) H'
theorem ok_allEnds {f : Addr} {fd : FuncData} (F : Fun K "_law_all_ends" "_law_all_ends" sAllEnds f fd) (B2 : Bl mg) : FnOk P w K mg base CX0 1 f fd ["amount"] spAllEnds := by
  refine F.ok scAllEnds (fun vs H Q E h => ?_) (fun cdv A outer s H vs Q E hr h => ?_)
  · obtain ⟨n, rfl, _⟩ := h
    rfl
  · obtain ⟨n, rfl, hn, q⟩ := h
    refine ⟨_, (pss_cons (ps_set (i := 1) scAllEnds.nd rfl (.inl rfl) (pe_lst (pa_cons (pe_lst pa_nil) pa_nil)))
      (pss_cons (ps_for PassesOwn.never rfl (pi_range1 (by rfl) B2.rng (pa_cons (pv 0) pa_nil)) (pg_name (i := 2) scAllEnds.nd rfl (.inl rfl))
        (pss_one (ps_set (i := 1) scAllEnds.nd rfl (.inl rfl) (pe_op op_cat (pe_lc (own := [("ends", 3)]) (g := gName 3) (tt := tYes) (te := (tOp rCat (tVar 3) (tLst (tCons (tC (.str "L")) tNil)))) (by rfl) scAllEnds.nd (pi_list (pv 1)) (blkOk_by (own := [("ends", 3)]) (N := ["amount", "found", "k", "ends"]) (sc := defScope sAllEnds) (by decide +kernel)) (fun _ _ _ _ _ => (pg_name (i := 3) scAllEnds.nd rfl (Or.inl rfl))) (fun _ _ _ _ _ => pts_nil) (fun _ _ _ _ _ => (pe_op op_cat (pv 3) (pe_lst (pa_cons pe_str pa_nil))))) (pe_lc (own := [("ends", 3)]) (g := gName 3) (tt := tYes) (te := (tOp rCat (tVar 3) (tLst (tCons (tC (.str "R")) tNil)))) (by rfl) scAllEnds.nd (pi_list (pv 1)) (blkOk_by (own := [("ends", 3)]) (N := ["amount", "found", "k", "ends"]) (sc := defScope sAllEnds) (by decide +kernel)) (fun _ _ _ _ _ => (pg_name (i := 3) scAllEnds.nd rfl (Or.inl rfl))) (fun _ _ _ _ _ => pts_nil) (fun _ _ _ _ _ => (pe_op op_cat (pv 3) (pe_lst (pa_cons pe_str pa_nil)))))))))
      (pss_one (ps_ret (pv 1))))), ?_⟩
    refine ⟨Nat.zero_le _, fun o ho => ⟨by show 1 ≤ sizeLine; decide, fun p0 hp0 => ?_⟩⟩
    have sm1 : L2.Same H (upd (upd H o (.lst [])) p0 (.lst [.ref o])) := sm_new (sm_new sm_refl ho) hp0
    have e1 : (upd (upd H o (.lst [])) p0 (.lst [.ref o])) p0 = some (.lst ([o].map V.ref)) := upd_same
    have l1 : LsB (upd (upd H o (.lst [])) p0 (.lst [.ref o])) [o] (allE 0) := .cons (by rw [upd_ne (ne_of_none upd_same hp0), upd_same]; rfl) .nil
    have f1 : H p0 = none := sm_none (sm_new (o := .lst []) (sm_refl (H := H)) ho) hp0
    generalize upd (upd H o (.lst [])) p0 (.lst [.ref o]) = H1 at sm1 e1 l1 ⊢
    refine ⟨_, rfl, (n : Int), rfl, by omega, by omega, ?_⟩
    refine for_range (lo := 0) (n := _) (fun i σ H' => ∃ (p : Addr) (ps : List Addr) (v2 : Option V), σ = [some (.int n), some (.ref p), v2, none] ∧ L2.Same H H' ∧ H p = none ∧ H' p = some (.lst (ps.map V.ref)) ∧ LsB H' ps (allE i)) ?_ ?_ ?_
    · exact ⟨p0, [o], none, rfl, sm1, f1, e1, l1⟩
    · rintro i σ H' hi ⟨p, ps, v2, rfl, sm, fp, hp, hl⟩
      have hi8 : i < 8 := by omega
      have hpl : ps.length ≤ 256 := by
        rw [Paired.length hl, allE_size]
        have : 2 ^ i ≤ 2 ^ 8 := Nat.pow_le_pow_right (by decide) (by omega)
        omega
      have hbl := allE_len i
      have hbl2 : ∀ bs ∈ allE i, bs.length ≤ 100 := fun bs h => by rw [hbl bs h]; omega
      refine ⟨.ref p, rfl, p, rfl, ⟨_, SqL.of hp⟩, fun D hD => ?_⟩
      refine half_lc (b := true) hp hl hD hbl2 (by omega) fun Hb qs smb hDb hqs => ?_
      refine ⟨.ref p, rfl, p, rfl, ⟨_, SqL.of (smb _ _ hp)⟩, fun D2 hD2 => ?_⟩
      refine half_lc (b := false) (smb _ _ hp) (hl.same smb) hD2 hbl2 (by omega) fun Hc rs smc hDc hrs => ?_
      have h1 : qs.length ≤ 256 := by rw [Paired.length hqs, List.length_map, ← Paired.length hl]; exact hpl
      have h2 : rs.length ≤ 256 := by rw [Paired.length hrs, List.length_map, ← Paired.length hl]; exact hpl
      refine ⟨D, D2, _, _, rfl, rfl, smc _ _ hDb, hDc, by rw [List.length_map, List.length_map, sizeLine_eq]; omega, fun r hr => ?_⟩
      have smr := sm_new (o := .lst (qs.map V.ref ++ rs.map V.ref)) (sm_refl (H := Hc)) hr
      have smA := sm_trans sm (sm_trans smb smc)
      exact ⟨r, qs ++ rs, _, rfl, sm_trans smA smr, sm_none smA hr, by rw [upd_same, List.map_append], ((hqs.same smc).app hrs).same smr⟩
    · rintro σ H' ⟨p, ps, v2, rfl, sm, fp, hp, hl⟩
      exact ⟨_, rfl, q _ _ ps sm fp hp hl⟩
/-- the table: for each lane how many histories have given it -/
structure Tbl (H0 H : Hp) (xs : List Str) (es : List Ev) (BS : List (List Bool)) (zs : List Kz) : Prop where
  keys : KeysZ H zs
  nd : (zs.map (·.1)).Nodup
  vnd : (zs.map (·.2.2)).Nodup
  fr : ∀ q ∈ zs, H0 q.2.2 = none
  cnt : ∀ q ∈ zs, ∃ gs : List V, H q.2.2 = some (.lst gs) ∧ gs.length = BS.countP (fun bs => decide (runB xs es bs = q.1))
  all : ∀ bs ∈ BS, runB xs es bs ∈ zs.map (·.1)
  of : ∀ q ∈ zs, ∃ bs ∈ BS, runB xs es bs = q.1
  few : zs.length ≤ BS.length
def spTable (P : Program) (w : World) (K : PySem.W.Frag) : Sp := fun vs H Q _ => ∃ (a l : Addr) (xs : List Str) (as : List Addr) (es : List Ev), vs = [.ref a, .ref l] ∧ SqT K H a (xs.map V.str) ∧ SqL K H l (as.map V.ref) ∧ EvsAt K H as es ∧ vld xs.length es = true ∧ xs.length ≤ 400 ∧ es.length ≤ 8 ∧
  ∀ (H' : Hp) (p : Addr) (zs : List Kz), L2.Same H H' → H p = none → H' p = some (KZ P w p zs) → Tbl H H' xs es (allE es.length) zs → Q (.ref p) H'
theorem ok_table {f fA fP : Addr} {fd fdA fdP : FuncData} (F : Fun K "_law_table" "_law_table" sTable f fd) (B : Bi mg)
    (GA : FnOk P w K mg base CX0 1 fA fdA ["amount"] spAllEnds) (mgA : mg "_law_all_ends" = some (.ref fA)) (kA : PySem.W.keepIn K (.ref fA) = true) (bA : Binds K fdA ["amount"] [])
    (GP : FnOk P w K mg base CX0 1 fP fdP ["begin", "events", "ends"] (spPlay K)) (mgP : mg "_law_play" = some (.ref fP)) (kP : PySem.W.keepIn K (.ref fP) = true) (bP : Binds K fdP ["begin", "events", "ends"] []) : FnOk P w K mg base CX0 2 f fd ["begin", "events"] (spTable P w K) := by
  refine F.ok scTable (fun vs H Q E h => ?_) (fun cdv A outer s H vs Q E hr h => ?_)
  · obtain ⟨a, l, xs, as, es, rfl, _⟩ := h
    rfl
  · obtain ⟨a, l, xs, as, es, rfl, hA, hL, hE, hv, few1, few2, q⟩ := h
    have hr1 := hr
    have hu := hu_of hr
    refine ⟨_, (pss_cons (ps_set (i := 2) scTable.nd rfl (.inl rfl) pe_kznew)
      (pss_cons (ps_for PassesOwn.never rfl (pi_list (pe_call GA hr1 (by rfl) mgA kA bA .nil pass0 (pa_cons (pe_callB call_len_seq (by rfl) B.len PySem.boot_len (pa_cons (pv 1) pa_nil)) pa_nil))) (pg_name (i := 3) scTable.nd rfl (.inl rfl))
        (pss_cons (ps_asg (pe_call GP hr1 (by rfl) mgP kP bP .nil pass0 (pa_cons (pv 0) (pa_cons (pv 1) (pa_cons (pv 3) pa_nil)))) (pg_tup (by rfl) (pgs_cons (pg_name (i := 4) scTable.nd rfl (.inl rfl)) (pgs_cons (pg_name (i := 5) scTable.nd rfl (.inl rfl)) pgs_nil))))
        (pss_one (ps_expr (pe_bm PySem.F.plainAttrs_list PySem.F.slot_list_append PySem.F.type_list_append mt_append (pe_zset hu (pv 2) (pv 4) (pe_lst pa_nil) ⟨rfl, rfl, rfl, rfl⟩) (pa_cons (pv 5) pa_nil))))))
      (pss_one (ps_ret (pv 2))))), ?_⟩
    have hlen := Paired.length hE
    intro D hD H1 hH1
    have sm1 : L2.Same H H1 := by rw [hH1]; exact sm_new sm_refl hD
    have e1 : H1 D = some (KZ P w D []) := by rw [hH1]; exact upd_same
    have hll : (as.map V.ref).length = es.length := by rw [List.length_map, hlen]
    refine ⟨.ref l, rfl, l, as.map V.ref, rfl, .inl (sm1.seq hL), (as.map V.ref).length, rfl, by rw [hll]; exact few2, fun H2 p ps sm2 hp hp' hls => ⟨p, rfl, ⟨_, SqL.of hp'⟩, ?_⟩⟩
    rw [hll] at hls
    have sm12 := sm_trans sm1 sm2
    have e2 := sm2 _ _ e1
    have hpl := Paired.length hls
    have hsz : (allE es.length).length ≤ 256 := by
      rw [allE_size]
      have : 2 ^ es.length ≤ 2 ^ 8 := Nat.pow_le_pow_right (by decide) few2
      omega
    have hbl := allE_len es.length
    refine for_list (K := K) (a := p) (xs := ps.map V.ref) (fun i σ H' => ∃ (v3 v4 v5 : Option V) (zs : List Kz), σ = [some (.ref a), some (.ref l), some (.ref D), v3, v4, v5] ∧ L2.Same H H' ∧ i ≤ ps.length ∧ H' D = some (KZ P w D zs) ∧ H' p = some (.lst (ps.map V.ref)) ∧ LsB H' ps (allE es.length) ∧ (∀ q ∈ zs, q.2.2 ∉ ps ∧ q.2.2 ≠ p) ∧ Tbl H H' xs es ((allE es.length).take i) zs) ?_ ?_ ?_ ?_
    · exact ⟨none, none, none, [], rfl, sm12, Nat.zero_le _, e2, hp', hls, (fun q h => nomatch h), ⟨(fun q h => nomatch h), .nil, .nil, (fun q h => nomatch h), (fun q h => nomatch h), (fun bs h => nomatch h), (fun q h => nomatch h), Nat.zero_le _⟩⟩
    · rintro i σ H' _ ⟨_, _, _, _, _, _, _, _, hp'', _⟩
      exact SqL.of hp''
    · rintro i y σ H' hi ⟨v3, v4, v5, zs, rfl, sm, hil, hD', hp'', hls', hvp, tb⟩
      have hlt : i < ps.length := by
        have h1 := (List.getElem?_eq_some_iff.mp hi).1
        rw [List.length_map] at h1
        exact h1
      have hbi : (allE es.length)[i]? = some (allE es.length)[i] := List.getElem?_eq_getElem (by omega)
      obtain ⟨t, htt, hty⟩ := pair_at hls' i _ hbi
      have hy : y = .ref t := by
        rw [List.getElem?_map, htt] at hi
        exact (Option.some.inj hi).symm
      subst hy
      have hbl1 := hbl _ (List.getElem_mem (show i < (allE es.length).length by omega))
      have htk : (allE es.length).take (i + 1) = (allE es.length).take i ++ [(allE es.length)[i]] := by
        rw [List.take_add_one, hbi]
        rfl
      generalize (allE es.length)[i] = bs at hty hbl1 htk
      refine ⟨.ref a, rfl, .ref l, rfl, .ref t, rfl, a, l, t, xs, as, es, bs, rfl, .inr (sqT_sm hA sm), sm.seq hL, Paired.imp hE (fun _ _ z => sqT_sm z sm), SqL.of hty, hbl1, hv, few1, by omega, fun H3 u r g sm3 hu3 hr3 hg3 hu3' hr3' hg3' => ⟨u, _, rfl, SqT.of hu3', rfl, _, _, rfl, _, _, rfl, rfl, ?_⟩⟩
      have smX := sm_trans sm sm3
      have hD3 := sm3 _ _ hD'
      have hkz : KeysZ H3 zs := tb.keys.same sm3
      have hzl : zs.length ≤ 256 := by
        have := tb.few
        rw [List.length_take] at this
        omega
      generalize hrow : runB xs es bs = row at hr3'
      refine ⟨.ref D, rfl, D, rfl, ⟨zs, hD3⟩, _, rfl, Nat.zero_le _, fun c hc => ?_⟩
      have smc := sm_new (o := .lst []) (sm_refl (H := H3)) hc
      have smY := sm_trans smX smc
      have hD4 := smc _ _ hD3
      have hc4 : (upd H3 c (.lst [])) c = some (.lst []) := upd_same
      have hk4 := hkz.same smc
      have hr4 := hr3'.same smc
      have hc0 : H c = none := sm_none smX hc
      have hp4 := sm_trans sm3 smc _ _ hp''
      have hls4 := (hls'.same sm3).same smc
      have tb4 : ∀ q ∈ zs, ∃ gs : List V, (upd H3 c (.lst [])) q.2.2 = some (.lst gs) ∧ gs.length = ((allE es.length).take i).countP (fun bs => decide (runB xs es bs = q.1)) := fun q hq => by
        obtain ⟨gs, e, n⟩ := tb.cnt q hq
        exact ⟨gs, sm_trans sm3 smc _ _ e, n⟩
      have ncp : c ≠ p := (ne_of_none (sm3 _ _ hp'') hc).symm
      have ncps : c ∉ ps := fun z => by
        obtain ⟨j, hj, ej⟩ := List.getElem_of_mem z
        obtain ⟨t', ht', bs', e'⟩ := pair_at' (hls'.same sm3) j (by omega)
        rw [List.getElem?_eq_getElem hj, ej] at ht'
        cases ht'
        rw [hc] at e'
        cases e'
      have ncz : ∀ q ∈ zs, q.2.2 ≠ c := fun q hq z => by
        obtain ⟨gs, e, _⟩ := tb.cnt q hq
        rw [← z, sm3 _ _ e] at hc
        cases hc
      generalize upd H3 c (.lst []) = H4 at smY hD4 hc4 hk4 hr4 hp4 hls4 tb4 ⊢
      refine ⟨zs, row, r, c, hD4, rfl, rfl, hk4, hr4, by omega, fun q0 hq0 he => ?_, fun hn => ?_⟩
      · -- the lane was there
        obtain ⟨gs, hgs, hgn⟩ := tb4 q0 hq0
        have hgz : gs.length < sizeLine := by
          have h1 : ((allE es.length).take i).countP (fun bs => decide (runB xs es bs = q0.1)) ≤ ((allE es.length).take i).length := List.countP_le_length
          rw [List.length_take] at h1
          exact small1000 (by omega)
        have hv0 := tb.fr q0 hq0
        have hvq := hvp q0 hq0
        have nDv : D ≠ q0.2.2 := fun z => by
          rw [← z, hD4] at hgs
          cases hgs
        refine ⟨.inl ⟨rfl, _, SqL.of hgs⟩, _, rfl, q0.2.2, gs, _, rfl, rfl, hgs, hgz, ?_⟩
        refine ⟨_, _, _, zs, rfl, fun b o e => by rw [upd_ne (ne_of_none e hv0)]; exact smY b o e, hlt, by rw [upd_ne nDv]; exact hD4, by rw [upd_ne hvq.2.symm]; exact hp4, hls4.upd hvq.1, hvp, ?_⟩
        rw [htk]
        refine ⟨hk4.updL hgs, tb.nd, tb.vnd, tb.fr, fun q hq => ?_, fun bs' hbs => ?_, fun q hq => ?_, ?_⟩
        · by_cases e : q.2.2 = q0.2.2
          · have hqq : q = q0 := nodup_inj tb.vnd hq hq0 e
            subst hqq
            refine ⟨gs ++ [.ref g], upd_same, ?_⟩
            rw [List.length_append, List.countP_append, hgn, cp1, hrow, he, decide_eq_true rfl]
            rfl
          · obtain ⟨gs', e1, e2⟩ := tb4 q hq
            refine ⟨gs', by rw [upd_ne e]; exact e1, ?_⟩
            rw [List.countP_append, ← e2]
            have hne : ¬ row = q.1 := fun z => e (by rw [nodup_inj tb.nd hq hq0 (by rw [he, z])])
            rw [cp1, hrow, decide_eq_false hne]
            rfl
        · rcases List.mem_append.mp hbs with h | h
          · exact tb.all _ h
          · rw [List.mem_singleton.mp h, hrow, ← he]
            exact List.mem_map.mpr ⟨q0, hq0, rfl⟩
        · obtain ⟨b', h1, h2⟩ := tb.of q hq
          exact ⟨b', List.mem_append_left _ h1, h2⟩
        · have := tb.few
          rw [List.length_append]
          omega
      · intro H5 hH5
        have nDc : D ≠ c := fun z => by
          rw [z, hc4] at hD4
          cases hD4
        have e5 : ∀ b, b ≠ D → H5 b = H4 b := fun b n => by rw [hH5, upd_ne n]
        have hD5 : H5 D = some (KZ P w D (zs ++ [(row, r, c)])) := by rw [hH5]; exact upd_same
        have hc5 : H5 c = some (.lst []) := by rw [e5 c nDc.symm]; exact hc4
        have sm5 : L2.Same H H5 := fun b o e => by rw [e5 b (ne_of_none e hD)]; exact smY b o e
        have hk5 : KeysZ H5 (zs ++ [(row, r, c)]) := by
          rw [hH5]
          exact (hk4.updX hD4).put (hr4.updX hD4)
        have npD : p ≠ D := fun z => by rw [z, hD4] at hp4; cases hp4
        refine ⟨.inl ⟨rfl, _, SqL.of hc5⟩, _, rfl, c, [], _, rfl, rfl, hc5, Nat.lt_of_le_of_lt (Nat.zero_le 1000) (by rw [sizeLine_eq]; decide), ?_⟩
        have zD : ∀ q ∈ zs, q.2.2 ≠ D := fun q hq z => by
          obtain ⟨gs, e, _⟩ := tb4 q hq
          rw [z, hD4] at e
          cases e
        have hls5 : LsB H5 ps (allE es.length) := by
          rw [hH5]
          refine hls4.upd fun z => ?_
          obtain ⟨j, hj, ej⟩ := List.getElem_of_mem z
          obtain ⟨t', ht', bs', e'⟩ := pair_at' hls4 j (by omega)
          rw [List.getElem?_eq_getElem hj, ej] at ht'
          cases ht'
          rw [hD4] at e'
          cases e'
        refine ⟨_, _, _, zs ++ [(row, r, c)], rfl, fun b o e => by rw [upd_ne (ne_of_none e hc0)]; exact sm5 b o e, hlt, by rw [upd_ne nDc]; exact hD5, by rw [upd_ne ncp.symm, e5 p npD]; exact hp4, hls5.upd ncps, fun q hq => ?_, ?_⟩
        · rcases List.mem_append.mp hq with h | h
          · exact hvp q h
          · rw [List.mem_singleton.mp h]
            exact ⟨ncps, ncp⟩
        rw [htk]
        refine ⟨hk5.updL hc5, ?_, ?_, fun q hq => ?_, fun q hq => ?_, fun bs' hbs => ?_, fun q hq => ?_, ?_⟩
        · rw [List.map_append]
          exact List.nodup_append.mpr ⟨tb.nd, by simp, fun x hx y hy z => hn (by have e : y = row := List.mem_singleton.mp hy; rw [← e, ← z]; exact hx)⟩
        · rw [List.map_append]
          refine List.nodup_append.mpr ⟨tb.vnd, by simp, fun x hx y hy z => ?_⟩
          obtain ⟨q, hq, rfl⟩ := List.mem_map.mp hx
          exact ncz q hq (by rw [z, List.mem_singleton.mp hy])
        · rcases List.mem_append.mp hq with h | h
          · exact tb.fr q h
          · rw [List.mem_singleton.mp h]
            exact hc0
        · rcases List.mem_append.mp hq with h | h
          · obtain ⟨gs', e1, e2⟩ := tb4 q h
            refine ⟨gs', by rw [upd_ne (ncz q h), e5 _ (zD q h)]; exact e1, ?_⟩
            rw [List.countP_append, ← e2]
            have hne : ¬ row = q.1 := fun z => hn (by rw [z]; exact List.mem_map.mpr ⟨q, h, rfl⟩)
            rw [cp1, hrow, decide_eq_false hne]
            rfl
          · rw [List.mem_singleton.mp h]
            refine ⟨[] ++ [.ref g], upd_same, ?_⟩
            rw [List.countP_append]
            have h0 : ((allE es.length).take i).countP (fun bs => decide (runB xs es bs = row)) = 0 := by
              rw [List.countP_eq_zero]
              intro b' hb' z
              exact hn (by rw [← of_decide_eq_true z]; exact tb.all b' hb')
            rw [cp1, hrow]
            show 1 = ((allE es.length).take i).countP (fun bs => decide (runB xs es bs = row)) + (if decide (row = row) = true then 1 else 0)
            rw [h0, decide_eq_true rfl]
            rfl
        · rw [List.map_append]
          rcases List.mem_append.mp hbs with h | h
          · exact List.mem_append_left _ (tb.all _ h)
          · rw [List.mem_singleton.mp h, hrow]
            exact List.mem_append_right _ (List.mem_singleton.mpr rfl)
        · rcases List.mem_append.mp hq with h | h
          · obtain ⟨b', h1, h2⟩ := tb.of q h
            exact ⟨b', List.mem_append_left _ h1, h2⟩
          · rw [List.mem_singleton.mp h]
            exact ⟨bs, List.mem_append_right _ (List.mem_singleton.mpr rfl), hrow⟩
        · have := tb.few
          rw [List.length_append, List.length_append]
          show _ + 1 ≤ _ + 1
          omega
    · rintro σ H' ⟨v3, v4, v5, zs, rfl, sm, hil, hD', hp'', hls', hvp, tb⟩
      rw [List.length_map, hpl, List.take_length] at tb
      exact ⟨_, rfl, q _ _ zs sm hD hD' tb⟩
end
end Ln


set_option Elab.async false
set_option linter.all false
set_option maxRecDepth 100000
set_option maxHeartbeats 4000000
namespace Ln
open PySem PySem.Spec PyProof.Rows L2 GxR
structure Bb (mg : Str → Option Value) : Prop where
  boo : mg "bool" = none
def rev3 {α : Type} : List α → List α → List α
  | [], [x, y, z] => [z, y, x]
  | _, _ => []
section
variable {P : Program} {w : World} {K : PySem.W.Frag} {mg : Str → Option Value} {base : Heap} {Ps : List Addr}
def spTruth : Sp := fun vs H Q _ => ∃ (x y : Bool), vs = [.bl x, .bl y] ∧ Q (.bl (decide (x = y))) H
end
theorem laneB_of {L : List Str} (h1 : L.Nodup) (h2 : ∀ x ∈ L, carB x = true) : laneB L = true := by
  unfold laneB
  rw [Bool.and_eq_true]
  exact ⟨List.all_eq_true.mpr h2, decide_eq_true h1⟩
theorem laneAt_of {K : PySem.W.Frag} {H : Hp} {p : Addr} {L : List Str} (h : TupD H p (L.map V.str)) (h1 : L.length ≤ 400) (h2 : ∀ x ∈ L, carB x = true) : LaneAt K H p L := ⟨h.sq, h1, fun x hx => car_sz (h2 x hx)⟩
end Ln


set_option Elab.async false
set_option linter.all false
set_option maxRecDepth 100000
set_option maxHeartbeats 4000000
namespace Ln
open PySem PySem.Spec PyProof.Rows L2 GxR
theorem kitD2 {K : PySem.W.Frag} {a b c : String} {r1 r2 : Bool} (h1 : kitB a b = some r1) (h2 : kitB a c = some r2) : PySem.W.kitAny K (.type a) [.type b, .type c] = some (r1 || r2) := by
  refine kitAny_cons (kit_ty h1) (fun e => ?_) (fun e => by rw [e]; rfl)
  subst e
  refine kitAny_cons (kit_ty h2) (fun e => ?_) (fun e => by rw [e]; rfl)
  subst e
  exact kitAny_nil
end Ln


set_option Elab.async false
set_option linter.all false
set_option maxRecDepth 100000
set_option maxHeartbeats 4000000
namespace Ln
open PySem PySem.Spec PyProof.Rows L2 GxR
/-! ### _law_alike: the same value is alike -/
theorem scAlike : FnScope ["found", "due", "one", "other"] ["found", "due"] (defScope sAlike) := ⟨rfl, rfl, rfl, by decide +kernel, rfl, by decide +kernel, by decide +kernel⟩
theorem lc_zipL {K : PySem.W.Frag} {a b : Addr} {xs ys : List V} {g : TG} {tt : TT} {te : TE} {vs : List Nat} {σ : L2.St} {H1 : Hp} {D : Addr} {Qd : Hp → Prop} (hl : xs.length = ys.length) (Pv : Nat → Hp → Prop) (h0 : Pv 0 (upd H1 D (.lst []))) (hq : ∀ i H, Pv i H → SqL K H a xs ∧ SqL K H b ys)
    (hs : ∀ (i : Nat) (x y : V) (T : Addr) (H : Hp), xs[i]? = some x → ys[i]? = some y → Pv i H → H T = none → g (.ref T) (wipe σ vs) (upd H T (.tup [x, y])) fun σ2 H2 => wipe σ2 vs = wipe σ vs ∧ tt σ2 H2 fun b H3 =>
      if b = true then te σ2 H3 fun y H4 => ∃ acc, H4 D = some (.lst acc) ∧ acc.length < sizeLine ∧ Pv (i + 1) (upd H4 D (.lst (acc ++ [y]))) else Pv (i + 1) H3) (hd : ∀ H, Pv xs.length H → Qd H) :
    ∃ W : Nat → Nat → Hp → Prop, (∃ m, W 0 m (upd H1 D (.lst []))) ∧ ∀ i m H, W i m H →
      ((Itz K a b).stop i H ∧ Qd H) ∨ ((Itz K a b).go i H ∧ ∃ Nx : Hp → Prop, (∀ H', Nx H' → ∃ m', m' < m ∧ W (i + 1) m' H') ∧ ∀ x H', (Itz K a b).yld i H x H' → g x (wipe σ vs) H' fun σ2 H2 => wipe σ2 vs = wipe σ vs ∧ tt σ2 H2 fun b H3 =>
        if b = true then te σ2 H3 fun y H4 => ∃ acc, H4 D = some (.lst acc) ∧ acc.length < sizeLine ∧ Nx (upd H4 D (.lst (acc ++ [y]))) else Nx H3) := by
  refine ⟨fun i m H => m = xs.length - i ∧ i ≤ xs.length ∧ Pv i H, ⟨xs.length, rfl, Nat.zero_le _, h0⟩, ?_⟩
  rintro i m H ⟨rfl, hi, p⟩
  obtain ⟨qx, qy⟩ := hq i H p
  by_cases hlt : i < xs.length
  · have hx : xs[i]? = some xs[i] := List.getElem?_eq_getElem hlt
    have hlt2 : i < ys.length := by omega
    have hy : ys[i]? = some ys[i] := List.getElem?_eq_getElem hlt2
    refine .inr ⟨⟨xs, ys, _, _, qx, qy, hx, hy⟩, Pv (i + 1), fun H' p' => ⟨xs.length - (i + 1), by omega, rfl, hlt, p'⟩, fun v H' y => ?_⟩
    obtain ⟨T, x', y', rfl, hT, rfl, f1, f2⟩ := y
    exact hs i x' y' T H (f1 xs qx) (f2 ys qy) p hT
  · have e : i = xs.length := by omega
    subst e
    exact .inl ⟨⟨xs, ys, qx, qy, Or.inl (Nat.le_refl _)⟩, hd H p⟩
theorem lc_zipT {K : PySem.W.Frag} {a b : Addr} {xs ys : List V} {g : TG} {tt : TT} {te : TE} {vs : List Nat} {σ : L2.St} {H1 : Hp} {D : Addr} {Qd : Hp → Prop} (hl : xs.length = ys.length) (Pv : Nat → Hp → Prop) (h0 : Pv 0 (upd H1 D (.lst []))) (hq : ∀ i H, Pv i H → SqT K H a xs ∧ SqT K H b ys)
    (hs : ∀ (i : Nat) (x y : V) (T : Addr) (H : Hp), xs[i]? = some x → ys[i]? = some y → Pv i H → H T = none → g (.ref T) (wipe σ vs) (upd H T (.tup [x, y])) fun σ2 H2 => wipe σ2 vs = wipe σ vs ∧ tt σ2 H2 fun b H3 =>
      if b = true then te σ2 H3 fun y H4 => ∃ acc, H4 D = some (.lst acc) ∧ acc.length < sizeLine ∧ Pv (i + 1) (upd H4 D (.lst (acc ++ [y]))) else Pv (i + 1) H3) (hd : ∀ H, Pv xs.length H → Qd H) :
    ∃ W : Nat → Nat → Hp → Prop, (∃ m, W 0 m (upd H1 D (.lst []))) ∧ ∀ i m H, W i m H →
      ((RZ.ItzT K a b).stop i H ∧ Qd H) ∨ ((RZ.ItzT K a b).go i H ∧ ∃ Nx : Hp → Prop, (∀ H', Nx H' → ∃ m', m' < m ∧ W (i + 1) m' H') ∧ ∀ x H', (RZ.ItzT K a b).yld i H x H' → g x (wipe σ vs) H' fun σ2 H2 => wipe σ2 vs = wipe σ vs ∧ tt σ2 H2 fun b H3 =>
        if b = true then te σ2 H3 fun y H4 => ∃ acc, H4 D = some (.lst acc) ∧ acc.length < sizeLine ∧ Nx (upd H4 D (.lst (acc ++ [y]))) else Nx H3) := by
  refine ⟨fun i m H => m = xs.length - i ∧ i ≤ xs.length ∧ Pv i H, ⟨xs.length, rfl, Nat.zero_le _, h0⟩, ?_⟩
  rintro i m H ⟨rfl, hi, p⟩
  obtain ⟨qx, qy⟩ := hq i H p
  by_cases hlt : i < xs.length
  · have hx : xs[i]? = some xs[i] := List.getElem?_eq_getElem hlt
    have hlt2 : i < ys.length := by omega
    have hy : ys[i]? = some ys[i] := List.getElem?_eq_getElem hlt2
    refine .inr ⟨⟨xs, ys, _, _, qx, qy, hx, hy⟩, Pv (i + 1), fun H' p' => ⟨xs.length - (i + 1), by omega, rfl, hlt, p'⟩, fun v H' y => ?_⟩
    obtain ⟨T, x', y', rfl, hT, rfl, f1, f2⟩ := y
    exact hs i x' y' T H (f1 xs qx) (f2 ys qy) p hT
  · have e : i = xs.length := by omega
    subst e
    exact .inl ⟨⟨xs, ys, qx, qy, Or.inl (Nat.le_refl _)⟩, hd H p⟩
/-- plain data: lists and tuples of such, at most so deep -/
def plD : Nat → PyData → Bool
  | _, .none => true
  | _, .bool _ => true
  | _, .int _ => true
  | _, .str _ => true
  | j + 1, .list ds => decide (ds.length ≤ 1000) && ds.all (plD j)
  | j + 1, .tuple ds => decide (ds.length ≤ 1000) && ds.all (plD j)
  | _, _ => false
def isBoo : PyData → Bool
  | .bool _ => true
  | _ => false
theorem kit_boo : ∀ d : PyData, kitB (tyD d) "bool" = some (isBoo d)
  | .none => show kitB "NoneType" "bool" = some false by decide +kernel
  | .bool _ => show kitB "bool" "bool" = some true by decide +kernel
  | .int _ => show kitB "int" "bool" = some false by decide +kernel
  | .str _ => show kitB "str" "bool" = some false by decide +kernel
  | .list _ => show kitB "list" "bool" = some false by decide +kernel
  | .tuple _ => show kitB "tuple" "bool" = some false by decide +kernel
  | .dict _ => show kitB "dict" "bool" = some false by decide +kernel
section
variable {P : Program} {w : World} {K : PySem.W.Frag} {mg : Str → Option Value} {base : Heap} {Ps : List Addr}
def spNoA : Sp := fun _ _ _ _ => False
theorem noA_ok {n : Nat} {f : Addr} {fd : FuncData} {ps : List Str} : FnOk P w K mg base CX0 n f fd ps spNoA := ⟨fun _ _ _ _ h => h.elim, fun _ _ _ _ _ _ _ _ _ _ _ _ _ h => h.elim⟩
def spAlike (K : PySem.W.Frag) (j : Nat) : Sp := fun vs H Q _ => ∃ (v u : V) (d : PyData), vs = [v, u] ∧ Dv K H v d ∧ Dv K H u d ∧ plD j d = true ∧ ∀ H', L2.Same H H' → Q (.bl true) H'
theorem ok_alikeG {n j : Nat} {sp' : Sp} {f0 : Addr} {fd : FuncData} (F : Fun K "_law_alike" "_law_alike" sAlike f0 fd) (B : Bi mg) (BB : Bb mg)
    (GS : FnOk P w K mg base CX0 n f0 fd ["found", "due"] sp') (hsp : ∀ i, j = i + 1 → ∀ vs H Q, spAlike K i vs H Q E0 → sp' vs H Q E0) (mgS : mg "_law_alike" = some (.ref f0)) (kS : PySem.W.keepIn K (.ref f0) = true) (bS : Binds K fd ["found", "due"] []) :
    FnOk P w K mg base CX0 (n + 1) f0 fd ["found", "due"] (spAlike K j) := by
  refine F.ok scAlike (fun vs H Q E h => ?_) (fun cdv A outer s H vs Q E hr h => ?_)
  · obtain ⟨v, u, d, rfl, _⟩ := h
    rfl
  · obtain ⟨v, u, d, rfl, hv, hd, hp, q⟩ := h
    refine ⟨_, (pss_cons (ps_if (pt_val (pe_callB call_isiT (by rfl) B.isi (by decide +kernel) (pa_cons (pv 1) (pa_cons (pe_tup (pa_cons (pe_bltn (by rfl) B.lst (by decide +kernel) (v := .ty "list") rfl) (pa_cons (pe_bltn (by rfl) B.tup (by decide +kernel) (v := .ty "tuple") rfl) pa_nil))) pa_nil))))
        (pss_cons (ps_if (PW.pt (pw_or (pt_cmpR op_ne (pe_callB call_isi (by rfl) B.isi (by decide +kernel) (pa_cons (pv 0) (pa_cons (pe_bltn (by rfl) B.lst (by decide +kernel) (v := .ty "list") rfl) pa_nil))) (pe_callB call_isi (by rfl) B.isi (by decide +kernel) (pa_cons (pv 1) (pa_cons (pe_bltn (by rfl) B.lst (by decide +kernel) (v := .ty "list") rfl) pa_nil))) (nomark _)) (pw_or1 (pt_cmpR op_ne (pe_callB call_isi (by rfl) B.isi (by decide +kernel) (pa_cons (pv 0) (pa_cons (pe_bltn (by rfl) B.tup (by decide +kernel) (v := .ty "tuple") rfl) pa_nil))) (pe_callB call_isi (by rfl) B.isi (by decide +kernel) (pa_cons (pv 1) (pa_cons (pe_bltn (by rfl) B.tup (by decide +kernel) (v := .ty "tuple") rfl) pa_nil))) (nomark _)))))
          (pss_one (ps_ret pe_bl))
          pss_nil)
        (pss_one (ps_ret (pe_and (pe_cmpR op_eq (pe_callB call_len_seq (by rfl) B.len PySem.boot_len (pa_cons (pv 0) pa_nil)) (pe_callB call_len_seq (by rfl) B.len PySem.boot_len (pa_cons (pv 1) pa_nil)) (nomark _)) (pe_one (pe_callB (cr_all rfl) (by rfl) B.all (by decide +kernel) (pa_cons (pe_lc (own := [("one", 2), ("other", 3)]) (g := gTup K 2 (gCons (gName 2) (gCons (gName 3) gNil))) (tt := tYes) (te := tCall sp' [] E0 (tCons (tVar 2) (tCons (tVar 3) tNil))) (by rfl) scAlike.nd (RZ.pi_zipA (by rfl) B.zip (pa_cons (pv 0) (pa_cons (pv 1) pa_nil))) (blkOk_by (own := [("one", 2), ("other", 3)]) (N := ["found", "due", "one", "other"]) (sc := defScope sAlike) (by decide +kernel)) (fun _ _ _ _ _ => (pg_tup rfl (pgs_cons (pg_name (i := 2) scAlike.nd rfl (Or.inl rfl)) (pgs_cons (pg_name (i := 3) scAlike.nd rfl (Or.inl rfl)) pgs_nil)))) (fun _ _ _ _ _ => pts_nil) (fun _ _ _ _ _ => (pe_call GS hr (by rfl) mgS kS bS .nil pass0 (pa_cons (pv 2) (pa_cons (pv 3) pa_nil))))) pa_nil)))))))
        pss_nil)
      (pss_cons (ps_if (PW.pt (pw_or (pt_cmpR op_isN1 (pv 0) pe_non (nomark _)) (pw_or1 (pt_cmpR op_isN1 (pv 1) pe_non (nomark _)))))
        (pss_one (ps_ret (pe_and (pe_cmpR op_isN1 (pv 0) pe_non (nomark _)) (pe_one (pe_cmpR op_isN1 (pv 1) pe_non (nomark _))))))
        pss_nil)
      (pss_one (ps_ret (pe_and (pe_cmpR op_eq (pe_callB call_isi (by rfl) B.isi (by decide +kernel) (pa_cons (pv 0) (pa_cons (pe_bltn (by rfl) BB.boo (by decide +kernel) (v := .ty "bool") rfl) pa_nil))) (pe_callB call_isi (by rfl) B.isi (by decide +kernel) (pa_cons (pv 1) (pa_cons (pe_bltn (by rfl) BB.boo (by decide +kernel) (v := .ty "bool") rfl) pa_nil))) (nomark _)) (pe_one (pe_cmpR op_eq (pv 0) (pv 1) (nomark _)))))))), ?_⟩
    refine ⟨u, rfl, by show 2 ≤ sizeLine; decide, fun e he => ⟨u, e, [.ty "list", .ty "tuple"], .type (tyD d), [.type "list", .type "tuple"], (isLst d || isTup d), rfl, upd_same, .cons (.ty _) (.cons (.ty _) .nil), (hd.same (sm_new (sm_refl (H := H)) he)).ty, kitD2 (kit_lst d) (kit_tup d), _, rfl, ?_⟩⟩
    have k0 : L2.Same H (upd H e (.tup [.ty "list", .ty "tuple"])) := sm_new sm_refl he
    generalize upd H e (.tup [.ty "list", .ty "tuple"]) = H0 at k0 ⊢
    have hv := hv.same k0
    have hd := hd.same k0
    have q : ∀ H', L2.Same H0 H' → Q (.bl true) H' := fun H' k => q H' (sm_trans k0 k)
    have hd0 := hd
    have hv0 := hv
    cases hd with
    | non =>
      cases hv
      refine iteF ⟨_, rfl, rfl, true, congrArg V.bl (decide_eq_true rfl), iteT ⟨_, rfl, rfl, true, congrArg V.bl (decide_eq_true rfl), iteT ⟨_, rfl, rfl, ?_⟩⟩⟩
      rw [decide_eq_true rfl]
      exact q _ sm_refl
    | bl b =>
      cases hv
      refine iteF ⟨_, rfl, rfl, false, congrArg V.bl (decide_eq_false fun z => nomatch z), iteF ⟨_, rfl, rfl, false, congrArg V.bl (decide_eq_false fun z => nomatch z), iteF ?_⟩⟩
      refine ⟨_, rfl, _, .ty "bool", .type (tyD (.bool b)), .type "bool", isBoo (.bool b), rfl, .ty _, hd0.ty, kit_ty (kit_boo _), _, rfl, _, .ty "bool", .type (tyD (.bool b)), .type "bool", isBoo (.bool b), rfl, .ty _, hd0.ty, kit_ty (kit_boo _), rfl, true, congrArg V.bl (decide_eq_true rfl), iteT ⟨_, rfl, _, rfl, rfl, ?_⟩⟩
      rw [decide_eq_true rfl]
      exact q _ sm_refl
    | int i =>
      cases hv
      refine iteF ⟨_, rfl, rfl, false, congrArg V.bl (decide_eq_false fun z => nomatch z), iteF ⟨_, rfl, rfl, false, congrArg V.bl (decide_eq_false fun z => nomatch z), iteF ?_⟩⟩
      refine ⟨_, rfl, _, .ty "bool", .type (tyD (.int i)), .type "bool", isBoo (.int i), rfl, .ty _, hd0.ty, kit_ty (kit_boo _), _, rfl, _, .ty "bool", .type (tyD (.int i)), .type "bool", isBoo (.int i), rfl, .ty _, hd0.ty, kit_ty (kit_boo _), rfl, true, congrArg V.bl (decide_eq_true rfl), iteT ⟨_, rfl, _, rfl, rfl, ?_⟩⟩
      rw [decide_eq_true rfl]
      exact q _ sm_refl
    | str x hx =>
      cases hv
      refine iteF ⟨_, rfl, rfl, false, congrArg V.bl (decide_eq_false fun z => nomatch z), iteF ⟨_, rfl, rfl, false, congrArg V.bl (decide_eq_false fun z => nomatch z), iteF ?_⟩⟩
      refine ⟨_, rfl, _, .ty "bool", .type (tyD (.str x)), .type "bool", isBoo (.str x), rfl, .ty _, hd0.ty, kit_ty (kit_boo _), _, rfl, _, .ty "bool", .type (tyD (.str x)), .type "bool", isBoo (.str x), rfl, .ty _, hd0.ty, kit_ty (kit_boo _), rfl, true, congrArg V.bl (decide_eq_true rfl), iteT ⟨_, rfl, _, rfl, rfl, ?_⟩⟩
      rw [decide_eq_true rfl]
      exact q _ sm_refl
    | @lst b ys ds hS2 hA2 =>
      obtain ⟨a, xs, rfl, hS1, hA1⟩ : ∃ a xs, v = .ref a ∧ SqL K H0 a xs ∧ DvAll K H0 xs ds := by
        cases hv with
        | lst h1 h2 => exact ⟨_, _, rfl, h1, h2⟩
      obtain ⟨i, rfl, hpl, hpa⟩ : ∃ i, j = i + 1 ∧ ds.length ≤ 1000 ∧ ∀ d ∈ ds, plD i d = true := by
        cases j with
        | zero => cases hp
        | succ i =>
          have hp : (decide (ds.length ≤ 1000) && ds.all (plD i)) = true := hp
          rw [Bool.and_eq_true] at hp
          exact ⟨i, rfl, of_decide_eq_true hp.1, List.all_eq_true.mp hp.2⟩
      have l1 := hA1.len
      have l2 := hA2.len
      refine iteT ⟨_, rfl, _, .ty "list", .type "list", .type "list", true, rfl, .ty _, hv0.ty, kit_ty (kit_lst (.list ds)), _, rfl, _, .ty "list", .type "list", .type "list", true, rfl, .ty _, hd0.ty, kit_ty (kit_lst (.list ds)), rfl, false, by rw [decide_eq_true rfl]; rfl, iteF ?_⟩
      refine ⟨_, rfl, _, .ty "tuple", .type "list", .type "tuple", false, rfl, .ty _, hv0.ty, kit_ty (kit_tup (.list ds)), _, rfl, _, .ty "tuple", .type "list", .type "tuple", false, rfl, .ty _, hd0.ty, kit_ty (kit_tup (.list ds)), rfl, false, by rw [decide_eq_true rfl]; rfl, iteF ?_⟩
      refine ⟨_, rfl, a, xs, rfl, .inl hS1, _, rfl, b, ys, rfl, .inl hS2, rfl, true, congrArg V.bl (decide_eq_true (by rw [l1, l2])), iteT ⟨_, rfl, _, rfl, a, b, xs, ys, rfl, .inl ⟨hS1, hS2, fun D hD => ?_⟩⟩⟩
      refine lc_zipL (K := K) (a := a) (b := b) (xs := xs) (ys := ys) (by rw [l1, l2]) (fun i' H' => L2.Same H0 H' ∧ ∃ bs : List Bool, bs.length = i' ∧ i' ≤ ds.length ∧ H' D = some (.lst (bs.map V.bl)) ∧ ∀ z ∈ bs, z = true) ?_ ?_ ?_ ?_
      · exact ⟨sm_new sm_refl hD, [], rfl, Nat.zero_le _, upd_same, fun z h => nomatch h⟩
      · rintro i' H' ⟨sm, _⟩
        exact ⟨sqL_sm hS1 sm, sqL_sm hS2 sm⟩
      · rintro i' x y T H' hx hy ⟨sm, bs, hbl, hil, hD', hbs⟩ hT
        have hlt : i' < ds.length := by
          have := (List.getElem?_eq_some_iff.mp hx).1
          omega
        have hdi : ds[i']? = some ds[i'] := List.getElem?_eq_getElem hlt
        obtain ⟨x', hx', dx⟩ := hA1.at_ hdi
        obtain rfl : x' = x := Option.some.inj (hx'.symm.trans hx)
        obtain ⟨y', hy', dy⟩ := hA2.at_ hdi
        obtain rfl : y' = y := Option.some.inj (hy'.symm.trans hy)
        have hpi := hpa _ (List.getElem_mem hlt)
        generalize ds[i'] = dd at dx dy hpi
        have smT := sm_new (o := .tup [x', y']) sm hT
        have hDT : (upd H' T (.tup [x', y'])) D = some (.lst (bs.map V.bl)) := by rw [upd_ne (ne_of_none hD' hT)]; exact hD'
        refine ⟨T, _, rfl, .inl (.inl upd_same), rfl, _, _, rfl, _, _, rfl, rfl, rfl, ?_⟩
        generalize upd H' T (.tup [x', y']) = Ha at smT hDT ⊢
        unfold tYes
        refine iteT ⟨_, rfl, _, rfl, hsp i rfl _ _ _ ⟨x', y', dd, rfl, dx.same smT, dy.same smT, hpi, fun Hb kb => ?_⟩⟩
        refine ⟨_, kb _ _ hDT, by rw [List.length_map]; rw [sizeLine_eq]; omega, fun c o e => by rw [upd_ne (ne_of_none e hD)]; exact kb _ _ (smT c o e), bs ++ [true], by rw [List.length_append, hbl]; rfl, hlt, by rw [upd_same, List.map_append]; rfl, fun z h => ?_⟩
        rcases List.mem_append.mp h with h | h
        · exact hbs z h
        · exact List.mem_singleton.mp h
      · rintro H' ⟨sm, bs, hbl, hil, hD', hbs⟩
        refine ⟨D, bs, rfl, SqL.of hD', ?_⟩
        have : bs.all id = true := List.all_eq_true.mpr fun z h => hbs z h
        rw [this]
        exact q H' sm
    | @tup b ys ds hS2 hA2 =>
      obtain ⟨a, xs, rfl, hS1, hA1⟩ : ∃ a xs, v = .ref a ∧ SqT K H0 a xs ∧ DvAll K H0 xs ds := by
        cases hv with
        | tup h1 h2 => exact ⟨_, _, rfl, h1, h2⟩
      obtain ⟨i, rfl, hpl, hpa⟩ : ∃ i, j = i + 1 ∧ ds.length ≤ 1000 ∧ ∀ d ∈ ds, plD i d = true := by
        cases j with
        | zero => cases hp
        | succ i =>
          have hp : (decide (ds.length ≤ 1000) && ds.all (plD i)) = true := hp
          rw [Bool.and_eq_true] at hp
          exact ⟨i, rfl, of_decide_eq_true hp.1, List.all_eq_true.mp hp.2⟩
      have l1 := hA1.len
      have l2 := hA2.len
      refine iteT ⟨_, rfl, _, .ty "list", .type "tuple", .type "list", false, rfl, .ty _, hv0.ty, kit_ty (kit_lst (.tuple ds)), _, rfl, _, .ty "list", .type "tuple", .type "list", false, rfl, .ty _, hd0.ty, kit_ty (kit_lst (.tuple ds)), rfl, false, by rw [decide_eq_true rfl]; rfl, iteF ?_⟩
      refine ⟨_, rfl, _, .ty "tuple", .type "tuple", .type "tuple", true, rfl, .ty _, hv0.ty, kit_ty (kit_tup (.tuple ds)), _, rfl, _, .ty "tuple", .type "tuple", .type "tuple", true, rfl, .ty _, hd0.ty, kit_ty (kit_tup (.tuple ds)), rfl, false, by rw [decide_eq_true rfl]; rfl, iteF ?_⟩
      refine ⟨_, rfl, a, xs, rfl, .inr hS1, _, rfl, b, ys, rfl, .inr hS2, rfl, true, congrArg V.bl (decide_eq_true (by rw [l1, l2])), iteT ⟨_, rfl, _, rfl, a, b, xs, ys, rfl, .inr ⟨hS1, hS2, fun D hD => ?_⟩⟩⟩
      refine lc_zipT (K := K) (a := a) (b := b) (xs := xs) (ys := ys) (by rw [l1, l2]) (fun i' H' => L2.Same H0 H' ∧ ∃ bs : List Bool, bs.length = i' ∧ i' ≤ ds.length ∧ H' D = some (.lst (bs.map V.bl)) ∧ ∀ z ∈ bs, z = true) ?_ ?_ ?_ ?_
      · exact ⟨sm_new sm_refl hD, [], rfl, Nat.zero_le _, upd_same, fun z h => nomatch h⟩
      · rintro i' H' ⟨sm, _⟩
        exact ⟨sqT_sm hS1 sm, sqT_sm hS2 sm⟩
      · rintro i' x y T H' hx hy ⟨sm, bs, hbl, hil, hD', hbs⟩ hT
        have hlt : i' < ds.length := by
          have := (List.getElem?_eq_some_iff.mp hx).1
          omega
        have hdi : ds[i']? = some ds[i'] := List.getElem?_eq_getElem hlt
        obtain ⟨x', hx', dx⟩ := hA1.at_ hdi
        obtain rfl : x' = x := Option.some.inj (hx'.symm.trans hx)
        obtain ⟨y', hy', dy⟩ := hA2.at_ hdi
        obtain rfl : y' = y := Option.some.inj (hy'.symm.trans hy)
        have hpi := hpa _ (List.getElem_mem hlt)
        generalize ds[i'] = dd at dx dy hpi
        have smT := sm_new (o := .tup [x', y']) sm hT
        have hDT : (upd H' T (.tup [x', y'])) D = some (.lst (bs.map V.bl)) := by rw [upd_ne (ne_of_none hD' hT)]; exact hD'
        refine ⟨T, _, rfl, .inl (.inl upd_same), rfl, _, _, rfl, _, _, rfl, rfl, rfl, ?_⟩
        generalize upd H' T (.tup [x', y']) = Ha at smT hDT ⊢
        unfold tYes
        refine iteT ⟨_, rfl, _, rfl, hsp i rfl _ _ _ ⟨x', y', dd, rfl, dx.same smT, dy.same smT, hpi, fun Hb kb => ?_⟩⟩
        refine ⟨_, kb _ _ hDT, by rw [List.length_map]; rw [sizeLine_eq]; omega, fun c o e => by rw [upd_ne (ne_of_none e hD)]; exact kb _ _ (smT c o e), bs ++ [true], by rw [List.length_append, hbl]; rfl, hlt, by rw [upd_same, List.map_append]; rfl, fun z h => ?_⟩
        rcases List.mem_append.mp h with h | h
        · exact hbs z h
        · exact List.mem_singleton.mp h
      · rintro H' ⟨sm, bs, hbl, hil, hD', hbs⟩
        refine ⟨D, bs, rfl, SqL.of hD', ?_⟩
        have : bs.all id = true := List.all_eq_true.mpr fun z h => hbs z h
        rw [this]
        exact q H' sm
    | dic h => cases j <;> cases hp
theorem ok_alike {f0 : Addr} {fd : FuncData} (F : Fun K "_law_alike" "_law_alike" sAlike f0 fd) (B : Bi mg) (BB : Bb mg)
    (mgS : mg "_law_alike" = some (.ref f0)) (kS : PySem.W.keepIn K (.ref f0) = true) (bS : Binds K fd ["found", "due"] []) : FnOk P w K mg base CX0 4 f0 fd ["found", "due"] (spAlike K 3) := by
  have g0 : FnOk P w K mg base CX0 1 f0 fd ["found", "due"] (spAlike K 0) := ok_alikeG (n := 0) (j := 0) F B BB noA_ok (fun i e => by omega) mgS kS bS
  have g1 : FnOk P w K mg base CX0 2 f0 fd ["found", "due"] (spAlike K 1) := ok_alikeG (n := 1) (j := 1) (sp' := spAlike K 0) F B BB g0 (fun i e vs H Q h => by have z : i = 0 := (by omega); subst z; exact h) mgS kS bS
  have g2 : FnOk P w K mg base CX0 3 f0 fd ["found", "due"] (spAlike K 2) := ok_alikeG (n := 2) (j := 2) (sp' := spAlike K 1) F B BB g1 (fun i e vs H Q h => by have z : i = 1 := (by omega); subst z; exact h) mgS kS bS
  exact ok_alikeG (n := 3) (j := 3) (sp' := spAlike K 2) F B BB g2 (fun i e vs H Q h => by have z : i = 2 := (by omega); subst z; exact h) mgS kS bS
end
end Ln


set_option Elab.async false
set_option linter.all false
set_option maxRecDepth 100000
set_option maxHeartbeats 4000000
namespace Ln
open PySem PySem.Spec PyProof.Rows L2 GxR
/-! ### the second family's helpers: a small log, drawn lanes -/
/-- t[lo:hi] of a tuple without attributes, the whole too -/
def rSlB (K : PySem.W.Frag) : V → Option Int → Option Int → Hp → VK → Prop := fun x lo hi H Q => ∃ a xs, x = .ref a ∧ TupD H a xs ∧
  ∀ (H' : Hp) (p : Addr), ((p = a ∧ H' = H) ∨ ∃ ob, H p = none ∧ H' = upd H p (.frz ob (.tup (cutV xs lo hi)))) → TupD H' p (cutV xs lo hi) → Q (.ref p) H'
theorem cut_whole {xs : List V} {lo hi : Option Int} (h : HT.sIx xs.length 0 lo = 0 ∧ HT.sIx xs.length xs.length hi = xs.length) : cutV xs lo hi = xs := by
  unfold cutV
  rw [h.1, h.2, List.drop_zero, Nat.sub_zero, List.take_length]
theorem sl_tupB {X : Cx} : SlR X (rSlB X.K) := by
  intro pins s σ H x v vl vu lo hi sl Q I rx hs pl pu h
  obtain ⟨a, xs, rfl, hx, q⟩ := h
  by_cases hw : HT.sIx xs.length 0 lo = 0 ∧ HT.sIx xs.length xs.length hi = xs.length
  · have hx' : SqT X.K H a xs := hx.sq
    cases rx
    obtain ⟨its, r, ht, hz⟩ := I.tuple hx'
    have hlen : its.toArray.size = xs.length := by rw [List.size_toArray]; exact r.length.symm
    refine ⟨"tuple", _, PyProof.Rows.slot_tuple_getitem.lookup, ht.typeIs, ?_⟩
    exact getItem_tuple_whole ht hs pl pu (by rw [hlen]; exact hw) ⟨.ref a, H, I, rfl, q H a (.inl ⟨rfl, rfl⟩) (by rw [cut_whole hw]; exact hx)⟩
  · exact sl_tupD pins s σ H _ v vl vu lo hi sl Q I rx hs pl pu ⟨a, xs, rfl, hx.sq, hw, fun p ob d hp => q _ p (.inr ⟨ob, hp, rfl⟩) ⟨ob, d, upd_same⟩⟩
/-- what stands but the source, and the source itself -/
theorem slB_ch {s p a : Addr} {H0 H H' : Hp} {l : List V} {xs : List V} {lo hi : Option Int} (c : Ch s H0 H) (hs : H s = some (.lst l)) (h : (p = a ∧ H' = H) ∨ ∃ ob, H p = none ∧ H' = upd H p (.frz ob (.tup (cutV xs lo hi)))) : Ch s H0 H' ∧ L2.Same H H' := by
  rcases h with ⟨_, rfl⟩ | ⟨ob, hp, rfl⟩
  · exact ⟨c, sm_refl⟩
  · exact ⟨c.sm (sm_new sm_refl hp), sm_new sm_refl hp⟩
theorem scSmall2 : FnScope ["source", "most", "names", "begin"] ["source", "most"] (defScope sSmall2) := ⟨rfl, rfl, rfl, by decide +kernel, rfl, by decide +kernel, by decide +kernel⟩
theorem scOthers : FnScope ["source", "begin", "events", "size", "amount", "people", "k"] ["source", "begin", "events", "size", "amount"] (defScope sOthers) := ⟨rfl, rfl, rfl, by decide +kernel, rfl, by decide +kernel, by decide +kernel⟩
section
variable {P : Program} {w : World} {K : PySem.W.Frag} {mg : Str → Option Value} {base : Heap} {Ps : List Addr}
/-- a lane and a log for it, with the source behind them -/
structure Sml (H H' : Hp) (s t b o : Addr) (xs : List Str) (as : List Addr) (es : List Ev) (l' : List V) (n most : Nat) : Prop where
  ch : Ch s H H'
  ft : H t = none
  tup : H' t = some (.tup [.ref b, .ref o])
  lane : TupD H' b (xs.map V.str)
  lst : H' o = some (.lst (as.map V.ref))
  evs : EvT H' as es
  fl : ∀ a ∈ as, H a = none
  fo : H o = none
  few : xs.length ≤ 3
  el : es.length ≤ most
  cars : laneB xs = true
  log : logB xs xs.length es = true
  src : H' s = some (.lst l')
  dr : SrcV (n + 300) l'
def spSmall2 : Sp := fun vs H Q _ => ∃ (s : Addr) (l : List V) (n most : Nat), vs = [.ref s, .int most] ∧ H s = some (.lst l) ∧ SrcV n l ∧ n + 600 ≤ 1000000 ∧ most ≤ 8 ∧
  ∀ (H' : Hp) (t b o : Addr) (xs : List Str) (as : List Addr) (es : List Ev) (l' : List V), Sml H H' s t b o xs as es l' n most → Q (.ref t) H'
theorem ok_small2 {f fN fD fE : Addr} {fd fdN fdD fdE : FuncData} (F : Fun K "_law_small" "_law_small" sSmall2 f fd) (B : Bi mg)
    (GN : FnOk P w K mg base CX0 3 fN fdN ["source", "amount"] spNames2) (mgN : mg "_law_names" = some (.ref fN)) (kN : PySem.W.keepIn K (.ref fN) = true) (bN : Binds K fdN ["source", "amount"] [])
    (GD : FnOk P w K mg base CX0 1 fD fdD ["source", "bound"] spDraw) (mgD : mg "_law_draw" = some (.ref fD)) (kD : PySem.W.keepIn K (.ref fD) = true) (bD : Binds K fdD ["source", "bound"] [])
    (GE : FnOk P w K mg base CX0 2 fE fdE ["source", "size", "names", "most", "room"] (spEvents K)) (mgE : mg "_law_events" = some (.ref fE)) (kE : PySem.W.keepIn K (.ref fE) = true) (bE : Binds K fdE ["source", "size", "names", "most", "room"] []) : FnOk P w K mg base CX0 4 f fd ["source", "most"] spSmall2 := by
  refine F.ok scSmall2 (fun vs H Q E h => ?_) (fun cdv A outer s H vs Q E hr h => ?_)
  · obtain ⟨s0, l, n, most, rfl, _⟩ := h
    rfl
  · obtain ⟨s0, l, n, most, rfl, hs, hl, hn, hm, q⟩ := h
    have hr1 := hr.mono (show 1 ≤ 3 by decide)
    have hr2 := hr.mono (show 2 ≤ 3 by decide)
    refine ⟨_, (pss_cons (ps_set (i := 2) scSmall2.nd rfl (.inl rfl) (pe_call GN hr (by rfl) mgN kN bN .nil pass0 (pa_cons (pv 0) (pa_cons (pe_op op_add pe_int (pv 1)) pa_nil))))
      (pss_cons (ps_set (i := 3) scSmall2.nd rfl (.inl rfl) (pe_slice sl_tupB (pv 2) po_none (po_some (pe_call GD hr1 (by rfl) mgD kD bD .nil pass0 (pa_cons (pv 0) (pa_cons pe_int pa_nil))))))
      (pss_one (ps_ret (pe_tup (pa_cons (pv 3) (pa_cons (pe_call GE hr2 (by rfl) mgE kE bE .nil pass0 (pa_cons (pv 0) (pa_cons (pe_callB call_len_seq (by rfl) B.len PySem.boot_len (pa_cons (pv 3) pa_nil)) (pa_cons (pe_slice sl_tupB (pv 2) (po_some pe_int) po_none) (pa_cons (pv 1) (pa_cons pe_int pa_nil)))))) pa_nil))))))), ?_⟩
    refine ⟨.ref s0, rfl, _, rfl, _, _, rfl, rfl, s0, l, n, 3 + most, by rw [Int.natCast_add]; rfl, hs, hl, by omega, by omega, fun H1 p ys l1 ch1 hp hyl hyc hyn hl1 hs1 hp1 => ?_⟩
    have nps : p ≠ s0 := fun z => by rw [z, hs] at hp; cases hp
    refine ⟨.ref p, rfl, .ref s0, rfl, s0, l1, n + 1 + (3 + most), 4, rfl, hs1, hl1, by omega, by decide, by decide, fun l2 r hl2 h0 h4 => ?_⟩
    obtain ⟨k, rfl⟩ : ∃ k : Nat, r = (k : Int) := ⟨r.toNat, by omega⟩
    have ch2 : Ch s0 H (upd H1 s0 (.lst l2)) := ch1.trans Ch.src
    have hs2 : (upd H1 s0 (.lst l2)) s0 = some (.lst l2) := upd_same
    have hp2 : TupD (upd H1 s0 (.lst l2)) p (ys.map V.str) := by
      obtain ⟨ob, d, e⟩ := hp1
      exact ⟨ob, d, by rw [upd_ne nps]; exact e⟩
    generalize upd H1 s0 (.lst l2) = H2 at ch2 hs2 hp2 ⊢
    refine ⟨(k : Int), rfl, p, _, rfl, hp2, fun H3 b hb3 hb3' => ?_⟩
    obtain ⟨ch3, sm3⟩ := slB_ch ch2 hs2 hb3
    rw [cut_pt, ← List.map_take] at hb3'
    have hs3 := sm3 _ _ hs2
    have hp3 := hp2.same sm3
    have nbs : b ≠ s0 := fun z => by
      obtain ⟨ob, d, e⟩ := hb3'
      rw [z, hs3] at e
      cases e
    have hkl : (ys.take k).length = min k ys.length := List.length_take
    refine ⟨.ref b, rfl, .ref s0, rfl, .ref b, rfl, b, _, rfl, .inr hb3'.sq, .ref p, rfl, 3, rfl, p, _, rfl, hp3, fun H4 p4 h4 h4' => ?_⟩
    obtain ⟨ch4, sm4⟩ := slB_ch ch3 hs3 h4
    have e3 : cutV (ys.map V.str) (some 3) none = (ys.drop 3).map V.str := by
      rw [show (3 : Int) = ((3 : Nat) : Int) from rfl, cut_pd, List.map_drop]
    rw [e3] at h4'
    have hs4 := sm4 _ _ hs3
    have n4s : p4 ≠ s0 := fun z => by
      obtain ⟨ob, d, e⟩ := h4'
      rw [z, hs4] at e
      cases e
    refine ⟨_, rfl, s0, p4, l2, n + 1 + (3 + most) + 1, ((ys.take k).map V.str).length, most, 9, ys.drop 3, rfl, hs4, hl2, by omega, by omega, by rw [List.length_map]; omega, .inr h4'.sq, n4s, by rw [List.length_drop]; omega, fun z hz => List.all_eq_true.mp hyc z (List.mem_of_mem_drop hz), fun H5 o as es kk m l5 ch5 ho hfr hel har hct hl5 hs5 ho5 hev5 => ?_⟩
    rw [List.length_map] at hct
    have hb5 : TupD H5 b ((ys.take k).map V.str) := by
      obtain ⟨ob, d, e⟩ := hb3'.same sm4
      exact ⟨ob, d, ch5 _ _ e nbs⟩
    have hc5 := ch4.trans ch5
    refine ⟨by show 2 ≤ sizeLine; decide, fun t ht => ?_⟩
    have k6 := sm_new (o := .tup [.ref b, .ref o]) (sm_refl (H := H5)) ht
    have nd := List.nodup_append.mp (show (ys.take 3 ++ ys.drop 3).Nodup by rw [List.take_append_drop]; exact hyn)
    have hcar : ∀ z ∈ ys, carB z = true := fun z hz => List.all_eq_true.mp hyc z hz
    have hmem3 : ∀ z ∈ ys.take k, z ∈ ys.take 3 := fun z hz => by
      have : ys.take k = (ys.take 3).take k := by rw [List.take_take, Nat.min_eq_left (by omega)]
      rw [this] at hz
      exact List.mem_of_mem_take hz
    have harm : ∀ c ∈ arrs es, c ∈ ys.drop 3 := fun c hc => by
      rw [har] at hc
      exact List.mem_reverse.mp (List.mem_of_mem_take hc)
    refine q _ t b o (ys.take k) as es l5 ⟨hc5.sm k6, hc5.free hs ⟨_, hs5⟩ ht, upd_same, hb5.same k6, k6 _ _ ho5, Paired.imp hev5 (fun _ _ e => k6 _ _ e), fun a ha => ?_, ?_, by omega, hel, ?_, ?_, k6 _ _ hs5, hl5.mono (by omega)⟩
    · exact ch4.free hs ⟨_, hs4⟩ (hfr a ha)
    · exact ch4.free hs ⟨_, hs4⟩ ho
    · exact laneB_of (hyn.sublist (List.take_sublist _ _)) fun z hz => hcar z (List.mem_of_mem_take hz)
    · refine logB_of es _ _ m hct (fun c hc => ⟨hcar c (List.mem_of_mem_drop (harm c hc)), fun z => nd.2.2 c (hmem3 c z) c (harm c hc) rfl⟩) ?_
      rw [har]
      exact ((List.reverse_perm _).nodup_iff.mpr nd.2.1).sublist (List.take_sublist _ _)
def TsT (H : Hp) (ps : List Addr) (Fs : List (List Str)) : Prop := Paired (fun q (F : List Str) => TupD H q (F.map V.str)) ps Fs
theorem TsT.same {H H' : Hp} {ps : List Addr} {Fs : List (List Str)} (h : TsT H ps Fs) (k : L2.Same H H') : TsT H' ps Fs := Paired.imp h fun _ _ q => q.same k
theorem TsT.chg {H H' : Hp} {ps : List Addr} {Fs : List (List Str)} {s : Addr} {l : List V} (h : TsT H ps Fs) (c : Ch s H H') (hs : H s = some (.lst l)) : TsT H' ps Fs := Paired.imp h fun q _ e => by
  obtain ⟨ob, d, z⟩ := e
  exact ⟨ob, d, c _ _ z fun y => by rw [y, hs] at z; cases z⟩
theorem TsT.updL {H : Hp} {ps : List Addr} {Fs : List (List Str)} {D : Addr} {l : List V} {o : HO} (h : TsT H ps Fs) (hs : H D = some (.lst l)) : TsT (upd H D o) ps Fs := Paired.imp h fun q _ e => by
  obtain ⟨ob, d, z⟩ := e
  exact ⟨ob, d, by rw [upd_ne fun y => by rw [y, hs] at z; cases z]; exact z⟩
theorem TsT.snoc {H : Hp} {ps : List Addr} {Fs : List (List Str)} {q : Addr} {F : List Str} (h : TsT H ps Fs) (e : TupD H q (F.map V.str)) : TsT H (ps ++ [q]) (Fs ++ [F]) := Paired.snoc h e
def spOthers (K : PySem.W.Frag) : Sp := fun vs H Q _ => ∃ (s a l : Addr) (l0 : List V) (n : Nat) (xs : List Str) (as : List Addr) (es : List Ev) (size amount : Nat), vs = [.ref s, .ref a, .ref l, .int size, .int amount] ∧ H s = some (.lst l0) ∧ SrcV n l0 ∧ n + 20000 ≤ 1000000 ∧ SqT K H a (xs.map V.str) ∧ SqL K H l (as.map V.ref) ∧ EvsAt K H as es ∧ xs.length + (arrs es).length ≤ 400 ∧ xs.length ≤ 400 ∧ es.length ≤ 400 ∧ (xs ++ arrs es).Nodup ∧ amount ≤ 40 ∧
  ∀ (H' : Hp) (p : Addr) (ps : List Addr) (Fs : List (List Str)) (l' : List V), Ch s H H' → H p = none → H' p = some (.lst (ps.map V.ref)) → TsT H' ps Fs → (∀ F ∈ Fs, F.Nodup ∧ F.length ≤ 400 ∧ ∀ c ∈ F, c ∈ xs ++ arrs es) → Fs.length = amount → H' s = some (.lst l') → SrcV (n + amount * 400) l' → Q (.ref p) H'
theorem ok_others {f fV fS : Addr} {fd fdV fdS : FuncData} (F : Fun K "_law_others" "_law_others" sOthers f fd) (B2 : Bl mg)
    (GV : FnOk P w K mg base CX0 1 fV fdV ["begin", "events"] (spFolk2 K)) (mgV : mg "_law_everyone" = some (.ref fV)) (kV : PySem.W.keepIn K (.ref fV) = true) (bV : Binds K fdV ["begin", "events"] [])
    (GS : FnOk P w K mg base CX0 2 fS fdS ["source", "items"] (spShuf K)) (mgS : mg "_law_shuffled" = some (.ref fS)) (kS : PySem.W.keepIn K (.ref fS) = true) (bS : Binds K fdS ["source", "items"] []) : FnOk P w K mg base CX0 3 f fd ["source", "begin", "events", "size", "amount"] (spOthers K) := by
  refine F.ok scOthers (fun vs H Q E h => ?_) (fun cdv A outer s H vs Q E hr h => ?_)
  · obtain ⟨s0, a, l, l0, n, xs, as, es, size, amount, rfl, _⟩ := h
    rfl
  · obtain ⟨s0, a, l, l0, n, xs, as, es, size, amount, rfl, hs, hl, hn, hA, hL, hE, few0, few1, few2, hnd, ham, q⟩ := h
    have hr1 := hr.mono (show 1 ≤ 2 by decide)
    refine ⟨_, (pss_cons (ps_set (i := 5) scOthers.nd rfl (.inr rfl) (pe_call GV hr1 (by rfl) mgV kV bV .nil pass0 (pa_cons (pv 1) (pa_cons (pv 2) pa_nil))))
      (pss_one (ps_ret (pe_lc (own := [("k", 6)]) (g := gName 6) (tt := tYes) (te := (tSl (rSlB K) (tCall (spShuf K) [] E0 (tCons (tVar 0) (tCons (tVar 5) tNil))) tNoPart (tPart (tVar 3)))) (by rfl) scOthers.nd (pi_range1 (by rfl) B2.rng (pa_cons (pv 4) pa_nil)) (blkOk_by (own := [("k", 6)]) (N := ["source", "begin", "events", "size", "amount", "people", "k"]) (sc := defScope sOthers) (by decide +kernel)) (fun _ _ _ _ _ => (pg_name (i := 6) scOthers.nd rfl (Or.inl rfl))) (fun _ _ _ _ _ => pts_nil) (fun _ _ _ _ _ => (pe_slice sl_tupB (pe_call GS hr (by rfl) mgS kS bS .nil pass0 (pa_cons (pv 0) (pa_cons (pv 5) pa_nil))) po_none (po_some (pv 3)))))))), ?_⟩
    refine ⟨.ref a, rfl, .ref l, rfl, a, l, xs, as, es, rfl, hA, hL, hE, few1, few2, fun H1 u sm1 hu hu1 => ?_⟩
    have hs1 := sm1 _ _ hs
    have nus : u ≠ s0 := fun z => by rw [z, hs] at hu; cases hu
    have hpl : (xs ++ arrs es).length ≤ 400 := by rw [List.length_append]; exact few0
    generalize hpe : xs ++ arrs es = pe at hu1 hpl hnd q
    refine ⟨_, rfl, (amount : Int), rfl, by omega, by omega, fun D hD => ?_⟩
    have nDs : D ≠ s0 := (ne_of_none hs1 hD).symm
    have nDu : D ≠ u := (ne_of_none hu1 hD).symm
    have hD0 : H D = none := sm_none sm1 hD
    refine lc_range (lo := 0) (n := _) (fun i H' => ∃ (l' : List V) (ps : List Addr) (Fs : List (List Str)), Ch s0 H1 H' ∧ i ≤ amount ∧ H' s0 = some (.lst l') ∧ SrcV (n + i * 400) l' ∧ H' u = some (.lst (pe.map V.str)) ∧ H' D = some (.lst (ps.map V.ref)) ∧ ps.length = i ∧ TsT H' ps Fs ∧ Fs.length = i ∧ ∀ F ∈ Fs, F.Nodup ∧ F.length ≤ 400 ∧ ∀ c ∈ F, c ∈ pe) ?_ ?_ ?_
    · exact ⟨l0, [], [], Ch.refl.new hD, Nat.zero_le _, by rw [upd_ne nDs.symm]; exact hs1, hl.mono (by omega), by rw [upd_ne nDu.symm]; exact hu1, upd_same, rfl, .nil, rfl, fun F h => nomatch h⟩
    · rintro i H' hi ⟨l', ps, Fs, ch, hie, hs', hl', hu', hD', hpl', ht, hfl, hF⟩
      have hi : i < amount := by omega
      refine ⟨rfl, ?_⟩
      unfold tYes
      refine iteT ⟨.ref s0, rfl, .ref u, rfl, s0, u, l', n + i * 400, pe, rfl, hs', hl', by omega, SqL.of hu', nus, by omega, fun H2 r zs l2 ch2 hr2 hperm hl2 hs2 hz2 => ⟨_, rfl, (size : Int), rfl, r, _, rfl, hz2, fun H3 p3 h3 h3' => ?_⟩⟩
      have hu2 := ch2 _ _ hu' nus
      have hD2 := ch2 _ _ hD' nDs
      have ht2 := ht.chg ch2 hs'
      obtain ⟨ch3, sm3⟩ := slB_ch (ch.trans ch2) hs2 h3
      rw [cut_pt, ← List.map_take] at h3'
      have hD3 := sm3 _ _ hD2
      refine ⟨_, hD3, by rw [List.length_map]; exact small1000 (by omega), l2, ps ++ [p3], Fs ++ [zs.take size], ch3.new hD, by omega, by rw [upd_ne nDs.symm]; exact sm3 _ _ hs2, ?_, by rw [upd_ne nDu.symm]; exact sm3 _ _ hu2, by rw [upd_same, List.map_append]; rfl, by rw [List.length_append, hpl']; rfl, ((ht2.same sm3).snoc h3').updL hD3, by rw [List.length_append, hfl]; rfl, fun F hF2 => ?_⟩
      · refine hl2.mono ?_
        rw [Nat.succ_mul]
        omega
      · rcases List.mem_append.mp hF2 with h | h
        · exact hF F h
        · rw [List.mem_singleton.mp h]
          refine ⟨(hperm.symm.nodup hnd).sublist (List.take_sublist _ _), ?_, fun c hc => hperm.mem_iff.mp (List.mem_of_mem_take hc)⟩
          rw [List.length_take, hperm.length_eq]
          omega
    · rintro H' ⟨l', ps, Fs, ch, hie, hs', hl', hu', hD', hpl', ht, hfl, hF⟩
      exact q H' D ps Fs l' ((Ch.refl.sm sm1).trans ch) hD0 hD' ht hF (by rw [hfl]; omega) hs' (hl'.mono (by omega))
end
end Ln


set_option Elab.async false
set_option linter.all false
set_option maxRecDepth 100000
set_option maxHeartbeats 4000000
namespace Ln
open PySem PySem.Spec PyProof.Rows L2
/-! ### xs[::k] -/
theorem pick_rel {xs : List V} {us : List Value} (r : Vals xs us) : ∀ R : List Nat, Vals (R.filterMap (xs[·]?)) (R.filterMap (us[·]?))
  | [] => .nil
  | i :: R => by
    have hl := r.length
    by_cases h : i < xs.length
    · have h2 : i < us.length := by omega
      rw [List.filterMap_cons_some (List.getElem?_eq_getElem h), List.filterMap_cons_some (List.getElem?_eq_getElem h2)]
      refine .cons ?_ (pick_rel r R)
      obtain ⟨u, hu, ru⟩ := Vals.get r (List.getElem?_eq_getElem h)
      rw [List.getElem?_eq_getElem h2] at hu
      rw [Option.some.inj hu]
      exact ru
    · rw [List.filterMap_cons_none (List.getElem?_eq_none (by omega)), List.filterMap_cons_none (List.getElem?_eq_none (by omega))]
      exact pick_rel r R
section
variable {X : Cx}
def tStepL (K : PySem.W.Frag) (te ts : TE) : TE := fun σ H Q => te σ H fun x H1 => ∃ a, x = .ref a ∧ tPart ts σ H1 fun o H2 => ∃ (k : Int) (xs : List V), o = some k ∧ 0 < k ∧ SqL K H2 a xs ∧
  ∀ (p : Addr) (R : List Nat), H2 p = none → (R.filterMap (xs[·]?)).length ≤ xs.length → Q (.ref p) (upd H2 p (.lst (R.filterMap (xs[·]?))))
theorem pe_stepL {e st : Expr} {te ts : TE} {p3 pos : Pos} (he : PE X e te) (hst : PE X st ts) : PE X (.Subscript e (.Slice none none (some st) p3) pos) (tStepL X.K te ts) := by
  refine ⟨fun pins s σ H Q I h => ?_⟩
  refine Subscript_ (thn (he.run pins s σ H _ I h) fun v s1 ⟨x, H1, I1, r1, q1⟩ => ?_)
  obtain ⟨a, ex, q⟩ := q1
  subst ex
  cases r1
  refine wpAny_Slice (thn (po_none.run pins s1 σ H1 (fun o H2 => o = none ∧ H2 = H1) I1 ⟨rfl, rfl⟩) fun vl s2 ⟨l, H2, I2, pl, el, e2⟩ => ?_)
  subst el e2
  refine thn (po_none.run pins s2 σ H2 (fun o H3 => o = none ∧ H3 = H2) I2 ⟨rfl, rfl⟩) fun vu s3 ⟨u, H3, I3, pu, eu, e3⟩ => ?_
  subst eu e3
  refine thn ((po_some hst).run pins s3 σ H3 (fun o H4 => ∃ (k : Int) (xs : List V), o = some k ∧ 0 < k ∧ SqL X.K H4 a xs ∧ ∀ (p : Addr) (R : List Nat), H4 p = none → (R.filterMap (xs[·]?)).length ≤ xs.length → Q (.ref p) (upd H4 p (.lst (R.filterMap (xs[·]?))))) I3 ?_) fun vs s4 ⟨o, H4, I4, ps, k, xs, eo, hk, hx, q4⟩ => ?_
  · exact q
  subst eo
  have I5 : Inv X pins σ H4 { s4 with heap := s4.heap.push { cls := .type "slice", data := .fields #[vl, vu, vs] } } := I4.kept (t' := s4.toks) fun b ob q => Heap.get?_push_of_some _ q
  obtain ⟨its, r, ht, hz⟩ := I5.list hx
  have hlen := r.length
  show wpAny (model X.prog X.w) X.A (subscriptTail e (.Slice none none (some st) p3) (.ref a) (.ref s4.heap.objs.size)) (EP X pins σ Q) X.xe { s4 with heap := s4.heap.push { cls := .type "slice", data := .fields #[vl, vu, vs] } }
  refine tail_any (ops := [.ref a, .ref s4.heap.objs.size]) ht.isList.typeIs (PySem.slot_list_getitem.lookup) ?_ (by with_unfolding_all rfl)
  refine wpAny_getItem_list_slice ht.isList (Heap.IsSliceOf.new _ vl vu vs) pl pu ps (fun z => by cases z; omega) ?_ (by rw [List.size_toArray]; omega)
  have hsz := slicePick_size_le its.toArray none none (some k)
  have hpk : ∃ R : List Nat, slicePick its.toArray none none (some k) = (R.filterMap (its[·]?)).toArray := by
    unfold slicePick
    exact ⟨_, by congr 2; funext i; rw [List.getElem?_toArray]⟩
  obtain ⟨R, hR⟩ := hpk
  rw [hR] at hsz ⊢
  have hv := pick_rel r R
  have hl2 : (R.filterMap (xs[·]?)).length ≤ xs.length := by
    rw [hv.length]
    rw [List.size_toArray, List.size_toArray] at hsz
    omega
  refine ⟨.ref _, _, I5.laid (t' := s4.toks) (o := .lst (R.filterMap (xs[·]?))) (fun b ob q => Heap.get?_push_of_some _ q) (Nat.le_refl _) ?_, rfl, q4 _ R (I5.hok.fresh (Nat.le_refl _)) hl2⟩
  exact ⟨Nat.le_trans hl2 hz, _, 0, hv, Heap.get?_push_size _ rfl⟩
end
end Ln


set_option Elab.async false
set_option linter.all false
set_option maxRecDepth 100000
set_option maxHeartbeats 4000000
namespace Ln
open PySem PySem.Spec PyProof.Rows L2 GxR
/-! ### ways_before, list_ways, count_histories -/
def nV (n : Nat) : V := .int (n : Int)
theorem nV_add {a b : Nat} : V.int ((a : Int) + (b : Int)) = nV (a + b) := by unfold nV; rw [Int.natCast_add]
theorem nV_at {w : List Nat} {i : Nat} (h : i < w.length) : (w.map nV)[i]? = some (nV (w.getD i 0)) := by
  rw [List.getElem?_map, List.getElem?_eq_getElem h, List.getD_eq_getElem?_getD, List.getElem?_eq_getElem h]
  rfl
theorem range_snoc {f : Nat → Nat} {i : Nat} : (((List.range (i + 1)).map f).map nV) = (((List.range i).map f).map nV) ++ [nV (f i)] := by
  rw [List.range_succ, List.map_append, List.map_append]
  rfl
/-- what each list of numbers has to be long for the one before -/
def needN (k : Str) (n x : Nat) : Prop := (k = "in" ∧ n = x + 2) ∨ (k = "out" ∧ n = x) ∨ ((k = "L" ∨ k = "R") ∧ n = x + 1)
theorem size_ {f : Nat → Nat} {i : Nat} (h : i ≤ 3000) : ((((List.range i).map f).map nV) : List V).length < sizeLine := by
  rw [List.length_map, List.length_map, List.length_range, sizeLine_eq]
  omega
theorem keep {H H' : Hp} {D : Addr} {o : HO} (hD : H D = none) (sm : L2.Same H H') : L2.Same H (upd H' D o) := fun b q e => by
  rw [upd_ne (ne_of_none e hD)]
  exact sm b q e
/-- the kinds and the numbers of leavers fit each other -/
def okx : List Str → List Int → Prop
  | [], xr => xr = [0]
  | _ :: _, [] => False
  | k :: r, x :: xr => 0 ≤ x ∧ x ≤ 2000 ∧ needN k (wy1 r xr).length x.toNat ∧ okx r xr
theorem okx_drop : ∀ {k : List Str} {x : List Int} {j : Nat}, okx k x → j ≤ k.length → okx (k.drop j) (x.drop j)
  | k, x, 0, h, _ => h
  | [], x, j + 1, h, hj => by cases hj
  | _ :: _, [], j + 1, h, _ => h.elim
  | k :: r, x :: xr, j + 1, h, hj => okx_drop (k := r) (x := xr) h.2.2.2 (Nat.le_of_succ_le_succ hj)
theorem needN_first {n x : Nat} : ¬ needN "first" n x := fun h => by
  rcases h with ⟨h, _⟩ | ⟨h, _⟩ | ⟨h | h, _⟩ <;> exact absurd h (by decide)
theorem ixN_last {n : Nat} (h : 0 < n) : ixN n (-1) = some (n - 1) := by
  unfold ixN
  rw [if_neg (by omega), if_pos (by omega)]
  congr 1
  omega
theorem scWaysB : FnScope ["kind", "later", "extra", "shifted", "same", "only", "left"] ["kind", "later", "extra"] (defScope sWaysB) := ⟨rfl, rfl, rfl, by decide +kernel, rfl, by decide +kernel, by decide +kernel⟩
theorem scWays : FnScope ["kinds", "extra", "ways", "moment", "_"] ["kinds", "extra"] (defScope sWays) := ⟨rfl, rfl, rfl, by decide +kernel, rfl, by decide +kernel, by decide +kernel⟩
section
variable {P : Program} {w : World} {K : PySem.W.Frag} {mg : Str → Option Value} {base : Heap} {Ps : List Addr}
def spWaysB (K : PySem.W.Frag) : Sp := fun vs H Q _ => ∃ (k : Str) (l : Addr) (ws : List Nat) (x : Nat), vs = [.str k, .ref l, nV x] ∧ H l = some (.lst (ws.map nV)) ∧ x ≤ 2000 ∧ needN k ws.length x ∧ ∀ H' p, L2.Same H H' → H p = none → H' p = some (.lst ((wb k ws x).map nV)) → Q (.ref p) H'
theorem ok_waysB {f : Addr} {fd : FuncData} (F : Fun K "ways_before" "ways_before" sWaysB f fd) (B2 : Bl mg) : FnOk P w K mg base CX0 1 f fd ["kind", "later", "extra"] (spWaysB K) := by
  refine F.ok scWaysB (fun vs H Q E h => ?_) (fun cdv A outer s H vs Q E hr h => ?_)
  · obtain ⟨k, l, ws, x, rfl, _⟩ := h
    rfl
  · obtain ⟨k, l, ws, x, rfl, hL, few, hne, q⟩ := h
    refine ⟨_, (pss_cons (ps_if (pt_cmpR op_eq (pv 0) pe_str (nomark _))
        (pss_one (ps_ret (pe_lc (own := [("left", 6)]) (g := gName 6) (tt := tYes) (te := (tOp (rI0 fun i j => .int (i + j)) (tOp (rIxL K) (tVar 1) (tVar 6)) (tOp (rIxL K) (tVar 1) (tOp (rI0 fun i j => .int (i + j)) (tVar 6) (tC (.int 1)))))) (by rfl) scWaysB.nd (pi_range1 (by rfl) B2.rng (pa_cons (pe_op op_add (pv 2) pe_int) pa_nil)) (blkOk_by (own := [("left", 6)]) (N := ["kind", "later", "extra", "shifted", "same", "only", "left"]) (sc := defScope sWaysB) (by decide +kernel)) (fun _ _ _ _ _ => (pg_name (i := 6) scWaysB.nd rfl (Or.inl rfl))) (fun _ _ _ _ _ => pts_nil) (fun _ _ _ _ _ => (pe_op op_add (pe_ix ix_list (pv 1) (pv 6) (fun _ _ => rfl)) (pe_ix ix_list (pv 1) (pe_op op_add (pv 6) pe_int) (fun _ _ => rfl)))))))
        pss_nil)
      (pss_cons (ps_if (pt_cmpR op_eq (pv 0) pe_str (nomark _))
        (pss_cons (ps_set (i := 3) scWaysB.nd rfl (.inr rfl) (pe_op op_cat (pe_lst (pa_cons pe_int pa_nil)) (pv 1)))
        (pss_cons (ps_set (i := 4) scWaysB.nd rfl (.inr rfl) (pe_op op_cat (pv 1) (pe_lst (pa_cons pe_int pa_nil))))
        (pss_one (ps_ret (pe_lc (own := [("left", 6)]) (g := gName 6) (tt := tYes) (te := (tOp (rI0 fun i j => .int (i + j)) (tOp (rIxL K) (tVar 3) (tVar 6)) (tOp (rIxL K) (tVar 4) (tVar 6)))) (by rfl) scWaysB.nd (pi_range1 (by rfl) B2.rng (pa_cons (pe_op op_add (pv 2) pe_int) pa_nil)) (blkOk_by (own := [("left", 6)]) (N := ["kind", "later", "extra", "shifted", "same", "only", "left"]) (sc := defScope sWaysB) (by decide +kernel)) (fun _ _ _ _ _ => (pg_name (i := 6) scWaysB.nd rfl (Or.inl rfl))) (fun _ _ _ _ _ => pts_nil) (fun _ _ _ _ _ => (pe_op op_add (pe_ix ix_list (pv 3) (pv 6) (fun _ _ => rfl)) (pe_ix ix_list (pv 4) (pv 6) (fun _ _ => rfl)))))))))
        pss_nil)
      (pss_cons (ps_set (i := 5) scWaysB.nd rfl (.inr rfl) (pe_ifExp (pt_cmpR op_eq (pv 0) pe_str (nomark _)) pe_int (pv 2)))
      (pss_one (ps_ret (pe_lc (own := [("left", 6)]) (g := gName 6) (tt := tYes) (te := (tIf (tTest (tOp rEq (tVar 6) (tVar 5))) (tOp (rIxL K) (tVar 1) (tVar 6)) (tC (.int 0)))) (by rfl) scWaysB.nd (pi_range1 (by rfl) B2.rng (pa_cons (pe_op op_add (pv 2) pe_int) pa_nil)) (blkOk_by (own := [("left", 6)]) (N := ["kind", "later", "extra", "shifted", "same", "only", "left"]) (sc := defScope sWaysB) (by decide +kernel)) (fun _ _ _ _ _ => (pg_name (i := 6) scWaysB.nd rfl (Or.inl rfl))) (fun _ _ _ _ _ => pts_nil) (fun _ _ _ _ _ => (pe_ifExp (pt_cmpR op_eq (pv 6) (pv 5) (nomark _)) (pe_ix ix_list (pv 1) (pv 6) (fun _ _ => rfl)) pe_int)))))))), ?_⟩
    have ex : ((x : Int) + 1 - 0).toNat = x + 1 := by omega
    rcases hne with ⟨rfl, hn⟩ | ⟨rfl, hn⟩ | ⟨hk, hn⟩
    · rw [show wb "in" ws x = _ from wb_in] at q
      refine ⟨_, rfl, rfl, true, congrArg V.bl (decide_eq_true rfl), iteT ⟨_, rfl, _, _, rfl, rfl, _, rfl, by omega, by omega, fun D hD => ?_⟩⟩
      refine lc_range (lo := 0) (n := _) (fun i H' => L2.Same H H' ∧ H' D = some (.lst (((List.range i).map fun a => ws.getD a 0 + ws.getD (a + 1) 0).map nV))) ?_ ?_ ?_
      · exact ⟨sm_new sm_refl hD, upd_same⟩
      · rintro i H' hi ⟨sm, hD'⟩
        have hi : i < x + 1 := by omega
        have hl' : H' l = some (.lst (ws.map nV)) := sm _ _ hL
        rw [Int.zero_add]
        refine ⟨rfl, ?_⟩
        unfold tYes
        refine iteT ⟨.ref l, rfl, _, rfl, l, _, (i : Int), _, rfl, rfl, SqL.of hl', atI_nat (nV_at (by omega)), .ref l, rfl, _, rfl, (i : Int), 1, rfl, rfl, l, _, ((i : Int) + 1), _, rfl, rfl, SqL.of hl', atI_nat (j := i + 1) (nV_at (by omega)), _, _, rfl, rfl, _, hD', size_ (by omega), keep hD sm, ?_⟩
        rw [upd_same, range_snoc]
        exact congrArg (fun z => some (HO.lst (_ ++ [z]))) nV_add
      · rintro H' ⟨sm, hD'⟩
        rw [show ((x : Int) + 1).toNat = x + 1 by omega] at hD'
        exact q _ _ sm hD hD'
    · rw [show wb "out" ws x = _ from wb_out] at q
      refine ⟨_, rfl, rfl, false, congrArg V.bl (decide_eq_false fun z => by injection z with z; exact absurd z (by decide)), iteF ⟨_, rfl, rfl, true, congrArg V.bl (decide_eq_true rfl), iteT ⟨by show 1 ≤ sizeLine; decide, fun o ho => ⟨.ref l, rfl, ?_⟩⟩⟩⟩
      have sm1 : L2.Same H (upd H o (.lst [.int 0])) := sm_new sm_refl ho
      refine ⟨o, l, _, _, rfl, rfl, upd_same, sm1 _ _ hL, by rw [List.length_map, sizeLine_eq]; show 1 + _ ≤ _; omega, fun p1 hp1 => ?_⟩
      have sm2 : L2.Same H (upd (upd H o (.lst [.int 0])) p1 (.lst ([.int 0] ++ ws.map nV))) := sm_new sm1 hp1
      have e2 : (upd (upd H o (.lst [.int 0])) p1 (.lst ([.int 0] ++ ws.map nV))) p1 = some (.lst ((0 :: ws).map nV)) := upd_same
      generalize upd (upd H o (.lst [.int 0])) p1 (.lst ([.int 0] ++ ws.map nV)) = H2 at sm2 e2 ⊢
      refine ⟨.ref l, rfl, by show 1 ≤ sizeLine; decide, fun o2 ho2 => ?_⟩
      have sm3 : L2.Same H2 (upd H2 o2 (.lst [.int 0])) := sm_new sm_refl ho2
      refine ⟨l, o2, _, _, rfl, rfl, sm3 _ _ (sm2 _ _ hL), upd_same, by rw [List.length_map, sizeLine_eq]; show _ + 1 ≤ _; omega, fun p2 hp2 => ?_⟩
      have sm4 : L2.Same H2 (upd (upd H2 o2 (.lst [.int 0])) p2 (.lst (ws.map nV ++ [.int 0]))) := sm_new sm3 hp2
      have e4 : (upd (upd H2 o2 (.lst [.int 0])) p2 (.lst (ws.map nV ++ [.int 0]))) p2 = some (.lst ((ws ++ [0]).map nV)) := by rw [upd_same, List.map_append]; rfl
      have e3 := sm4 _ _ e2
      have sm5 := sm_trans sm2 sm4
      generalize upd (upd H2 o2 (.lst [.int 0])) p2 (.lst (ws.map nV ++ [.int 0])) = H3 at sm5 e3 e4 ⊢
      refine ⟨_, rfl, _, _, rfl, rfl, _, rfl, by omega, by omega, fun D hD => ?_⟩
      refine lc_range (lo := 0) (n := _) (fun i H' => L2.Same H3 H' ∧ H' D = some (.lst (((List.range i).map fun a => (0 :: ws).getD a 0 + (ws ++ [0]).getD a 0).map nV))) ?_ ?_ ?_
      · exact ⟨sm_new sm_refl hD, upd_same⟩
      · rintro i H' hi ⟨sm, hD'⟩
        have hi : i < x + 1 := by omega
        rw [Int.zero_add]
        refine ⟨rfl, ?_⟩
        unfold tYes
        refine iteT ⟨.ref p1, rfl, _, rfl, p1, _, (i : Int), _, rfl, rfl, SqL.of (sm _ _ e3), atI_nat (nV_at (by rw [List.length_cons]; omega)), .ref p2, rfl, _, rfl, p2, _, (i : Int), _, rfl, rfl, SqL.of (sm _ _ e4), atI_nat (nV_at (by rw [List.length_append]; show i < _ + 1; omega)), _, _, rfl, rfl, _, hD', size_ (by omega), keep hD sm, ?_⟩
        rw [upd_same, range_snoc]
        exact congrArg (fun z => some (HO.lst (_ ++ [z]))) nV_add
      · rintro H' ⟨sm, hD'⟩
        rw [show ((x : Int) + 1).toNat = x + 1 by omega] at hD'
        exact q _ _ (sm_trans sm5 sm) (sm_none sm5 hD) hD'
    · have hk1 : k ≠ "in" := by rcases hk with rfl | rfl <;> decide
      have hk2 : k ≠ "out" := by rcases hk with rfl | rfl <;> decide
      refine ⟨_, rfl, rfl, false, congrArg V.bl (decide_eq_false fun z => hk1 (V.str.inj z)), iteF ⟨_, rfl, rfl, false, congrArg V.bl (decide_eq_false fun z => hk2 (V.str.inj z)), iteF ?_⟩⟩
      have hq : wb k ws x = (List.range (x + 1)).map fun a => if a = (if k = "L" then 0 else x) then ws.getD a 0 else 0 := by
        unfold wb
        rw [if_neg hk1, if_neg hk2]
      rw [hq] at q
      by_cases hkL : k = "L"
      · rw [if_pos hkL] at q
        refine ⟨_, rfl, rfl, true, congrArg V.bl (decide_eq_true (congrArg V.str hkL)), iteT ⟨_, rfl, _, _, rfl, rfl, _, rfl, by omega, by omega, fun D hD => ?_⟩⟩
        refine lc_range (lo := 0) (n := _) (fun i H' => L2.Same H H' ∧ H' D = some (.lst (((List.range i).map fun a => if a = 0 then ws.getD a 0 else 0).map nV))) ?_ ?_ ?_
        · exact ⟨sm_new sm_refl hD, upd_same⟩
        · rintro i H' hi ⟨sm, hD'⟩
          have hi : i < x + 1 := by omega
          rw [Int.zero_add]
          refine ⟨rfl, ?_⟩
          unfold tYes
          by_cases hiy : i = 0
          · refine iteT ⟨_, rfl, _, rfl, rfl, true, congrArg V.bl (decide_eq_true (show V.int (i : Int) = nV 0 by rw [hiy]; rfl)), ?_⟩
            refine iteT ⟨.ref l, rfl, _, rfl, l, _, (i : Int), _, rfl, rfl, SqL.of (sm _ _ hL), atI_nat (nV_at (by omega)), _, hD', size_ (by omega), keep hD sm, ?_⟩
            rw [upd_same, range_snoc, if_pos hiy]
          · refine iteT ⟨_, rfl, _, rfl, rfl, false, congrArg V.bl (decide_eq_false (show ¬ V.int (i : Int) = nV 0 from fun z => hiy (by unfold nV at z; injection z with z; omega))), ?_⟩
            refine iteF ⟨_, hD', size_ (by omega), keep hD sm, ?_⟩
            rw [upd_same, range_snoc, if_neg hiy]
            rfl
        · rintro H' ⟨sm, hD'⟩
          rw [show ((x : Int) + 1).toNat = x + 1 by omega] at hD'
          exact q _ _ sm hD hD'
      · rw [if_neg hkL] at q
        refine ⟨_, rfl, rfl, false, congrArg V.bl (decide_eq_false fun z => hkL (V.str.inj z)), iteF ⟨_, rfl, _, rfl, _, _, rfl, rfl, _, rfl, by omega, by omega, fun D hD => ?_⟩⟩
        refine lc_range (lo := 0) (n := _) (fun i H' => L2.Same H H' ∧ H' D = some (.lst (((List.range i).map fun a => if a = x then ws.getD a 0 else 0).map nV))) ?_ ?_ ?_
        · exact ⟨sm_new sm_refl hD, upd_same⟩
        · rintro i H' hi ⟨sm, hD'⟩
          have hi : i < x + 1 := by omega
          rw [Int.zero_add]
          refine ⟨rfl, ?_⟩
          unfold tYes
          by_cases hiy : i = x
          · refine iteT ⟨_, rfl, _, rfl, rfl, true, congrArg V.bl (decide_eq_true (show V.int (i : Int) = nV x by rw [hiy]; rfl)), ?_⟩
            refine iteT ⟨.ref l, rfl, _, rfl, l, _, (i : Int), _, rfl, rfl, SqL.of (sm _ _ hL), atI_nat (nV_at (by omega)), _, hD', size_ (by omega), keep hD sm, ?_⟩
            rw [upd_same, range_snoc, if_pos hiy]
          · refine iteT ⟨_, rfl, _, rfl, rfl, false, congrArg V.bl (decide_eq_false (show ¬ V.int (i : Int) = nV x from fun z => hiy (by unfold nV at z; injection z with z; omega))), ?_⟩
            refine iteF ⟨_, hD', size_ (by omega), keep hD sm, ?_⟩
            rw [upd_same, range_snoc, if_neg hiy]
            rfl
        · rintro H' ⟨sm, hD'⟩
          rw [show ((x : Int) + 1).toNat = x + 1 by omega] at hD'
          exact q _ _ sm hD hD'
def spWays (K : PySem.W.Frag) : Sp := fun vs H Q _ => ∃ (a b : Addr) (kn : List Str) (xr : List Int) (c : Nat), vs = [.ref a, .ref b] ∧ H a = some (.lst (kn.map V.str)) ∧ H b = some (.lst (xr.map V.int)) ∧ xr.length = kn.length + 1 ∧ kn.length ≤ 1000 ∧ (c = 0 ∨ ∃ j, c = j + 1 ∧ kn[j]? = some "first") ∧ c ≤ kn.length ∧ okx (kn.drop c) (xr.drop c) ∧
  ∀ (H' : Hp) (p : Addr) (ps : List Addr), L2.Same H H' → H p = none → H' p = some (.lst (ps.map V.ref)) → ps.length = xr.length → (∀ t, c ≤ t → t ≤ kn.length → ∃ q, ps[t]? = some q ∧ H' q = some (.lst ((wy1 (kn.drop t) (xr.drop t)).map nV))) → Q (.ref p) H'
theorem ok_ways {f fB : Addr} {fd fdB : FuncData} (F : Fun K "list_ways" "list_ways" sWays f fd) (B : Bi mg) (B2 : Bl mg)
    (GB : FnOk P w K mg base CX0 1 fB fdB ["kind", "later", "extra"] (spWaysB K)) (mgB : mg "ways_before" = some (.ref fB)) (kB : PySem.W.keepIn K (.ref fB) = true) (bB : Binds K fdB ["kind", "later", "extra"] []) : FnOk P w K mg base CX0 2 f fd ["kinds", "extra"] (spWays K) := by
  refine F.ok scWays (fun vs H Q E h => ?_) (fun cdv A outer s H vs Q E hr h => ?_)
  · obtain ⟨a, b, kn, xr, c, rfl, _⟩ := h
    rfl
  · obtain ⟨a, b, kn, xr, c, rfl, hA, hB, hlen, few, hc, hcl, hok, q⟩ := h
    refine ⟨_, (pss_cons (ps_setLc (i := 2) (own := [("_", 4)]) (g := gName 4) (tt := tYes) (te := _) (by rfl) scWays.nd rfl rfl (sw_true rfl rfl rfl (by decide +kernel)) (pi_list (pv 1)) (blkOk_by (own := [("_", 4)]) (N := ["kinds", "extra", "ways", "moment", "_"]) (sc := defScope sWays) (by decide +kernel)) (fun _ _ _ _ _ => (pg_name (i := 4) scWays.nd rfl (Or.inl rfl))) (fun _ _ _ _ _ => pts_nil) (fun _ _ _ _ _ => (pe_lst pa_nil)))
      (pss_cons (ps_asg (pe_lst (pa_cons pe_int pa_nil)) (pg_sub (pv 2) (pe_un un_neg pe_int) set_list))
      (pss_cons (ps_for PassesOwn.never rfl (pi_range3 (by rfl) B2.rng (pa_cons (pe_op op_sub (pe_callB call_len_seq (by rfl) B.len PySem.boot_len (pa_cons (pv 0) pa_nil)) pe_int) (pa_cons (pe_un un_neg pe_int) (pa_cons (pe_un un_neg pe_int) pa_nil)))) (pg_name (i := 3) scWays.nd rfl (.inl rfl))
        (pss_cons (ps_if (pt_cmpR op_eq (pe_ix ix_list (pv 0) (pv 3) (fun _ _ => rfl)) pe_str (nomark _))
          (pss_one ps_break)
          pss_nil)
        (pss_one (ps_asg (pe_call GB hr (by rfl) mgB kB bB .nil pass0 (pa_cons (pe_ix ix_list (pv 0) (pv 3) (fun _ _ => rfl)) (pa_cons (pe_ix ix_list (pv 2) (pe_op op_add (pv 3) pe_int) (fun _ _ => rfl)) (pa_cons (pe_ix ix_list (pv 1) (pv 3) (fun _ _ => rfl)) pa_nil)))) (pg_sub (pv 2) (pv 3) set_list)))))
      (pss_one (ps_ret (pv 2)))))), ?_⟩
    refine ⟨.ref b, rfl, b, rfl, ⟨_, SqL.of hB⟩, fun D hD => ?_⟩
    refine lc_list (K := K) (a := b) (xs := xr.map V.int) (fun i H' => L2.Same H H' ∧ ∃ ps : List Addr, ps.length = i ∧ H' D = some (.lst (ps.map V.ref))) ?_ ?_ ?_ ?_
    · exact ⟨sm_new sm_refl hD, [], rfl, upd_same⟩
    · rintro i H' _ ⟨sm, _⟩
      exact SqL.of (sm _ _ hB)
    · rintro i y H' hi ⟨sm, ps, hpl, hD'⟩
      refine ⟨rfl, ?_⟩
      unfold tYes
      have hlt := (List.getElem?_eq_some_iff.mp hi).1
      rw [List.length_map] at hlt
      refine iteT ⟨Nat.zero_le _, fun o ho => ⟨_, by rw [upd_ne (ne_of_none hD' ho)]; exact hD', small1000 (by rw [List.length_map]; omega) , keep hD (sm_new sm ho), ps ++ [o], by rw [List.length_append, hpl]; rfl, by rw [upd_same, List.map_append]; rfl⟩⟩
    rintro H1 ⟨sm1, ps0, hps0, hD1⟩
    rw [List.length_map] at hps0
    -- the last one
    refine ⟨by show 1 ≤ sizeLine; decide, fun o ho => ?_⟩
    have hDo : D ≠ o := ne_of_none hD1 ho
    have hoD : (upd H1 o (.lst [.int 1])) D = some (.lst (ps0.map V.ref)) := by rw [upd_ne hDo]; exact hD1
    refine ⟨.ref D, rfl, 1, rfl, D, _, -1, _, rfl, rfl, hoD, ixN_last (by rw [List.length_map]; omega), ?_⟩
    have sm2 : L2.Same H (upd (upd H1 o (.lst [.int 1])) D (.lst ((ps0.map V.ref).set ((ps0.map V.ref).length - 1) (.ref o)))) := keep hD (sm_new sm1 ho)
    have hD2 : (upd (upd H1 o (.lst [.int 1])) D (.lst ((ps0.map V.ref).set ((ps0.map V.ref).length - 1) (.ref o)))) D = some (.lst ((ps0.set kn.length o).map V.ref)) := by
      rw [upd_same, List.length_map, hps0, hlen, Nat.add_sub_cancel, List.map_set]
    have ho2 : (upd (upd H1 o (.lst [.int 1])) D (.lst ((ps0.map V.ref).set ((ps0.map V.ref).length - 1) (.ref o)))) o = some (.lst [.int 1]) := by rw [upd_ne hDo.symm, upd_same]
    generalize upd (upd H1 o (.lst [.int 1])) D (.lst ((ps0.map V.ref).set ((ps0.map V.ref).length - 1) (.ref o))) = H2 at sm2 hD2 ho2 ⊢
    refine ⟨.ref a, rfl, a, _, rfl, .inl (SqL.of (sm2 _ _ hA)), _, _, rfl, rfl, 1, rfl, 1, rfl, _, _, _, _, rfl, RgC.neg (by rw [List.length_map]; omega) (by rw [List.length_map]; omega) (by decide) (by decide), ?_⟩
    rw [List.length_map, show ((kn.length : Int) - 1 - -1).toNat = kn.length by omega]
    refine for_rangeC (Pv := fun j σ H' => ∃ (v3 : Option V) (ps : List Addr), σ = [some (.ref a), some (.ref b), some (.ref D), v3, none] ∧ L2.Same H H' ∧ j ≤ kn.length ∧ ps.length = xr.length ∧ H' D = some (.lst (ps.map V.ref)) ∧ c + j ≤ kn.length ∧
      ∀ t, kn.length - j ≤ t → t ≤ kn.length → ∃ q, ps[t]? = some q ∧ q ≠ D ∧ H' q = some (.lst ((wy1 (kn.drop t) (xr.drop t)).map nV))) ?_ ?_ ?_
    · refine ⟨none, _, rfl, sm2, Nat.zero_le _, by rw [List.length_set]; exact hps0, hD2, by omega, fun t h1 h2 => ?_⟩
      have ht : t = kn.length := by omega
      subst ht
      refine ⟨o, by rw [List.getElem?_set_self (by omega)], hDo.symm, ?_⟩
      rw [ho2, List.drop_length]
      rfl
    · rintro j σ H' hj ⟨v3, ps, rfl, sm, hjl, hpl, hD', hcj, hgood⟩
      obtain ⟨m, hm⟩ : ∃ m, kn.length - j = m + 1 := ⟨kn.length - j - 1, by omega⟩
      have ei : ((kn.length : Int) - 1 + ((j : Nat) : Int) * -1) = (m : Int) := by omega
      rw [ei]
      have hml : m < kn.length := by omega
      have hkm : kn[m]? = some kn[m] := List.getElem?_eq_getElem hml
      refine ⟨.ref a, rfl, _, rfl, a, _, (m : Int), .str kn[m], rfl, rfl, SqL.of (sm _ _ hA), atI_nat (by rw [List.getElem?_map, hkm]; rfl), rfl, ?_⟩
      by_cases hcm : c = m + 1
      · -- the first stayer
        have hf : kn[m] = "first" := by
          rcases hc with h | ⟨j', h1, h2⟩
          · omega
          · have : j' = m := by omega
            subst this
            rw [hkm] at h2
            exact Option.some.inj h2
        refine ⟨true, congrArg V.bl (decide_eq_true (congrArg V.str hf)), iteT ⟨_, rfl, ?_⟩⟩
        exact q _ _ _ sm hD hD' hpl fun t h1 h2 => let ⟨q', e1, _, e2⟩ := hgood t (by omega) h2; ⟨q', e1, e2⟩
      · have hcm2 : c ≤ m := by omega
        have hdk : kn.drop m = kn[m] :: kn.drop (m + 1) := List.drop_eq_getElem_cons hml
        have hxl : m < xr.length := by omega
        have hdx : xr.drop m = xr[m] :: xr.drop (m + 1) := List.drop_eq_getElem_cons hxl
        have hokm : okx (kn.drop m) (xr.drop m) := by
          have := okx_drop (j := m - c) hok (by rw [List.length_drop]; omega)
          rw [List.drop_drop, List.drop_drop, show c + (m - c) = m by omega] at this
          exact this
        rw [hdk, hdx] at hokm
        obtain ⟨h0, h2000, hne, _⟩ := hokm
        have hnf : kn[m] ≠ "first" := fun z => by rw [z] at hne; exact needN_first hne
        obtain ⟨q', hq1, hq2, hq3⟩ := hgood (m + 1) (by omega) (by omega)
        have hx : V.int xr[m] = nV xr[m].toNat := by
          unfold nV
          rw [Int.toNat_of_nonneg h0]
        refine ⟨false, congrArg V.bl (decide_eq_false fun z => hnf (V.str.inj z)), iteF ?_⟩
        refine ⟨.ref a, rfl, _, rfl, a, _, (m : Int), .str kn[m], rfl, rfl, SqL.of (sm _ _ hA), atI_nat (by rw [List.getElem?_map, hkm]; rfl), .ref D, rfl, _, rfl, (m : Int), 1, rfl, rfl, D, _, ((m : Int) + 1), .ref q', rfl, rfl, SqL.of hD', atI_nat (j := m + 1) (by rw [List.getElem?_map, hq1]; rfl), .ref b, rfl, _, rfl, b, _, (m : Int), .int xr[m], rfl, rfl, SqL.of (sm _ _ hB), atI_nat (by rw [List.getElem?_map, List.getElem?_eq_getElem hxl]; rfl), ?_⟩
        rw [hx]
        refine ⟨kn[m], q', _, xr[m].toNat, rfl, hq3, by omega, hne, fun H3 p3 sm3 hp3 hp3' => ?_⟩
        have hD3 := sm3 _ _ hD'
        have np3 : p3 ≠ D := fun z => by rw [z, hD'] at hp3; cases hp3
        have hwd : wy1 (kn.drop m) (xr.drop m) = wb kn[m] (wy1 (kn.drop (m + 1)) (xr.drop (m + 1))) xr[m].toNat := by
          rw [hdk, hdx]
          rfl
        refine ⟨.ref D, rfl, _, rfl, D, _, (m : Int), m, rfl, rfl, hD3, ixN_nat8 (by rw [List.length_map]; omega), some (.int (m : Int)), ps.set m p3, rfl, keep hD (sm_trans sm sm3), by omega, by rw [List.length_set]; exact hpl, by rw [upd_same, List.map_set], by omega, fun t h1 h2 => ?_⟩
        by_cases ht : t = m
        · subst ht
          exact ⟨p3, by rw [List.getElem?_set_self (by omega)], np3, by rw [upd_ne np3, hwd]; exact hp3'⟩
        · obtain ⟨q2, e1, e2, e3⟩ := hgood t (by omega) h2
          exact ⟨q2, by rw [List.getElem?_set_ne (by omega)]; exact e1, e2, by rw [upd_ne e2]; exact sm3 _ _ e3⟩
    · rintro σ H' ⟨v3, ps, rfl, sm, hjl, hpl, hD', hcj, hgood⟩
      exact ⟨_, rfl, q _ _ _ sm hD hD' hpl fun t h1 h2 => let ⟨q', e1, _, e2⟩ := hgood t (by omega) h2; ⟨q', e1, e2⟩⟩
end
end Ln


set_option Elab.async false
set_option linter.all false
set_option maxRecDepth 100000
set_option maxHeartbeats 4000000
namespace Ln
open PySem PySem.Spec PyProof.Rows L2 GxR
/-! ### count_histories -/
theorem okx_some {F : List Str} : ∀ (r : List Ev) (D B E kn P : List Str) (l x : Nat), Fit F D B E kn P r → endI ((x + B.length : Nat) : Int) r = F.length → (∀ y ∈ extL F (x : Int) r, 0 ≤ y) → x + r.length ≤ 2000 → okx (kindsL F (some l) r) (extL F (x : Int) r)
  | [], D, B, E, kn, P, l, x, hf, hsz, hx, hb => by
    have h : ((x + B.length : Nat) : Int) = F.length := hsz
    rw [hf.nil_end.2.2] at h
    have : x = 0 := by omega
    subst this
    rfl
  | .out :: r, D, B, E, kn, P, l, x, hf, hsz, hx, hb => by
    have hx1 : ∀ y ∈ extL F ((x : Int) - 1) r, 0 ≤ y := fun y hy => hx y (List.mem_cons_of_mem _ hy)
    have hpos := ext_head hx1
    obtain ⟨x', rfl⟩ : ∃ x', x = x' + 1 := ⟨x - 1, by omega⟩
    have e1 : (((x' + 1 : Nat) : Int) - 1) = (x' : Int) := by omega
    rw [e1] at hx1
    have hsz : endI ((((x' + 1 : Nat) + B.length : Nat) : Int) - 1) r = F.length := hsz
    have e2 : ((((x' + 1 : Nat) + B.length : Nat) : Int) - 1) = ((x' + B.length : Nat) : Int) := by omega
    rw [e2] at hsz
    have hlen := wy1_len (n := 0) (lo := some l) hf.out hsz
    rw [List.length_cons] at hb
    show okx ("out" :: kindsL F (some l) r) (((x' + 1 : Nat) : Int) :: extL F (((x' + 1 : Nat) : Int) - 1) r)
    rw [e1]
    exact ⟨by omega, by omega, .inr (.inl ⟨rfl, by rw [hlen]; rfl⟩), okx_some r D B E kn P l x' hf.out hsz hx1 (by omega)⟩
  | .inn c :: r, D, B, E, kn, P, l, x, hf, hsz, hx, hb => by
    have hsz : endI (((x + B.length : Nat) : Int) + 1) r = F.length := hsz
    rw [List.length_cons] at hb
    by_cases hc : c ∈ F
    · rw [kinds_st hc]
      rw [extL_st hc] at hx ⊢
      have hx1 : ∀ y ∈ extL F (x : Int) r, 0 ≤ y := fun y hy => hx y (List.mem_cons_of_mem _ hy)
      have key : ∀ D' B' E', Fit F D' B' E' kn (P ++ [c]) r → B'.length = B.length + 1 → okx ((if F.idxOf c < l then ("L" : Str) else "R") :: kindsL F (some l) r) ((x : Int) :: extL F (x : Int) r) := fun D' B' E' hf2 hB => by
        have hs : endI ((x + B'.length : Nat) : Int) r = F.length := by
          rw [← hsz]
          congr 1
          omega
        have hlen := wy1_len (n := 0) (lo := some l) hf2 hs
        refine ⟨by omega, by omega, .inr (.inr ⟨?_, by rw [hlen]; rfl⟩), okx_some r D' B' E' kn (P ++ [c]) l x hf2 hs hx1 (by omega)⟩
        by_cases h : F.idxOf c < l
        · rw [if_pos h]; exact .inl rfl
        · rw [if_neg h]; exact .inr rfl
      rcases hf.stay hc with ⟨D0, e, hf2⟩ | ⟨E0, e, hf2⟩
      · exact key _ _ _ hf2 rfl
      · exact key _ _ _ hf2 (by rw [List.length_append]; rfl)
    · rw [kinds_in hc]
      rw [extL_in hc] at hx ⊢
      have e1 : ((x : Int) + 1) = ((x + 1 : Nat) : Int) := by omega
      have e2 : (((x + B.length : Nat) : Int) + 1) = ((x + 1 + B.length : Nat) : Int) := by omega
      rw [e1] at hx ⊢
      rw [e2] at hsz
      have hx1 : ∀ y ∈ extL F ((x + 1 : Nat) : Int) r, 0 ≤ y := fun y hy => hx y (List.mem_cons_of_mem _ hy)
      have hf2 := hf.pass hc
      have hlen := wy1_len (n := 0) (lo := some l) hf2 hsz
      exact ⟨by omega, by omega, .inl ⟨rfl, by rw [hlen]; rfl⟩, okx_some r D B E kn (P ++ [c]) l (x + 1) hf2 hsz hx1 (by omega)⟩
theorem okx_none {F : List Str} : ∀ (r : List Ev) (D E kn P : List Str) (x : Nat), Fit F D [] E kn P r → F ≠ [] → endI (x : Int) r = F.length → (∀ y ∈ extL F (x : Int) r, 0 ≤ y) → x + r.length ≤ 2000 →
    okx ((kindsL F none r).drop (firstOf (kindsL F none r) + 1)) ((extL F (x : Int) r).drop (firstOf (kindsL F none r) + 1)) ∧ (kindsL F none r)[firstOf (kindsL F none r)]? = some "first" ∧ 0 < (wy1 ((kindsL F none r).drop (firstOf (kindsL F none r) + 1)) ((extL F (x : Int) r).drop (firstOf (kindsL F none r) + 1))).length
  | [], D, E, kn, P, x, hf, hF, hsz, hx, hb => absurd hf.nil_end.2.2 hF
  | .out :: r, D, E, kn, P, x, hf, hF, hsz, hx, hb => by
    have hx1 : ∀ y ∈ extL F ((x : Int) - 1) r, 0 ≤ y := fun y hy => hx y (List.mem_cons_of_mem _ hy)
    have hpos := ext_head hx1
    obtain ⟨x', rfl⟩ : ∃ x', x = x' + 1 := ⟨x - 1, by omega⟩
    have e1 : (((x' + 1 : Nat) : Int) - 1) = (x' : Int) := by omega
    rw [e1] at hx1
    have hsz : endI (((x' + 1 : Nat) : Int) - 1) r = F.length := hsz
    rw [e1] at hsz
    rw [List.length_cons] at hb
    have ih := okx_none r D E kn P x' hf.out hF hsz hx1 (by omega)
    show okx (("out" :: kindsL F none r : List Str).drop (firstOf ("out" :: kindsL F none r) + 1)) ((((x' + 1 : Nat) : Int) :: extL F (((x' + 1 : Nat) : Int) - 1) r).drop (firstOf ("out" :: kindsL F none r) + 1)) ∧ ("out" :: kindsL F none r : List Str)[firstOf ("out" :: kindsL F none r)]? = some "first" ∧ 0 < (wy1 (("out" :: kindsL F none r : List Str).drop (firstOf ("out" :: kindsL F none r) + 1)) ((((x' + 1 : Nat) : Int) :: extL F (((x' + 1 : Nat) : Int) - 1) r).drop (firstOf ("out" :: kindsL F none r) + 1))).length
    rw [first_cons (by decide), e1, List.drop_succ_cons, List.drop_succ_cons]
    exact ih
  | .inn c :: r, D, E, kn, P, x, hf, hF, hsz, hx, hb => by
    have hsz : endI ((x : Int) + 1) r = F.length := hsz
    rw [List.length_cons] at hb
    by_cases hc : c ∈ F
    · rw [kinds_first hc]
      rw [extL_st hc] at hx ⊢
      have hx1 : ∀ y ∈ extL F (x : Int) r, 0 ≤ y := fun y hy => hx y (List.mem_cons_of_mem _ hy)
      rw [first_self]
      have key : ∀ D' B' E', Fit F D' B' E' kn (P ++ [c]) r → B'.length = 1 → okx (kindsL F (some (F.idxOf c)) r) (extL F (x : Int) r) ∧ 0 < (wy1 (kindsL F (some (F.idxOf c)) r) (extL F (x : Int) r)).length := fun D' B' E' hf2 hB => by
        have hs : endI ((x + B'.length : Nat) : Int) r = F.length := by
          rw [← hsz]
          congr 1
          omega
        have hlen := wy1_len (n := 0) (lo := some (F.idxOf c)) hf2 hs
        exact ⟨okx_some r D' B' E' kn (P ++ [c]) _ x hf2 hs hx1 (by omega), by omega⟩
      rcases hf.stay hc with ⟨D0, e, hf2⟩ | ⟨E0, e, hf2⟩
      · have := key _ _ _ hf2 rfl
        exact ⟨this.1, rfl, this.2⟩
      · have := key _ _ _ hf2 rfl
        exact ⟨this.1, rfl, this.2⟩
    · rw [kinds_in hc]
      rw [extL_in hc] at hx ⊢
      have e1 : ((x : Int) + 1) = ((x + 1 : Nat) : Int) := by omega
      rw [e1] at hx hsz ⊢
      have hx1 : ∀ y ∈ extL F ((x + 1 : Nat) : Int) r, 0 ≤ y := fun y hy => hx y (List.mem_cons_of_mem _ hy)
      have ih := okx_none r D E kn (P ++ [c]) (x + 1) (hf.pass hc) hF hsz hx1 (by omega)
      rw [first_cons (by decide), List.drop_succ_cons, List.drop_succ_cons]
      exact ih
theorem wb_le {k : Str} {w : List Nat} {x b : Nat} (h : ∀ a, w.getD a 0 ≤ b) : ∀ a, (wb k w x).getD a 0 ≤ 2 * b := by
  intro a
  have h0 : ∀ a, (0 :: w).getD a 0 ≤ b := fun a => by
    cases a with
    | zero => exact Nat.zero_le _
    | succ a => exact h a
  have h1 : ∀ a, (w ++ [0]).getD a 0 ≤ b := fun a => by
    rw [List.getD_eq_getElem?_getD]
    by_cases q : a < w.length
    · rw [List.getElem?_append_left q, ← List.getD_eq_getElem?_getD]
      exact h a
    · rw [List.getElem?_append_right (by omega)]
      cases a - w.length with
      | zero => exact Nat.zero_le _
      | succ n => exact Nat.zero_le _
  have key : ∀ f : Nat → Nat, (∀ a, f a ≤ 2 * b) → ((List.range (x + 1)).map f).getD a 0 ≤ 2 * b := fun f hf => by
    by_cases q : a < x + 1
    · rw [map_getD q]
      exact hf a
    · rw [List.getD_eq_getElem?_getD, List.getElem?_eq_none (by simp; omega)]
      exact Nat.zero_le _
  unfold wb
  split
  · exact key _ fun a => by have := h a; have := h (a + 1); omega
  · split
    · exact key _ fun a => by have := h0 a; have := h1 a; omega
    · refine key _ fun a => ?_
      have := h a
      show (if a = (if k = "L" then 0 else x) then w.getD a 0 else 0) ≤ _
      by_cases q : a = (if k = "L" then 0 else x)
      · rw [if_pos q]; omega
      · rw [if_neg q]; exact Nat.zero_le _
theorem wy1_le : ∀ (k : List Str) (x : List Int) (a : Nat), (wy1 k x).getD a 0 ≤ 2 ^ k.length
  | [], _, 0 => Nat.le_refl _
  | [], _, a + 1 => Nat.zero_le _
  | _ :: _, [], _ => Nat.zero_le _
  | k :: r, x :: xr, a => by
    have := wb_le (k := k) (x := x.toNat) (wy1_le r xr) a
    rw [List.length_cons, Nat.pow_succ, Nat.mul_comm]
    exact this
theorem logB_vld : ∀ (es : List Ev) (us : List Str) (n : Nat), logB us n es = true → vld n es = true
  | [], _, _, _ => rfl
  | .inn c :: r, us, n, h => by
    have h : (if carB c = true ∧ ¬ c ∈ us then logB (c :: us) (n + 1) r else false) = true := h
    split at h
    · exact logB_vld r _ _ h
    · cases h
  | .out :: r, us, n, h => by
    have h : (if 0 < n then logB us (n - 1) r else false) = true := h
    split at h
    · rename_i hp
      show (decide (0 < n) && vld (n - 1) r) = true
      rw [decide_eq_true hp, logB_vld r _ _ h]
      rfl
    · cases h
theorem scCntH : FnScope ["start", "log", "lane", "kinds", "ways", "low", "high", "first"] ["start", "log", "lane"] (defScope sCntH) := ⟨rfl, rfl, rfl, by decide +kernel, rfl, by decide +kernel, by decide +kernel⟩
/-- what the numbers of count_histories need -/
structure CntOk (xs : List Str) (es : List Ev) (F : List Str) : Prop where
  blk : 0 < (brg xs F).2 → okx (kindsL F (lo0 (brg F xs)) es) (ext0 xs F es) ∧ (brg xs F).1 < (wy1 (kindsL F (lo0 (brg F xs)) es) (ext0 xs F es)).length
  non : (brg xs F).2 = 0 → okx ((kindsL F (lo0 (brg F xs)) es).drop (firstOf (kindsL F (lo0 (brg F xs)) es) + 1)) ((ext0 xs F es).drop (firstOf (kindsL F (lo0 (brg F xs)) es) + 1)) ∧ (kindsL F (lo0 (brg F xs)) es)[firstOf (kindsL F (lo0 (brg F xs)) es)]? = some "first" ∧ 0 < (wy1 ((kindsL F (lo0 (brg F xs)) es).drop (firstOf (kindsL F (lo0 (brg F xs)) es) + 1)) ((ext0 xs F es).drop (firstOf (kindsL F (lo0 (brg F xs)) es) + 1))).length
theorem cntOk_of {xs F : List Str} {es : List Ev} (h : Run xs es F) (hn : (xs ++ arrs es).Nodup) (hF0 : F ≠ []) (hb : xs.length + es.length ≤ 2000) : CntOk xs es F := by
  have hsz := h.len
  obtain ⟨A, B, C, D, E, e1, e2, hAC, hf, hx⟩ := fit_of h hn
  have hA : ∀ x ∈ A, x ∉ F := fun x hx => hAC x (List.mem_append_left _ hx)
  have hC : ∀ x ∈ C, x ∉ F := fun x hx => hAC x (List.mem_append_right _ hx)
  have hBF : ∀ x ∈ B, x ∈ F := fun x hx => by rw [e2]; simp [hx]
  have hBx : ∀ x ∈ B, x ∈ xs := fun x hx => by rw [e1]; simp [hx]
  have hlate : ∀ y ∈ D ++ E, y ∉ xs := fun y hy z => (List.nodup_append.mp hn).2.2 y z y (hf.late y hy) rfl
  have hD : ∀ x ∈ D, x ∉ xs := fun x hx => hlate x (List.mem_append_left _ hx)
  have hE : ∀ x ∈ E, x ∉ xs := fun x hx => hlate x (List.mem_append_right _ hx)
  have b1 : brg xs F = if B = [] then (0, 0) else (A.length, A.length + B.length) := by
    have := brg_mid (S := F) hA hBF hC
    rw [← e1] at this
    exact this
  have b2 : brg F xs = if B = [] then (0, 0) else (D.length, D.length + B.length) := by
    have := brg_mid (S := xs) hD hBx hE
    rw [← e2] at this
    exact this
  have hx0 : ((xs.length : Nat) : Int) - stayN xs F = ((A.length + C.length : Nat) : Int) := by
    rw [e1, filt_mid hA hBF hC, List.length_append, List.length_append]
    omega
  have hxl : xs.length = A.length + B.length + C.length := by rw [e1, List.length_append, List.length_append]
  constructor
  · intro hp
    by_cases hB : B = []
    · rw [b1, if_pos hB] at hp
      cases hp
    unfold ext0
    rw [hx0, b1, b2, if_neg hB, if_neg hB]
    have hBl : 0 < B.length := List.length_pos_iff.mpr hB
    have hlo : lo0 (D.length, D.length + B.length) = some D.length := if_neg (by show ¬ D.length + B.length = 0; omega)
    rw [hlo]
    have hs : endI ((A.length + C.length + B.length : Nat) : Int) es = F.length := by
      rw [hsz]
      congr 1
      omega
    refine ⟨okx_some es D B E _ xs D.length _ hf hs hx (by omega), ?_⟩
    rw [wy1_len (n := 0) hf hs]
    show A.length < _
    omega
  · intro hp
    by_cases hB : B = []
    · subst hB
      unfold ext0
      rw [hx0, b2, if_pos rfl]
      exact okx_none es D E _ xs _ hf hF0 (by rw [hsz]; congr 1; rw [hxl]; simp) hx (by simp at hxl; omega)
    · rw [b1, if_neg hB] at hp
      have hBl : 0 < B.length := List.length_pos_iff.mpr hB
      have hp : A.length + B.length = 0 := hp
      omega
section
variable {P : Program} {w : World} {K : PySem.W.Frag} {mg : Str → Option Value} {base : Heap} {Ps : List Addr}
def spCntH (K : PySem.W.Frag) (Ps : List Addr) : Sp := fun vs H Q _ => ∃ (a l f : Addr) (xs : List Str) (as : List Addr) (es : List Ev) (F : List Str), vs = [.ref a, .ref l, .ref f] ∧ LaneAt K H a xs ∧ laneB xs = true ∧ LogAt K H l as es ∧ logB xs xs.length es = true ∧ LaneAt K H f F ∧ laneB F = true ∧ TupD H f (F.map V.str) ∧ Tabs Ps H ∧
  ∀ H', Kp Ps H H' → Q (nV (hcnt F xs es)) H'
theorem ok_cntH {f fP fK fW fE fB : Addr} {fd fdP fdK fdW fdE fdB : FuncData} (F : Fun K "count_histories" "count_histories" sCntH f fd) (B : Bi mg)
    (GP : FnOk P w K mg base CX0 12 fP fdP ["start", "log", "lane"] (spPoss K Ps)) (mgP : mg "is_possible" = some (.ref fP)) (kP : PySem.W.keepIn K (.ref fP) = true) (bP : Binds K fdP ["start", "log", "lane"] [])
    (GK : FnOk P w K mg base CX0 3 fK fdK ["start", "log", "lane"] (spKinds K Ps)) (mgK : mg "list_kinds" = some (.ref fK)) (kK : PySem.W.keepIn K (.ref fK) = true) (bK : Binds K fdK ["start", "log", "lane"] [])
    (GW : FnOk P w K mg base CX0 2 fW fdW ["kinds", "extra"] (spWays K)) (mgW : mg "list_ways" = some (.ref fW)) (kW : PySem.W.keepIn K (.ref fW) = true) (bW : Binds K fdW ["kinds", "extra"] [])
    (GE : FnOk P w K mg base CX0 9 fE fdE ["start", "log", "cars"] (spExtras K Ps)) (mgE : mg "extras" = some (.ref fE)) (kE : PySem.W.keepIn K (.ref fE) = true) (bE : Binds K fdE ["start", "log", "cars"] [])
    (GB : FnOk P w K mg base CX0 1 fB fdB ["start", "cars"] (spBlockR K Ps)) (mgB : mg "block_range" = some (.ref fB)) (kB : PySem.W.keepIn K (.ref fB) = true) (bB : Binds K fdB ["start", "cars"] []) : FnOk P w K mg base CX0 13 f fd ["start", "log", "lane"] (spCntH K Ps) := by
  refine F.ok scCntH (fun vs H Q E h => ?_) (fun cdv A outer s H vs Q E hr h => ?_)
  · obtain ⟨a, l, f, xs, as, es, F, rfl, _⟩ := h
    rfl
  · obtain ⟨a, l, f, xs, as, es, F, rfl, hL, hB, hE, hB2, hLF, hBF, hF, hT, q⟩ := h
    have hr1 := hr.mono (show 1 ≤ 12 by decide)
    have hr2 := hr.mono (show 2 ≤ 12 by decide)
    have hr3 := hr.mono (show 3 ≤ 12 by decide)
    have hr9 := hr.mono (show 9 ≤ 12 by decide)
    refine ⟨_, (pss_cons (ps_if (pt_not (pt_val (pe_call GP hr (by rfl) mgP kP bP .nil pass0 (pa_cons (pv 0) (pa_cons (pv 1) (pa_cons (pv 2) pa_nil))))))
        (pss_one (ps_ret pe_int))
        pss_nil)
      (pss_cons (ps_set (i := 3) scCntH.nd rfl (.inl rfl) (pe_call GK hr3 (by rfl) mgK kK bK .nil pass0 (pa_cons (pv 0) (pa_cons (pv 1) (pa_cons (pv 2) pa_nil)))))
      (pss_cons (ps_if (pt_not (pt_truth (pv 2) (by intro _; rfl)))
        (pss_one (ps_ret (pe_op op_oneShl pe_int (pe_callB call_len_seq (by rfl) B.len PySem.boot_len (pa_cons (pv 3) pa_nil)))))
        pss_nil)
      (pss_cons (ps_set (i := 4) scCntH.nd rfl (.inl rfl) (pe_call GW hr2 (by rfl) mgW kW bW .nil pass0 (pa_cons (pv 3) (pa_cons (pe_call GE hr9 (by rfl) mgE kE bE .nil pass0 (pa_cons (pv 0) (pa_cons (pv 1) (pa_cons (pv 2) pa_nil)))) pa_nil))))
      (pss_cons (ps_asg (pe_call GB hr1 (by rfl) mgB kB bB .nil pass0 (pa_cons (pv 0) (pa_cons (pv 2) pa_nil))) (pg_tup (by rfl) (pgs_cons (pg_name (i := 5) scCntH.nd rfl (.inl rfl)) (pgs_cons (pg_name (i := 6) scCntH.nd rfl (.inl rfl)) pgs_nil))))
      (pss_cons (ps_if (pt_cmpR op_gt (pv 6) pe_int (nomark _))
        (pss_one (ps_ret (pe_ix ix_list (pe_ix ix_list (pv 4) pe_int (fun _ _ => rfl)) (pv 5) (fun _ _ => rfl))))
        pss_nil)
      (pss_cons (ps_set (i := 7) scCntH.nd rfl (.inl rfl) (pe_bm PySem.F.plainAttrs_list PySem.F.slot_list_index PySem.F.type_list_index mt_index (pv 3) (pa_cons pe_str pa_nil)))
      (pss_one (ps_ret (pe_op op_shlN (pe_op op_add (pe_ix ix_list (pe_ix ix_list (pv 4) (pe_op op_add (pv 7) pe_int) (fun _ _ => rfl)) pe_int (fun _ _ => rfl)) (pe_ix ix_list (pe_ix ix_list (pv 4) (pe_op op_add (pv 7) pe_int) (fun _ _ => rfl)) (pe_un un_neg pe_int) (fun _ _ => rfl))) (pv 7))))))))))), ?_⟩
    have hn := logB_nodup es xs xs.length hB2 (laneB_nodup hB)
    have hv := logB_vld es xs xs.length hB2
    have few1 := hL.few
    have few2 := hE.few
    refine ⟨.ref a, rfl, .ref l, rfl, .ref f, rfl, a, l, f, xs, as, es, F, rfl, hL, hB, hE, hB2, hLF, hBF, hF, hT, fun H1 k1 => ⟨_, rfl, ?_⟩⟩
    by_cases hw : why xs es F = .ok
    · have hpb : possB (why xs es F) = true := by rw [hw]; rfl
      have hrun := (why_iff hn (laneB_nodup hBF)).mp hw
      have hcf := hcnt_run hrun hn hv
      rw [hcf] at q
      rw [hpb]
      refine iteF ⟨.ref a, rfl, .ref l, rfl, .ref f, rfl, a, l, f, xs, as, es, F, rfl, (hL.kp k1 hT).at_, hE.kp k1 hT, hF.kp k1 hT, hLF.few, k1.tab, fun H2 p2 k2' hp2 hp2' => ?_⟩
      have k2 := k1.trans k2'
      have hkl : (kindsL F (lo0 (brg F xs)) es).length = es.length := kinds_len
      refine ⟨_, rfl, _, .inr (.inl ⟨_, (hLF.kp k2 hT).at_, rfl⟩), ?_⟩
      unfold countF at q
      by_cases hF0 : F = []
      · rw [if_pos hF0] at q
        rw [hF0]
        refine iteT ⟨.ref p2, rfl, p2, _, rfl, .inl (SqL.of hp2'), (kindsL F (lo0 (brg F xs)) es).length, rfl, ?_, by omega, ?_⟩
        · rw [List.length_map]
        · rw [hkl]
          have := q H2 k2
          unfold nV at this
          rw [Int.natCast_pow] at this
          exact this
      · rw [if_neg hF0] at q
        have hco := cntOk_of hrun hn hF0 (by omega)
        have hne : (!(F.map V.str).isEmpty) = true := by
          cases F with
          | nil => exact absurd rfl hF0
          | cons c r => rfl
        rw [hne]
        refine iteF ⟨_, rfl, .ref a, rfl, .ref l, rfl, .ref f, rfl, a, l, f, xs, as, es, F, rfl, hL.kp k2 hT, hB, hE.kp k2 hT, hB2, (hLF.kp k2 hT).at_, k2.tab, fun H3 p3 k3' hp3 hp3' => ?_⟩
        have k3 := k2.trans k3'
        have hxl : (ext0 xs F es).length = es.length + 1 := extL_len _ _ es
        have p2' := k3'.lst k2.tab hp2'
        -- where the numbers begin
        obtain ⟨c, hc1, hc2, hc3⟩ : ∃ c : Nat, (c = 0 ∨ ∃ j, c = j + 1 ∧ (kindsL F (lo0 (brg F xs)) es)[j]? = some "first") ∧ c ≤ (kindsL F (lo0 (brg F xs)) es).length ∧ okx ((kindsL F (lo0 (brg F xs)) es).drop c) ((ext0 xs F es).drop c) ∧ ((0 < (brg xs F).2 ∧ c = 0) ∨ ((brg xs F).2 = 0 ∧ c = firstOf (kindsL F (lo0 (brg F xs)) es) + 1)) := by
          by_cases hb : 0 < (brg xs F).2
          · exact ⟨0, .inl rfl, Nat.zero_le _, (hco.blk hb).1, .inl ⟨hb, rfl⟩⟩
          · have hz : (brg xs F).2 = 0 := by omega
            have h2 := (hco.non hz).2.1
            exact ⟨_, .inr ⟨_, rfl, h2⟩, (List.getElem?_eq_some_iff.mp h2).1, (hco.non hz).1, .inr ⟨hz, rfl⟩⟩
        refine ⟨p2, p3, _, _, c, rfl, p2', hp3', by omega, by omega, hc1, hc2, hc3.1, fun H4 p4 ps sm4 hp4 hp4' hpl hgood => ?_⟩
        have k4 : Kp Ps H H4 := ⟨fun b o e n => sm4 _ _ (k3.at_ b o e n), tabs_same k3.tab sm4⟩
        have p24 := sm4 _ _ p2'
        refine ⟨.ref a, rfl, .ref f, rfl, a, f, xs, F, rfl, (hL.kp k4 hT).at_, (hLF.kp k4 hT).at_, few1, k4.tab, fun H5 p5 k5' hp5 hp5' => ⟨p5, _, rfl, SqT.of hp5', rfl, _, _, rfl, _, _, rfl, rfl, ?_⟩⟩
        have k5 := k4.trans k5'
        have p45 := k5'.lst k4.tab hp4'
        have p25 := k5'.lst k4.tab p24
        rcases hc3.2 with ⟨hb, rfl⟩ | ⟨hb, rfl⟩
        · rw [if_pos hb] at q
          obtain ⟨q0, hq0, hq0'⟩ := hgood 0 (Nat.le_refl _) (Nat.zero_le _)
          rw [List.drop_zero, List.drop_zero] at hq0'
          have q05 := k5'.lst k4.tab hq0'
          refine ⟨_, rfl, _, _, rfl, rfl, true, congrArg V.bl (decide_eq_true (by show ((brg xs F).2 : Int) > 0; omega)), iteT ?_⟩
          exact ⟨.ref p4, rfl, p4, _, 0, .ref q0, rfl, rfl, SqL.of p45, atI_nat (j := 0) (by rw [List.getElem?_map, hq0]; rfl), _, rfl, q0, _, _, _, rfl, rfl, SqL.of q05, atI_nat (nV_at (hco.blk hb).2), q H5 k5⟩
        · have hnb : ¬ 0 < (brg xs F).2 := by omega
          rw [if_neg hnb] at q
          have hnon := hco.non hb
          refine ⟨_, rfl, _, _, rfl, rfl, false, congrArg V.bl (decide_eq_false (by show ¬ ((brg xs F).2 : Int) > 0; omega)), iteF ?_⟩
          unfold hcntF at q
          generalize hfo : firstOf (kindsL F (lo0 (brg F xs)) es) = fo at *
          have hfol : fo < (kindsL F (lo0 (brg F xs)) es).length := (List.getElem?_eq_some_iff.mp hnon.2.1).1
          obtain ⟨q0, hq0, hq0'⟩ := hgood (fo + 1) (Nat.le_refl _) hfol
          have q05 := k5'.lst k4.tab hq0'
          have hle := wy1_le ((kindsL F (lo0 (brg F xs)) es).drop (fo + 1)) ((ext0 xs F es).drop (fo + 1))
          have hkd : ((kindsL F (lo0 (brg F xs)) es).drop (fo + 1)).length ≤ 400 := by rw [List.length_drop]; omega
          have hw0 := hnon.2.2
          generalize wy1 ((kindsL F (lo0 (brg F xs)) es).drop (fo + 1)) ((ext0 xs F es).drop (fo + 1)) = wl at *
          have hlastE : ∃ wi v, wl = wi ++ [v] ∧ v = wl.getD (wl.length - 1) 0 := by
            rcases List.eq_nil_or_concat wl with h | ⟨wi, v, h⟩
            · rw [h] at hw0; cases hw0
            · rw [List.concat_eq_append] at h
              refine ⟨wi, v, h, ?_⟩
              rw [h, List.length_append]
              show v = (wi ++ [v]).getD (wi.length + 1 - 1) 0
              rw [Nat.add_sub_cancel, List.getD_eq_getElem?_getD, List.getElem?_append_right (Nat.le_refl _), Nat.sub_self]
              rfl
          obtain ⟨wi, v, hwl, hv'⟩ := hlastE
          have hlast : atI (wl.map nV) (-1) = some (nV (wl.getD (wl.length - 1) 0)) := by
            rw [← hv', hwl, List.map_append]
            exact atI_last _ _
          have hfirst : fo = (kindsL F (lo0 (brg F xs)) es).idxOf ("first" : Str) := hfo.symm
          refine ⟨.ref p2, rfl, .inl ⟨rfl, _, SqL.of p25⟩, p2, (kindsL F (lo0 (brg F xs)) es).map V.str, .str "first", fo, .str "first", rfl, rfl, SqL.of p25, rfl, flat_strs _, by rw [List.getElem?_map, hnon.2.1]; rfl, ?_, fun m z' hm hz => ?_, ?_⟩
          · show decide (("first" : Str) = "first") = true
            exact decide_eq_true rfl
          · rw [List.getElem?_map] at hz
            have hml : m < (kindsL F (lo0 (brg F xs)) es).length := by omega
            rw [List.getElem?_eq_getElem hml] at hz
            obtain rfl := Option.some.inj hz
            show ((kindsL F (lo0 (brg F xs)) es)[m] == ("first" : Str)) = false
            have := List.not_of_lt_findIdx (p := (· == ("first" : Str))) (xs := kindsL F (lo0 (brg F xs)) es) (by rw [hfirst] at hm; exact hm)
            simpa using this
          have e45 : ∀ x : V, (ps.map V.ref)[fo + 1]? = some (.ref q0) := fun _ => by rw [List.getElem?_map, hq0]; rfl
          refine ⟨.ref p4, rfl, _, rfl, _, _, rfl, rfl, p4, _, ((fo : Int) + 1), .ref q0, rfl, rfl, SqL.of p45, atI_nat (j := fo + 1) (e45 .non), q0, _, 0, _, rfl, rfl, SqL.of q05, atI_nat (j := 0) (nV_at hw0), .ref p4, rfl, _, rfl, _, _, rfl, rfl, p4, _, ((fo : Int) + 1), .ref q0, rfl, rfl, SqL.of p45, atI_nat (j := fo + 1) (e45 .non), 1, rfl, q0, _, -1, _, rfl, rfl, SqL.of q05, hlast, _, _, rfl, rfl, _, rfl, _, fo, rfl, rfl, ?_, ?_⟩
          · have h1 := hle 0
            have h2 := hle (wl.length - 1)
            have h3 : 2 ^ ((kindsL F (lo0 (brg F xs)) es).drop (fo + 1)).length ≤ 2 ^ 400 := Nat.pow_le_pow_right (by decide) hkd
            refine shl_ok (n := 402) ?_ (by omega)
            show ((wl.getD 0 0 : Int) + (wl.getD (wl.length - 1) 0 : Int)).natAbs < 2 ^ 402
            have h4 : (2 : Nat) ^ 402 = 4 * 2 ^ 400 := by decide +kernel
            have h5 : 0 < (2 : Nat) ^ 400 := Nat.pow_pos (by decide)
            omega
          · have := q H5 k5
            unfold nV at this
            rw [Int.natCast_mul, Int.natCast_add, Int.natCast_pow] at this
            exact this
    · have hpb : possB (why xs es F) = false := by
        cases h : why xs es F with
        | ok => exact absurd h hw
        | _ => rfl
      rw [hpb]
      have hz : hcnt F xs es = 0 := hcnt_zero hv fun z => hw ((why_iff hn (laneB_nodup hBF)).mpr z)
      rw [hz] at q
      exact iteT (q H1 k1)
end
end Ln


set_option Elab.async false
set_option linter.all false
set_option maxRecDepth 100000
set_option maxHeartbeats 4000000
namespace Ln
open PySem PySem.Spec PyProof.Rows L2 GxR
/-! ### events as data -/
theorem dvE {K : PySem.W.Frag} {H : Hp} {a : Addr} {e : Ev} (h : SqT K H a e.vals) (hz : ∀ c, e = .inn c → c.length ≤ sizeLine) : Dv K H (.ref a) (Ev.dat e) := by
  cases e with
  | inn c => exact .tup h (.cons (.str "in" (by rw [sizeLine_eq]; decide)) (.cons (.str c (hz c rfl)) .nil))
  | out => exact .tup h (.cons (.str "out" (by rw [sizeLine_eq]; decide)) .nil)
theorem dvEs {K : PySem.W.Frag} {H : Hp} : ∀ {as : List Addr} {es : List Ev}, EvsAt K H as es → (∀ c, Ev.inn c ∈ es → c.length ≤ sizeLine) → DvAll K H (as.map V.ref) (es.map Ev.dat)
  | _, _, .nil, _ => .nil
  | _, _, .cons h t, hz => .cons (dvE h fun c e => hz c (e ▸ List.mem_cons_self)) (dvEs t fun c hc => hz c (List.mem_cons_of_mem _ hc))
end Ln


set_option Elab.async false
set_option linter.all false
set_option maxRecDepth 100000
set_option maxHeartbeats 2000000
namespace Ln
open PySem PySem.Spec PyProof.Rows L2 GxR
section
variable {X : Cx}
/-- repr of a value of any plain kind, where nothing is being shown -/
def rReprV (K : PySem.W.Frag) : List V → Hp → VK → Prop := fun vs H Q => ∃ (v : V) (d : PyData) (dep w : Nat), vs = [v] ∧ Dv K H v d ∧ Rp d dep w ∧ dep ≤ 50 ∧ w ≤ 1000000 ∧ Q (.str d.shown) H
theorem cr_reprV (hg : X.A.guards = some []) (hu : X.A.units + 64 < cLine) : CallR X (.builtin "repr") (rReprV X.K) := by
  intro pins s σ H vs us Q I r h
  obtain ⟨v, d, dep, w, rfl, hd, hG, h60, hw, q⟩ := h
  obtain ⟨u, rfl, r1⟩ := vals1 r
  have hz := hG.len hw
  have hdp := hG.dep
  have hs := hG.sh
  have fin : ∀ (h' : Heap) (u : Tok) (tk : _), (∀ b o, s.heap.get? b = some o → h'.get? b = some o) → EP X pins σ Q (.str d.shown u) { s with heap := h', toks := tk } := fun h' u tk hk => ⟨.str _, H, I.kept hk, ⟨_, rfl⟩, q⟩
  have kk : ∀ b o, s.heap.get? b = some o → s.heap.get? b = some o := fun _ _ e => e
  cases hd with
  | non =>
    cases r1
    rw [PyData.shown] at fin
    exact P.repr_of_none (fin s.heap _ _ kk)
  | bl b =>
    cases r1
    rw [PyData.shown] at fin
    cases b
    · exact P.repr_of_bool (fin s.heap _ _ kk)
    · exact P.repr_of_bool (fin s.heap _ _ kk)
  | int i =>
    obtain ⟨t, rfl⟩ := r1
    rw [PyData.shown] at fin
    rw [PyData.showable] at hs
    exact P.repr_of_int (of_decide_eq_true hs) (fin s.heap _ _ kk)
  | str x _ =>
    obtain ⟨t, rfl⟩ := r1
    rw [PyData.shown] at fin hz
    exact P.repr_of_str (fin s.heap _ _ kk) hz
  | @lst a xs ds hq ha =>
    obtain rfl : u = Value.ref a := r1
    rw [PyData.shown] at hz fin
    rw [PyData.showable] at hs
    rw [PyData.depth] at hdp
    obtain ⟨its, rv, ⟨o, n, ho, hc, _, hd⟩, _⟩ := I.list hq
    obtain ⟨⟨as, hr⟩, bs, hb, hk⟩ := DvAll.repk I ds _ its ha rv hs fun t ht => Nat.le_trans (listText_mem_le ht) hz
    have rd := Reads.list ho hc hd hr
    have hna := not_mem_of_deeper rd (n := PyData.depthAll ds) (by rw [PyData.depth]; omega) hb
    refine call_repr_slot (by omega) (show s.TypeIs (.ref a) "list" from ⟨o, ho, hc⟩) F.slot_list_repr.toG ?_
    cases its with
    | nil =>
      cases hr
      rw [PyData.shownAll, listText_nil] at fin
      exact call_list_repr_empty ⟨o, ho, hc⟩ ho hd ⟨_, _, rfl, fin s.heap _ _ kk⟩
    | cons y l =>
      exact call_list_reprK ho hc hd hna (by simpa using hk.length_eq) (fun i y e => hk.item i y (by simpa using e)) hg (fun b _ => Clear.nil b) (by show X.A.units + 1 + (PyData.depthAll ds + 1) < cLine; omega) (fun _ _ e => e) (fun h' u tk hk => ⟨_, _, rfl, fin h' u tk hk⟩) hz
  | @tup a xs ds hq ha =>
    obtain rfl : u = Value.ref a := r1
    rw [PyData.shown] at hz fin
    rw [PyData.showable] at hs
    rw [PyData.depth] at hdp
    obtain ⟨its, rv, ⟨o, ho, hc, n, hd⟩, _⟩ := I.tuple hq
    obtain ⟨⟨as, hr⟩, bs, hb, hk⟩ := DvAll.repk I ds _ its ha rv hs fun t ht => Nat.le_trans (tupleText_mem_le ht) hz
    have rd := Reads.tuple ho hc hd hr
    have hna := not_mem_of_deeper rd (n := PyData.depthAll ds) (by rw [PyData.depth]; omega) hb
    refine call_repr_slot (by omega) (show s.TypeIs (.ref a) "tuple" from ⟨o, ho, hc⟩) F.slot_tuple_repr ?_
    exact call_tuple_reprK ho hc hd hna hk hg (fun b _ => Clear.nil b) (by show X.A.units + 1 + (PyData.depthAll ds + 1) < cLine; omega) (fun _ _ e => e) (fun h' u tk hk => ⟨_, _, rfl, fin h' u tk hk⟩) hz
  | @dic a e =>
    obtain rfl : u = Value.ref a := r1
    obtain ⟨_, hsys, vs, kv, o, es, ep, ho, hx, hd, _, hp, _⟩ := dk_of I.hok e
    have e0 : vs = [] := by cases kv; rfl
    subst e0
    have e1 : es.toList = [] := by
      cases q : es.toList with
      | nil => rfl
      | cons a b =>
        rw [q] at hp
        cases hp
    refine call_repr_slot (by omega) (show s.TypeIs (.ref a) "dict" from ⟨o, ho, hx.1⟩) F.slot_dict_repr ?_
    have hz2 : (dictText []).length ≤ sizeLine := by rw [sizeLine_eq]; decide
    exact call_dict_reprK (as := []) (d := 0) (ps := []) ho hx.1 hd hsys (fun z => nomatch z) (by rw [e1]; exact .nil) hg (fun b _ => Clear.nil b) (by show X.A.units + 1 + (0 + 1) < cLine; omega) (fun _ _ e => e) (fun h' u tk hk => ⟨_, _, rfl, fin h' u tk hk⟩) hz2
end
end Ln


set_option Elab.async false
set_option linter.all false
set_option maxRecDepth 100000
set_option maxHeartbeats 8000000
namespace Ln
open PySem PySem.Spec PyProof.Rows L2 GxR
/-! ### k17: _law_right -/
theorem scRight17 : FnScope ["source", "begin", "events", "table", "size", "before", "some", "final", "due", "told", "copy_of", "found"] ["source"] (defScope sRight) := ⟨rfl, rfl, rfl, by decide +kernel, rfl, by decide +kernel, by decide +kernel⟩
def rot3 {α : Type} : List α → List α → List α
  | [], [x, y, z] => [y, z, x]
  | _, _ => []
theorem hcnt_pos {L F : List Str} {es : List Ev} (h : Run L es F) : 0 < hcnt F L es := by
  induction h with
  | nil L =>
    show 0 < if L = L then 1 else 0
    rw [if_pos rfl]
    exact Nat.one_pos
  | @cons L L1 F e r m _ ih =>
    rw [hcnt_cons]
    have key : ∀ b : Bool, mvB L e b = L1 → 0 < hcnt F (mvB L e true) r + hcnt F (mvB L e false) r := fun b hb => by
      cases b with
      | true => rw [hb]; omega
      | false => rw [hb]; omega
    cases m with
    | inL c L => exact key true rfl
    | inR c L => exact key false rfl
    | outL x L => exact key true rfl
    | outR x L => exact key false (by show (L1 ++ [x]).take _ = L1; exact take_right)
theorem TupD.chg {H H' : Hp} {t s : Addr} {ys l : List V} (h : TupD H t ys) (c : Ch s H H') (hs : H s = some (.lst l)) : TupD H' t ys := by
  obtain ⟨ob, d, e⟩ := h
  exact ⟨ob, d, c _ _ e fun z => by rw [z, hs] at e; cases e⟩
theorem TsT.mem {H : Hp} {ps : List Addr} {Fs : List (List Str)} {t : Addr} (h : TsT H ps Fs) : t ∈ ps → ∃ F ∈ Fs, TupD H t (F.map V.str) := by
  induction h with
  | nil => exact fun z => nomatch z
  | cons a _ ih =>
    intro z
    rcases List.mem_cons.mp z with e | e
    · exact ⟨_, List.mem_cons_self, by rw [e]; exact a⟩
    · obtain ⟨F, h1, h2⟩ := ih e
      exact ⟨F, List.mem_cons_of_mem _ h1, h2⟩
theorem kp_sm17 {Ps : List Addr} {H H1 : Hp} (hT : Tabs Ps H) (m : L2.Same H H1) : Kp Ps H H1 := ⟨fun b o e n => m _ _ e, tabs_same hT m⟩
theorem kz_kp {P : Program} {w : World} {Ps : List Addr} {H H1 : Hp} {D : Addr} {zs : List Kz} (k : Kp Ps H H1) (hT : Tabs Ps H) (h : H D = some (KZ P w D zs)) : H1 D = some (KZ P w D zs) := by
  refine k.at_ D _ h fun z => ?_
  obtain ⟨ps, e, _⟩ := hT D z
  rw [h] at e
  cases e
theorem KeysZ.kp {Ps : List Addr} {H H1 : Hp} {zs : List Kz} (h : KeysZ H zs) (k : Kp Ps H H1) (hT : Tabs Ps H) : KeysZ H1 zs := fun q hq => (h q hq).kp k hT
theorem extL_end : ∀ (es : List Ev) (x : Int), ∃ pre, extL [] x es = pre ++ [endI x es]
  | [], x => ⟨[], rfl⟩
  | .inn c :: r, x => by
    obtain ⟨pre, h⟩ := extL_end r (x + 1)
    exact ⟨x :: pre, by rw [extL_in (by simp), h]; rfl⟩
  | .out :: r, x => by
    obtain ⟨pre, h⟩ := extL_end r (x - 1)
    exact ⟨x :: pre, by show x :: extL [] (x - 1) r = _; rw [h]; rfl⟩
theorem vld_end : ∀ (es : List Ev) (n : Nat), vld n es = true → ∃ m : Nat, endI (n : Int) es = (m : Int) ∧ m ≤ n + es.length
  | [], n, _ => ⟨n, rfl, Nat.le_refl _⟩
  | .inn c :: r, n, h => by
    obtain ⟨m, e, hm⟩ := vld_end r (n + 1) h
    exact ⟨m, by rw [← e]; rfl, by rw [List.length_cons]; omega⟩
  | .out :: r, n, h => by
    have h : (decide (0 < n) && vld (n - 1) r) = true := h
    rw [Bool.and_eq_true] at h
    have hp := of_decide_eq_true h.1
    obtain ⟨m, e, hm⟩ := vld_end r (n - 1) h.2
    refine ⟨m, ?_, by rw [List.length_cons]; omega⟩
    rw [← e]
    show endI ((n : Int) - 1) r = _
    congr 1
    omega
theorem dp_sides {K : PySem.W.Frag} {H : Hp} : ∀ bs : List Bool, DpAll K H (bs.map sB) ((bs.map fun x => if x = true then ("L" : Str) else "R").map PyData.str)
  | [] => .nil
  | x :: r => .cons (.str _) (dp_sides r)
theorem sides_ok (bs : List Bool) : ∀ x ∈ bs.map (fun x => if x = true then ("L" : Str) else "R"), PyData.strOk x = true := fun x hx => by
  obtain ⟨b, _, rfl⟩ := List.mem_map.mp hx
  cases b <;> decide +kernel
theorem eqvL_strs (xs ys : List Str) : PyData.eqv (.list (xs.map PyData.str)) (.list (ys.map PyData.str)) = decide (xs = ys) := by
  rw [← eqv_strs xs ys]
  simp [PyData.eqv]
section
variable {P : Program} {w : World} {K : PySem.W.Frag} {mg : Str → Option Value} {base : Heap} {Ps : List Addr}
def spRight17 (K : PySem.W.Frag) (Ps : List Addr) : Sp := fun vs H Q _ => ∃ (s : Addr) (l : List V), vs = [.ref s] ∧ H s = some (.lst l) ∧ SrcV 0 l ∧ Tabs Ps H ∧ ∀ H', (∀ b o, H b = some o → b ≠ s → b ∉ Ps → H' b = some o) → Tabs Ps H' → Q (.bl true) H'
theorem ok_right17 {f fM fT fC fO fH fP fN fA : Addr} {fd fdM fdT fdC fdO fdH fdP fdN fdA : FuncData} (F : Fun K "_law_right" "_law_right" sRight f fd) (B : Bi mg) (B2 : Bl mg)
    (GM : FnOk P w K mg base CX0 4 fM fdM ["source", "most"] spSmall2) (mgM : mg "_law_small" = some (.ref fM)) (kM : PySem.W.keepIn K (.ref fM) = true) (bM : Binds K fdM ["source", "most"] [])
    (GT : FnOk P w K mg base CX0 2 fT fdT ["begin", "events"] (spTable P w K)) (mgT : mg "_law_table" = some (.ref fT)) (kT : PySem.W.keepIn K (.ref fT) = true) (bT : Binds K fdT ["begin", "events"] [])
    (GC : FnOk P w K mg base CX0 1 fC fdC ["size", "events"] (spCounts2 K)) (mgC : mg "_law_counts" = some (.ref fC)) (kC : PySem.W.keepIn K (.ref fC) = true) (bC : Binds K fdC ["size", "events"] [])
    (GO : FnOk P w K mg base CX0 3 fO fdO ["source", "begin", "events", "size", "amount"] (spOthers K)) (mgO : mg "_law_others" = some (.ref fO)) (kO : PySem.W.keepIn K (.ref fO) = true) (bO : Binds K fdO ["source", "begin", "events", "size", "amount"] [])
    (GH : FnOk P w K mg base CX0 13 fH fdH ["start", "log", "lane"] (spHist K Ps)) (mgH : mg "history" = some (.ref fH)) (kH : PySem.W.keepIn K (.ref fH) = true) (bH : Binds K fdH ["start", "log", "lane"] []) (kbH : KBinds K fdH ["start", "log", "lane"] ["lane", "log", "start"] rev3 rev3)
    (GP : FnOk P w K mg base CX0 1 fP fdP ["begin", "events", "ends"] (spPlay K)) (mgP : mg "_law_play" = some (.ref fP)) (kP : PySem.W.keepIn K (.ref fP) = true) (bP : Binds K fdP ["begin", "events", "ends"] [])
    (GN : FnOk P w K mg base CX0 13 fN fdN ["start", "log", "lane"] (spCntH K Ps)) (mgN : mg "count_histories" = some (.ref fN)) (kN : PySem.W.keepIn K (.ref fN) = true) (bN : Binds K fdN ["start", "log", "lane"] []) (kbN : KBinds K fdN ["start", "log", "lane"] ["lane", "start", "log"] rot3 rot3)
    (GA : FnOk P w K mg base CX0 4 fA fdA ["found", "due"] (spAlike K 3)) (mgA : mg "_law_alike" = some (.ref fA)) (kA : PySem.W.keepIn K (.ref fA) = true) (bA : Binds K fdA ["found", "due"] []) :
    FnG P w K mg base 14 f fd ["source"] (spRight17 K Ps) := by
  refine Fun.okG F scRight17 (fun vs H Q E h => ?_) (fun cdv A outer s H vs Q E hr hgd h => ?_)
  · obtain ⟨s0, l, rfl, _⟩ := h
    rfl
  · obtain ⟨s0, l, rfl, hs, hl, hT, q⟩ := h
    have hu : A.units + 3 + 64 < cLine := hr.units
    have hu1 := hu_of hr
    have hr1 := hr.mono (show 1 ≤ 13 by decide)
    have hr2 := hr.mono (show 2 ≤ 13 by decide)
    have hr3 := hr.mono (show 3 ≤ 13 by decide)
    have hr4 := hr.mono (show 4 ≤ 13 by decide)
    refine ⟨_, (pss_cons (ps_asg (pe_call GM hr4 (by rfl) mgM kM bM .nil pass0 (pa_cons (pv 0) (pa_cons pe_int pa_nil))) (pg_tup (by rfl) (pgs_cons (pg_name (i := 1) scRight17.nd rfl (.inl rfl)) (pgs_cons (pg_name (i := 2) scRight17.nd rfl (.inl rfl)) pgs_nil))))
      (pss_cons (ps_set (i := 3) scRight17.nd rfl (.inl rfl) (pe_call GT hr2 (by rfl) mgT kT bT .nil pass0 (pa_cons (pv 1) (pa_cons (pv 2) pa_nil))))
      (pss_cons (ps_set (i := 4) scRight17.nd rfl (.inl rfl) (pe_ix ix_list (pe_call GC hr1 (by rfl) mgC kC bC .nil pass0 (pa_cons (pe_callB call_len_seq (by rfl) B.len PySem.boot_len (pa_cons (pv 1) pa_nil)) (pa_cons (pv 2) pa_nil))) (pe_un un_neg pe_int) (fun _ _ => rfl)))
      (pss_cons (ps_set (i := 5) scRight17.nd rfl (.inl rfl) (pe_callB (cr_reprV hgd hu) (by rfl) B2.rep (by decide +kernel) (pa_cons (pv 2) pa_nil)))
      (pss_cons (ps_set (i := 6) scRight17.nd rfl (.inl rfl) (pe_stepL (pe_callTy (call_list_kz rfl) (by rfl) B.lst (by decide +kernel) (pa_cons (pv 3) pa_nil)) (pe_op op_add pe_int (pe_op op_fdiv (pe_callB call_len_kz (by rfl) B.len PySem.boot_len (pa_cons (pv 3) pa_nil)) pe_int))))
      (pss_cons (ps_for PassesOwn.never rfl (pi_list (pe_op op_cat (pv 6) (pe_call GO hr3 (by rfl) mgO kO bO .nil pass0 (pa_cons (pv 0) (pa_cons (pv 1) (pa_cons (pv 2) (pa_cons (pv 4) (pa_cons pe_int pa_nil)))))))) (pg_name (i := 7) scRight17.nd rfl (.inl rfl))
        (pss_cons (ps_set (i := 8) scRight17.nd rfl (.inl rfl) (pe_callB call_len_seq (by rfl) B.len PySem.boot_len (pa_cons (pe_zget hu1 (pv 3) (pv 7) (pe_lst pa_nil) ⟨rfl, rfl, rfl, rfl⟩) pa_nil)))
        (pss_cons (ps_set (i := 9) scRight17.nd rfl (.inl rfl) (pe_call GH hr (by rfl) mgH kH bH .nil pass0 (pa_cons (pv 1) (pa_cons (pv 2) (pa_cons (pv 7) pa_nil)))))
        (pss_cons (ps_if (pt_cmpR op_ne (pe_cmpR op_isN1 (pv 9) pe_non (nomark _)) (pe_cmpR op_eq (pv 8) pe_int (nomark _)) (nomark _))
          (pss_one (ps_ret pe_bl))
          pss_nil)
        (pss_cons (ps_if (pt_cmpR op_notN1 (pv 9) pe_non (nomark _))
          (pss_cons (ps_if (PW.pt (pw_or (pt_not (pt_val (pe_callB call_isi (by rfl) B.isi (by decide +kernel) (pa_cons (pv 9) (pa_cons (pe_bltn (by rfl) B.lst (by decide +kernel) (v := .ty "list") rfl) pa_nil))))) (pw_or (pt_cmpR op_ne (pe_callB call_len_seq (by rfl) B.len PySem.boot_len (pa_cons (pv 9) pa_nil)) (pe_callB call_len_seq (by rfl) B.len PySem.boot_len (pa_cons (pv 2) pa_nil)) (nomark _)) (pw_or1 (pt_cmpR (op_neD hu) (pe_ix ix_tup (pe_call GP hr1 (by rfl) mgP kP bP .nil pass0 (pa_cons (pv 1) (pa_cons (pv 2) (pa_cons (pv 9) pa_nil)))) pe_int (fun _ _ => rfl)) (pv 7) (nomark _))))))
            (pss_one (ps_ret pe_bl))
            pss_nil)
          (pss_cons (ps_set (i := 10) scRight17.nd rfl (.inl rfl) (pe_callTy call_list_of (by rfl) B.lst (by decide +kernel) (pa_cons (pv 9) pa_nil)))
          (pss_cons (ps_expr (pe_bm PySem.F.plainAttrs_list PySem.F.slot_list_append PySem.F.type_list_append mt_append (pv 9) (pa_cons pe_str pa_nil)))
          (pss_one (ps_if (pt_cmpR (op_neD hu) (pe_callK0 GH hr (by rfl) mgH kH kbH pass0 (pk_cons (pv 7) (pk_cons (pv 2) (pk_cons (pv 1) pk_nil)))) (pv 10) (nomark _))
            (pss_one (ps_ret pe_bl))
            pss_nil)))))
          pss_nil)
        (pss_cons (ps_set (i := 11) scRight17.nd rfl (.inl rfl) (pe_lst (pa_cons (pe_call GN hr (by rfl) mgN kN bN .nil pass0 (pa_cons (pv 1) (pa_cons (pv 2) (pa_cons (pv 7) pa_nil)))) (pa_cons (pe_callK0 GN hr (by rfl) mgN kN kbN pass0 (pk_cons (pv 7) (pk_cons (pv 1) (pk_cons (pv 2) pk_nil)))) pa_nil))))
        (pss_one (ps_if (PW.pt (pw_or (pt_not (pt_val (pe_call GA hr4 (by rfl) mgA kA bA .nil pass0 (pa_cons (pv 11) (pa_cons (pe_lst (pa_cons (pv 8) (pa_cons (pv 8) pa_nil))) pa_nil))))) (pw_or1 (pt_cmpR op_ne (pe_callB (cr_reprV hgd hu) (by rfl) B2.rep (by decide +kernel) (pa_cons (pv 2) pa_nil)) (pv 5) (nomark _)))))
          (pss_one (ps_ret pe_bl))
          pss_nil))))))))
      (pss_one (ps_ret pe_bl)))))))), ?_⟩
    -- begin, events
    refine ⟨.ref s0, rfl, s0, l, 0, 8, rfl, hs, hl, by decide, by decide, fun H1 t b o xs as es l1 sm => ⟨t, _, rfl, SqT.of sm.tup, rfl, _, _, rfl, _, _, rfl, rfl, ?_⟩⟩
    have hv := logB_vld es xs _ sm.log
    have hfo := sm.fo
    have hE1 : EvsAt K H1 as es := sm.evs.at_
    have hlen := Paired.length hE1
    have fx := sm.few
    have fe := sm.el
    have hnd := logB_nodup es xs _ sm.log (laneB_nodup sm.cars)
    have hcar : ∀ c ∈ xs ++ arrs es, carB c = true := fun c hc => (List.mem_append.mp hc).elim (fun h => carsOf sm.cars c h) fun h => logB_cars es xs _ sm.log c h
    -- the table
    refine ⟨.ref b, rfl, .ref o, rfl, b, o, xs, as, es, rfl, sm.lane.sq, SqL.of sm.lst, hE1, hv, by omega, sm.el, fun H2 D zs sm2 hD hD' tb => ?_⟩
    have hE2 : EvsAt K H2 as es := Paired.imp hE1 fun _ _ z => sqT_sm z sm2
    have hb2 := sm.lane.same sm2
    have ho2 := sm2 _ _ sm.lst
    -- size
    refine ⟨.ref b, rfl, b, _, rfl, .inr hb2.sq, .ref o, rfl, _, o, as, es, rfl, SqL.of ho2, hE2, by omega, fun H3 c sm3 hc hc' => ?_⟩
    rw [List.length_map] at hc'
    obtain ⟨size, hsize, hsz⟩ := vld_end es xs.length hv
    obtain ⟨pre, hpre⟩ := extL_end es (xs.length : Int)
    rw [hsize] at hpre
    have hat : atI ((extL [] (xs.length : Int) es).map V.int) (-1) = some (V.int (size : Nat)) := by
      rw [hpre, List.map_append]
      exact atI_last _ _
    refine ⟨1, rfl, c, _, -1, _, rfl, rfl, SqL.of hc', hat, ?_⟩
    have sm13 := sm_trans sm2 sm3
    have hE3 : EvsAt K H3 as es := Paired.imp hE1 fun _ _ z => sqT_sm z sm13
    have hb3 := sm.lane.same sm13
    have ho3 := sm13 _ _ sm.lst
    have hs3 := sm13 _ _ sm.src
    have hD3 := sm3 _ _ hD'
    -- before
    have hinn : ∀ c, Ev.inn c ∈ es → carB c = true := fun c h => hcar c (List.mem_append_right _ (mem_arrs h))
    have hszE : ∀ c, Ev.inn c ∈ es → c.length ≤ sizeLine := fun c h => car_sz (hinn c h)
    have hrp : Rp (.list (es.map Ev.dat)) 5 5000 := (rp_evs hinn (by omega)).list
    refine ⟨.ref o, rfl, .ref o, _, 5, 5000, rfl, .lst (SqL.of ho3) (dvEs hE3 hszE), hrp, by decide, by decide, ?_⟩
    -- some
    have hzl : zs.length ≤ 256 := by
      have h1 := tb.few
      rw [allE_size] at h1
      have h2 : 2 ^ es.length ≤ 2 ^ 8 := Nat.pow_le_pow_right (by decide) sm.el
      omega
    refine ⟨.ref D, rfl, D, zs, rfl, hD3, by omega, fun p hp => ⟨p, rfl, .ref D, rfl, D, zs, rfl, ?_⟩⟩
    have sm4 := sm_new (o := .lst (zs.map fun q => V.ref q.2.1)) (sm_refl (H := H3)) hp
    have hp4 : (upd H3 p (.lst (zs.map fun q => V.ref q.2.1))) p = some (.lst (zs.map fun q => V.ref q.2.1)) := upd_same
    have hD4 := sm4 _ _ hD3
    generalize upd H3 p (.lst (zs.map fun q => V.ref q.2.1)) = H4 at sm4 hp4 hD4 ⊢
    refine ⟨hD4, by omega, _, _, rfl, rfl, ⟨by decide, by decide⟩, _, _, rfl, rfl, _, rfl, _, _, rfl, ?_, SqL.of hp4, fun p2 R hp2 hRl => ?_⟩
    · have : (0 : Int) ≤ ((zs.length : Nat) : Int) / 40 := Int.ediv_nonneg (by omega) (by decide)
      omega
    have sm5 := sm_new (o := .lst (R.filterMap ((zs.map fun q => V.ref q.2.1)[·]?))) (sm_refl (H := H4)) hp2
    have hp5 : (upd H4 p2 (.lst (R.filterMap ((zs.map fun q => V.ref q.2.1)[·]?)))) p2 = some (.lst (R.filterMap ((zs.map fun q => V.ref q.2.1)[·]?))) := upd_same
    generalize hH5 : upd H4 p2 (.lst (R.filterMap ((zs.map fun q => V.ref q.2.1)[·]?))) = H5 at sm5 hp5 ⊢
    have sm15 := sm_trans sm13 (sm_trans sm4 sm5)
    have hs5 := sm15 _ _ sm.src
    have hE5 : EvsAt K H5 as es := Paired.imp hE1 fun _ _ z => sqT_sm z sm15
    have al : (arrs es).length ≤ es.length := arrs_len es
    -- the others
    refine ⟨.ref p2, rfl, .ref s0, rfl, .ref b, rfl, .ref o, rfl, _, rfl, s0, b, o, l1, 300, xs, as, es, size, 20, rfl, hs5, sm.dr, by decide, (sm.lane.same sm15).sq, SqL.of (sm15 _ _ sm.lst), hE5, by omega, by omega, by omega, hnd, by decide, fun H6 p6 ps Fs l6 ch6 hp6 hp6' ht6 hF6 hFl hs6 hl6 => ?_⟩
    have hp65 : H6 p2 = some (.lst (R.filterMap ((zs.map fun q => V.ref q.2.1)[·]?))) := ch6 _ _ hp5 fun z => by have e := sm4 _ _ hs3; rw [← z, hp2] at e; cases e
    have hFl2 := Paired.length ht6
    have hal : (R.filterMap ((zs.map fun q => V.ref q.2.1)[·]?)).length ≤ 256 := by rw [List.length_map] at hRl; omega
    refine ⟨p2, p6, _, _, rfl, rfl, hp65, hp6', by rw [List.length_map, sizeLine_eq]; omega, fun r hr => ?_⟩
    have smr := sm_new (o := .lst (R.filterMap ((zs.map fun q => V.ref q.2.1)[·]?) ++ ps.map V.ref)) (sm_refl (H := H6)) hr
    have hrx : (upd H6 r (.lst (R.filterMap ((zs.map fun q => V.ref q.2.1)[·]?) ++ ps.map V.ref))) r = some (.lst (R.filterMap ((zs.map fun q => V.ref q.2.1)[·]?) ++ ps.map V.ref)) := upd_same
    have cX : Ch s0 H1 (upd H6 r (.lst (R.filterMap ((zs.map fun q => V.ref q.2.1)[·]?) ++ ps.map V.ref))) := ((Ch.refl.sm sm15).trans ch6).sm smr
    have c2X : Ch s0 H2 (upd H6 r (.lst (R.filterMap ((zs.map fun q => V.ref q.2.1)[·]?) ++ ps.map V.ref))) := ((Ch.refl.sm (sm_trans sm3 (sm_trans sm4 sm5))).trans ch6).sm smr
    have htx := ht6.same smr
    generalize upd H6 r (.lst (R.filterMap ((zs.map fun q => V.ref q.2.1)[·]?) ++ ps.map V.ref)) = Hx at hrx cX c2X htx ⊢
    have cHX : Ch s0 H Hx := sm.ch.trans cX
    have hTx : Tabs Ps Hx := cHX.tabs hs hT
    have hs2 := sm2 _ _ sm.src
    have hbx : TupD Hx b (xs.map V.str) := sm.lane.chg cX sm.src
    have nos : o ≠ s0 := fun z => by rw [z, hs] at hfo; cases hfo
    have hox : Hx o = some (.lst (as.map V.ref)) := cX _ _ sm.lst nos
    have hEx : EvsAt K Hx as es := Paired.imp sm.evs fun a e h => SqT.of (cX _ _ h fun z => by rw [z, sm.src] at h; cases h)
    have hDx : Hx D = some (KZ P w D zs) := c2X _ _ hD' fun z => by rw [z, hs2] at hD'; cases hD'
    have hkx : KeysZ Hx zs := fun q hq => (tb.keys q hq).chg c2X hs2
    have hcx : ∀ q ∈ zs, ∃ gs : List V, Hx q.2.2 = some (.lst gs) ∧ gs.length = hcnt q.1 xs es := fun q hq => by
      obtain ⟨gs, e, n⟩ := tb.cnt q hq
      refine ⟨gs, c2X _ _ e fun z => ?_, by rw [n, countE_hcnt]⟩
      have := tb.fr q hq
      rw [z, sm.src] at this
      cases this
    have hLx : LaneAt K Hx b xs := laneAt_of hbx (by omega) fun x hx => hcar x (List.mem_append_left _ hx)
    have hGx : LogAt K Hx o as es := ⟨SqL.of hox, hEx, by omega, hszE⟩
    have hfin : ∀ y ∈ R.filterMap ((zs.map fun q => V.ref q.2.1)[·]?) ++ ps.map V.ref, ∃ (t : Addr) (F : List Str), y = .ref t ∧ TupD Hx t (F.map V.str) ∧ laneB F = true ∧ F.length ≤ 400 := fun y hy => by
      rcases List.mem_append.mp hy with h | h
      · obtain ⟨i, _, hi⟩ := List.mem_filterMap.mp h
        have hm := List.mem_of_getElem? hi
        obtain ⟨q, hq, rfl⟩ := List.mem_map.mp hm
        obtain ⟨bs, hbs, hrun⟩ := tb.of q hq
        have hR := run_runB es xs bs (allE_len _ bs hbs) hv
        rw [hrun] at hR
        have hl := hR.len
        refine ⟨q.2.1, q.1, rfl, hkx q hq, laneB_of (hR.nodup hnd) fun c hc => hcar c (hR.mem c hc), ?_⟩
        rw [hsize] at hl
        omega
      · obtain ⟨t, ht, rfl⟩ := List.mem_map.mp h
        obtain ⟨F, hF, hd⟩ := htx.mem ht
        obtain ⟨f1, f2, f3⟩ := hF6 F hF
        exact ⟨t, F, rfl, hd, laneB_of f1 fun c hc => hcar c (f3 c hc), f2⟩
    generalize R.filterMap ((zs.map fun q => V.ref q.2.1)[·]?) ++ ps.map V.ref = L at hrx hfin ⊢
    refine ⟨r, rfl, ⟨_, SqL.of hrx⟩, for_list (K := K) (a := r) (xs := L) (fun ii σ H' => ∃ v7 v8 v9 v10 v11 : Option V, σ = [some (.ref s0), some (.ref b), some (.ref o), some (.ref D), some (.int (size : Nat)), some (.str (PyData.list (es.map Ev.dat)).shown), some (.ref p2), v7, v8, v9, v10, v11] ∧ Kp Ps Hx H') ?_ ?_ ?_ ?_⟩
    · exact ⟨none, none, none, none, none, rfl, Kp.refl hTx⟩
    · rintro ii σ H' _ ⟨_, _, _, _, _, _, k'⟩
      exact SqL.of (k'.lst hTx hrx)
    · rintro ii y σ H' hii ⟨v7, v8, v9, v10, v11, rfl, k'⟩
      obtain ⟨t', F, rfl, htF, hlF, hfF⟩ := hfin y (List.mem_of_getElem? hii)
      have hT' := k'.tab
      have hD'' := kz_kp k' hTx hDx
      have hk'' := hkx.kp k' hTx
      have ht'' := htF.kp k' hTx
      -- due
      have hn0 : F ∉ zs.map (·.1) → ([] : List V).length = hcnt F xs es := fun hn => by
        rw [← countE_hcnt, List.length_nil, eq_comm, List.countP_eq_zero]
        intro bs hbs z
        exact hn (by rw [← of_decide_eq_true z]; exact tb.all bs hbs)
      have hq0 : ∀ q ∈ zs, q.1 = F → ∃ gs : List V, H' q.2.2 = some (.lst gs) ∧ gs.length = hcnt F xs es := fun q hq he => by
        obtain ⟨gs, e, n⟩ := hcx q hq
        exact ⟨gs, k'.lst hTx e, by rw [n, he]⟩
      refine use_it (P := ∀ c2 : Addr, H' c2 = none → _) (fun EE => ⟨.ref D, rfl, D, rfl, ⟨zs, hD''⟩, _, rfl, Nat.zero_le _, fun c2 hc2 => ⟨zs, F, t', c2, by rw [upd_ne (ne_of_none hD'' hc2)]; exact hD'', rfl, rfl, hk''.same (sm_new sm_refl hc2), ht''.same (sm_new sm_refl hc2), by omega,
        fun q hq he => (let ⟨gs, e, n⟩ := hq0 q hq he; ⟨q.2.2, gs, rfl, .inl (SqL.of ((sm_new (sm_refl (H := H')) hc2) _ _ e)), by rw [n]; exact EE c2 hc2⟩), fun hn => ⟨c2, [], rfl, .inl (SqL.of upd_same), by rw [hn0 hn]; exact EE c2 hc2⟩⟩⟩) (fun c2 hc2 => ?_)
      have k1 : Kp Ps Hx (upd H' c2 (.lst [])) := k'.upd hTx (k'.free hTx hc2)
      generalize upd H' c2 (.lst []) = Ha at k1 ⊢
      have fx_ : ∀ {Hz : Hp}, Kp Ps Hx Hz → LaneAt K Hz b xs ∧ LogAt K Hz o as es ∧ LaneAt K Hz t' F ∧ TupD Hz t' (F.map V.str) := fun {Hz} k => ⟨hLx.kp k hTx, hGx.kp k hTx, (laneAt_of htF hfF fun c hc => carsOf hlF c hc).kp k hTx, htF.kp k hTx⟩
      -- told
      have GH' : ∀ {Hz : Hp}, Kp Ps Hx Hz → True := fun _ => trivial
      refine ⟨.ref b, rfl, .ref o, rfl, .ref t', rfl, b, o, t', xs, as, es, F, rfl, (fx_ k1).1, sm.cars, (fx_ k1).2.1, sm.log, (fx_ k1).2.2.1, hlF, (fx_ k1).2.2.2, k1.tab, fun hw Hb kb0 => ?_, fun hw Hb p kb0 hp0 hp' => ?_⟩
      · have kb := k1.trans kb0
        have hn : hcnt F xs es = 0 := hcnt_zero hv fun z => hw ((why_iff hnd (laneB_nodup hlF)).2 z)
        have e1 : (!decide (V.bl (decide (V.non = V.non)) = V.bl (decide (V.int (hcnt F xs es : Nat) = V.int 0)))) = false := by rw [hn]; decide
        refine ⟨.non, rfl, rfl, .int _, rfl, rfl, rfl, _, rfl, ?_⟩
        rw [e1]
        refine iteF ⟨.non, rfl, rfl, _, rfl, iteF ?_⟩
        refine ⟨.ref b, rfl, .ref o, rfl, .ref t', rfl, b, o, t', xs, as, es, F, rfl, (fx_ kb).1, sm.cars, (fx_ kb).2.1, sm.log, (fx_ kb).2.2.1, hlF, (fx_ kb).2.2.2, kb.tab, fun Hc_ kc0_ => ?_⟩
        have kc_ := kb.trans kc0_
        refine ⟨.ref t', rfl, .ref b, rfl, .ref o, rfl, b, o, t', xs, as, es, F, rfl, (fx_ kc_).1, sm.cars, (fx_ kc_).2.1, sm.log, (fx_ kc_).2.2.1, hlF, (fx_ kc_).2.2.2, kc_.tab, fun Hd_ kd0_ => ?_⟩
        have kd_ := kc_.trans kd0_
        refine ⟨by show 2 ≤ sizeLine; rw [sizeLine_eq]; decide, fun q1 hq1 => ?_⟩
        have ke_ : Kp Ps Hx (upd Hd_ q1 (.lst [nV (hcnt F xs es), nV (hcnt F xs es)])) := kd_.upd hTx (kd_.free hTx hq1)
        have hq1' : (upd Hd_ q1 (.lst [nV (hcnt F xs es), nV (hcnt F xs es)])) q1 = some (.lst [nV (hcnt F xs es), nV (hcnt F xs es)]) := upd_same
        refine ⟨.ref q1, rfl, _, rfl, _, rfl, by show 2 ≤ sizeLine; rw [sizeLine_eq]; decide, fun q2 hq2 => ?_⟩
        have sm2_ := sm_new (o := .lst [nV (hcnt F xs es), nV (hcnt F xs es)]) (sm_refl (H := upd Hd_ q1 (.lst [nV (hcnt F xs es), nV (hcnt F xs es)]))) hq2
        refine ⟨.ref q1, .ref q2, .list [.int (hcnt F xs es : Nat), .int (hcnt F xs es : Nat)], rfl, .lst (SqL.of (sm2_ _ _ hq1')) (.cons (.int _) (.cons (.int _) .nil)), .lst (SqL.of upd_same) (.cons (.int _) (.cons (.int _) .nil)), rfl, fun He_ smA => ⟨true, rfl, iteF ?_⟩⟩
        have kf_ : Kp Ps Hx He_ := (ke_.upd hTx (ke_.free hTx hq2)).trans (kp_sm17 (ke_.upd hTx (ke_.free hTx hq2)).tab smA)
        refine ⟨.ref o, rfl, .ref o, _, 5, 5000, rfl, .lst (fx_ kf_).2.1.at_ (dvEs (fx_ kf_).2.1.evs hszE), hrp, by decide, by decide, .str _, rfl, rfl, _, rfl, ?_⟩
        rw [decide_eq_true rfl]
        exact iteF ⟨_, _, _, _, _, rfl, kf_⟩
      · have kb := k1.trans kb0
        have hrun := (why_iff hnd (laneB_nodup hlF)).1 hw
        have hn : 0 < hcnt F xs es := hcnt_pos hrun
        have hp : Hx p = none := k1.free hTx hp0
        have e1 : (!decide (V.bl (decide (V.ref p = V.non)) = V.bl (decide (V.int (hcnt F xs es : Nat) = V.int 0)))) = false := by
          have : ¬ hcnt F xs es = 0 := by omega
          simp [this]
        refine ⟨.ref p, rfl, rfl, .int _, rfl, rfl, rfl, _, rfl, ?_⟩
        rw [e1]
        refine iteF ⟨.ref p, rfl, rfl, _, rfl, iteT ?_⟩
        have hbl : (hSides F (lo0 (brg F xs)) xs es).length = es.length := hSides_len
        have hrB : runB xs es (hSides F (lo0 (brg F xs)) xs es) = F := by
          rw [runB_gRun]
          exact (poss_run hw hnd (laneB_nodup hlF)).1
        have hpb := hp'
        generalize hbs : hSides F (lo0 (brg F xs)) xs es = bs at hpb hbl hrB
        have hgb := fx_ kb
        refine ⟨.ref p, rfl, .ref p, .ty "list", .type "list", .type "list", true, rfl, .ty _, tyx_lst (SqL.of hpb), kit_ty (show kitB "list" "list" = some true by decide +kernel), true, rfl, iteF ?_⟩
        refine ⟨.ref p, rfl, p, _, rfl, .inl (SqL.of hpb), .ref o, rfl, o, _, rfl, .inl hgb.2.1.at_, rfl, _, rfl, ?_⟩
        have e2 : (!decide (V.int (bs.map sB).length = V.int (as.map V.ref).length)) = false := by
          rw [List.length_map, List.length_map, hbl, hlen, decide_eq_true rfl]
          rfl
        rw [e2]
        refine iteF ⟨.ref b, rfl, .ref o, rfl, .ref p, rfl, b, o, p, xs, as, es, bs, rfl, .inr hgb.1.at_, hgb.2.1.at_, hgb.2.1.evs, SqL.of hpb, hbl, hv, by omega, by omega, fun Hc t r2 g smc ht hr2 hg ht' hr2' hg' => ?_⟩
        have kc : Kp Ps Hx Hc := kb.trans (kp_sm17 kb.tab smc)
        rw [hrB] at hr2'
        refine ⟨t, _, 0, _, rfl, rfl, SqT.of ht', rfl, .ref t', rfl, .tuple (F.map PyData.str), .tuple (F.map PyData.str), .tup hr2'.sq (dp_strs _), .tup (fx_ kc).2.2.2.sq (dp_strs _), shapedT _ (carsOf hlF), shapedT _ (carsOf hlF), _, rfl, ?_⟩
        rw [eqv_strs, decide_eq_true rfl]
        refine iteF ?_
        -- copy_of, append
        have hpc : Hc p = some (.lst (bs.map sB)) := smc _ _ hpb
        refine ⟨.ref p, rfl, p, _, rfl, .inl (SqL.of hpc), fun cp hcp => ?_⟩
        have kd : Kp Ps Hx (upd Hc cp (.lst (bs.map sB))) := kc.upd hTx (kc.free hTx hcp)
        have npc : p ≠ cp := ne_of_none hpc hcp
        have hpd : (upd Hc cp (.lst (bs.map sB))) p = some (.lst (bs.map sB)) := by rw [upd_ne npc]; exact hpc
        refine ⟨.ref p, rfl, .inl ⟨rfl, _, SqL.of hpd⟩, p, _, _, rfl, rfl, hpd, by rw [List.length_map, hbl, sizeLine_eq]; omega, ?_⟩
        have ke : Kp Ps Hx (upd (upd Hc cp (.lst (bs.map sB))) p (.lst (bs.map sB ++ [V.str "L"]))) := kd.upd hTx hp
        have hce : (upd (upd Hc cp (.lst (bs.map sB))) p (.lst (bs.map sB ++ [V.str "L"]))) cp = some (.lst (bs.map sB)) := by rw [upd_ne fun z => npc z.symm]; exact upd_same
        generalize upd (upd Hc cp (.lst (bs.map sB))) p (.lst (bs.map sB ++ [V.str "L"])) = He at ke hce ⊢
        refine ⟨.ref t', rfl, .ref o, rfl, .ref b, rfl, b, o, t', xs, as, es, F, rfl, (fx_ ke).1, sm.cars, (fx_ ke).2.1, sm.log, (fx_ ke).2.2.1, hlF, (fx_ ke).2.2.2, ke.tab, fun hw' => absurd hw hw', fun _ Hf p2 kf0 hp2 hp2' => ?_⟩
        have kf := ke.trans kf0
        have hcf : Hf cp = some (.lst (bs.map sB)) := kf0.lst ke.tab hce
        rw [hbs] at hp2'
        refine ⟨.ref cp, rfl, .list ((bs.map fun x => if x = true then ("L" : Str) else "R").map PyData.str), .list ((bs.map fun x => if x = true then ("L" : Str) else "R").map PyData.str), .lst (SqL.of hp2') (dp_sides bs), .lst (SqL.of hcf) (dp_sides bs), shaped_strs _ (sides_ok bs), shaped_strs _ (sides_ok bs), _, rfl, ?_⟩
        rw [eqvL_strs, decide_eq_true rfl]
        refine iteF ?_
        refine ⟨.ref b, rfl, .ref o, rfl, .ref t', rfl, b, o, t', xs, as, es, F, rfl, (fx_ kf).1, sm.cars, (fx_ kf).2.1, sm.log, (fx_ kf).2.2.1, hlF, (fx_ kf).2.2.2, kf.tab, fun Hc_ kc0_ => ?_⟩
        have kc_ := kf.trans kc0_
        refine ⟨.ref t', rfl, .ref b, rfl, .ref o, rfl, b, o, t', xs, as, es, F, rfl, (fx_ kc_).1, sm.cars, (fx_ kc_).2.1, sm.log, (fx_ kc_).2.2.1, hlF, (fx_ kc_).2.2.2, kc_.tab, fun Hd_ kd0_ => ?_⟩
        have kd_ := kc_.trans kd0_
        refine ⟨by show 2 ≤ sizeLine; rw [sizeLine_eq]; decide, fun q1 hq1 => ?_⟩
        have ke_ : Kp Ps Hx (upd Hd_ q1 (.lst [nV (hcnt F xs es), nV (hcnt F xs es)])) := kd_.upd hTx (kd_.free hTx hq1)
        have hq1' : (upd Hd_ q1 (.lst [nV (hcnt F xs es), nV (hcnt F xs es)])) q1 = some (.lst [nV (hcnt F xs es), nV (hcnt F xs es)]) := upd_same
        refine ⟨.ref q1, rfl, _, rfl, _, rfl, by show 2 ≤ sizeLine; rw [sizeLine_eq]; decide, fun q2 hq2 => ?_⟩
        have sm2_ := sm_new (o := .lst [nV (hcnt F xs es), nV (hcnt F xs es)]) (sm_refl (H := upd Hd_ q1 (.lst [nV (hcnt F xs es), nV (hcnt F xs es)]))) hq2
        refine ⟨.ref q1, .ref q2, .list [.int (hcnt F xs es : Nat), .int (hcnt F xs es : Nat)], rfl, .lst (SqL.of (sm2_ _ _ hq1')) (.cons (.int _) (.cons (.int _) .nil)), .lst (SqL.of upd_same) (.cons (.int _) (.cons (.int _) .nil)), rfl, fun He_ smA => ⟨true, rfl, iteF ?_⟩⟩
        have kf_ : Kp Ps Hx He_ := (ke_.upd hTx (ke_.free hTx hq2)).trans (kp_sm17 (ke_.upd hTx (ke_.free hTx hq2)).tab smA)
        refine ⟨.ref o, rfl, .ref o, _, 5, 5000, rfl, .lst (fx_ kf_).2.1.at_ (dvEs (fx_ kf_).2.1.evs hszE), hrp, by decide, by decide, .str _, rfl, rfl, _, rfl, ?_⟩
        rw [decide_eq_true rfl]
        exact iteF ⟨_, _, _, _, _, rfl, kf_⟩
    · rintro σ H' ⟨v7, v8, v9, v10, v11, rfl, k'⟩
      refine q H' (fun c2 o2 e n1 n2 => k'.at_ _ _ (cHX _ _ e n1) n2) k'.tab
end
end Ln


set_option Elab.async false
set_option linter.all false
set_option maxRecDepth 100000
set_option maxHeartbeats 8000000
namespace Ln
open PySem PySem.Spec PyProof.Rows L2 GxR
/-! ### k17: the law -/
theorem scLaw : FnScope ["script", "k"] ["script"] (defScope sLaw) := ⟨rfl, rfl, rfl, by decide +kernel, rfl, by decide +kernel, by decide +kernel⟩
section
variable {P : Program} {w : World} {K : PySem.W.Frag} {mg : Str → Option Value} {base : Heap} {Ps : List Addr}
def spLaw (K : PySem.W.Frag) (Ps : List Addr) : Sp := fun vs H Q _ => ∃ (a : Addr) (ns : List Int), vs = [.ref a] ∧ SqL K H a (ns.map V.int) ∧ Tabs Ps H ∧ ∀ H', Q (.bl true) H'
theorem ok_law17 {f fC fS fR fH fN : Addr} {fd fdC fdS fdR fdH fdN : FuncData} (F : Fun K "law" "law" sLaw f fd) (B : Bi mg) (B2 : Bl mg)
    (GC : FnOk P w K mg base CX0 1 fC fdC ["script", "k"] (spCell K)) (mgC : mg "_law_cell" = some (.ref fC)) (kC : PySem.W.keepIn K (.ref fC) = true) (bC : Binds K fdC ["script", "k"] [])
    (GS : FnOk P w K mg base CX0 1 fS fdS ["cell"] spSource2) (mgS : mg "_law_source" = some (.ref fS)) (kS : PySem.W.keepIn K (.ref fS) = true) (bS : Binds K fdS ["cell"] [])
    (GR : FnG P w K mg base 14 fR fdR ["source"] (spRight17 K Ps)) (mgR : mg "_law_right" = some (.ref fR)) (kR : PySem.W.keepIn K (.ref fR) = true) (bR : Binds K fdR ["source"] [])
    (GH : FnOk P w K mg base CX0 13 fH fdH ["start", "log", "lane"] (spHist K Ps)) (mgH : mg "history" = some (.ref fH)) (kH : PySem.W.keepIn K (.ref fH) = true) (bH : Binds K fdH ["start", "log", "lane"] [])
    (GN : FnOk P w K mg base CX0 13 fN fdN ["start", "log", "lane"] (spCntH K Ps)) (mgN : mg "count_histories" = some (.ref fN)) (kN : PySem.W.keepIn K (.ref fN) = true) (bN : Binds K fdN ["start", "log", "lane"] []) :
    FnG P w K mg base 15 f fd ["script"] (spLaw K Ps) := by
  refine Fun.okG F scLaw (fun vs H Q E h => ?_) (fun cdv A outer s H vs Q E hr hgd h => ?_)
  · obtain ⟨a, ns, rfl, _⟩ := h
    rfl
  · obtain ⟨a, ns, rfl, hS, hT, q⟩ := h
    have hu : A.units + 3 + 64 < cLine := hr.units
    have hr1 := hr.mono (show 1 ≤ 14 by decide)
    have hr13 := hr.mono (show 13 ≤ 14 by decide)
    refine ⟨_, (pss_cons (ps_for PassesOwn.never rfl (pi_range1 (by rfl) B2.rng (pa_cons (pe_callB (call_max2 rfl) (by rfl) B2.max (by decide +kernel) (pa_cons pe_int (pa_cons (pe_callB (call_min2 rfl) (by rfl) B2.min (by decide +kernel) (pa_cons pe_int (pa_cons (pe_callB call_len_seq (by rfl) B.len PySem.boot_len (pa_cons (pv 0) pa_nil)) pa_nil))) pa_nil))) pa_nil)) (pg_name (i := 1) scLaw.nd rfl (.inl rfl))
        (pss_one (ps_if (pt_not (pt_val (pe_callG GR hr hgd (by rfl) mgR kR bR (pa_cons (pe_call GS hr1 (by rfl) mgS kS bS .nil pass0 (pa_cons (pe_call GC hr1 (by rfl) mgC kC bC .nil pass0 (pa_cons (pv 0) (pa_cons (pv 1) pa_nil))) pa_nil)) pa_nil))))
          (pss_one (ps_ret pe_bl))
          pss_nil)))
      (pss_one (ps_ret (pe_and (pe_cmpR (op_eqD hu) (pe_call GH hr13 (by rfl) mgH kH bH .nil pass0 (pa_cons (pe_tupD pa_nil) (pa_cons (pe_lst pa_nil) (pa_cons (pe_tupD pa_nil) pa_nil)))) (pe_lst pa_nil) (nomark _)) (pe_one (pe_cmpR op_eq (pe_call GN hr13 (by rfl) mgN kN bN .nil pass0 (pa_cons (pe_tupD pa_nil) (pa_cons (pe_lst pa_nil) (pa_cons (pe_tupD pa_nil) pa_nil)))) pe_int (nomark _))))))), ?_⟩
    refine ⟨.ref a, rfl, a, _, rfl, .inl hS, _, _, rfl, _, _, rfl, _, rfl, ?_, ?_, for_range (lo := 0) (n := _) (fun i σ H' => ∃ v1 : Option V, σ = [some (.ref a), v1] ∧ Kp Ps H H') ?_ ?_ ?_⟩
    · rw [List.length_map]
      split <;> split <;> omega
    · rw [List.length_map]
      split <;> split <;> omega
    · exact ⟨none, rfl, Kp.refl hT⟩
    · rintro i σ Ha hi ⟨v1, rfl, k1⟩
      have ek : [V.ref a, V.int (0 + (i : Int))] = [V.ref a, V.int ((i : Nat) : Int)] := by rw [Int.zero_add]
      refine ⟨.ref a, rfl, _, rfl, a, ns, i, ek, k1.seqL hT hS, fun c => ⟨c, rfl, fun s0 l0 hs0 hl0 => ?_⟩⟩
      have hs00 : H s0 = none := k1.free hT hs0
      have k2 : Kp Ps H (upd Ha s0 (.lst l0)) := k1.upd hT hs00
      refine ⟨s0, l0, rfl, upd_same, hl0, k2.tab, fun H' hk ht => ⟨_, rfl, iteF ⟨_, rfl, fun b o e n => hk b o (k2.at_ b o e n) (ne_of_none e hs00) n, ht⟩⟩⟩
    · rintro σ Ha ⟨_, rfl, k1⟩
      have hTa := k1.tab
      have smq : ∀ {H : Hp} {p : Addr} {o : HO}, H p = none → L2.Same H (upd H p o) := fun h => sm_new sm_refl h
      have noL : ∀ (H : Hp) (p : Addr), H p = some (.lst []) → LogAt K H p [] [] := fun H p h => ⟨SqL.of (xs := []) h, .nil, by decide, fun c hc => nomatch hc⟩
      refine ⟨by show 0 ≤ sizeLine; decide, fun p1 ob1 hob1 hp1 => ⟨by show 0 ≤ sizeLine; decide, fun p2 hp2 => ⟨by show 0 ≤ sizeLine; decide, fun p3 ob3 hob3 hp3 => ?_⟩⟩⟩
      have t1 : TupD _ p1 (([] : List Str).map V.str) := (TupD.of (H := Ha) (p := p1) (xs := []) hob1).same (sm_trans (smq (o := .lst []) hp2) (smq (o := .frz ob3 (.tup [])) hp3))
      have t2 := (smq (o := .frz ob3 (.tup [])) hp3) _ _ (upd_same (o := .lst []))
      have t3 : TupD _ p3 (([] : List Str).map V.str) := TupD.of (H := upd (upd Ha p1 (.frz ob1 (.tup []))) p2 (.lst [])) (xs := []) hob3
      have tb := tabs_same hTa (sm_trans (smq (o := .frz ob1 (.tup [])) hp1) (sm_trans (smq (o := .lst []) hp2) (smq (o := .frz ob3 (.tup [])) hp3)))
      have w0 : why [] [] [] = .ok := (why_iff (xs := []) (F := []) (es := []) (by decide) (by decide)).2 (.nil [])
      refine ⟨p1, p2, p3, [], [], [], [], rfl, laneAt_of t1 (by decide) (fun _ h => nomatch h), rfl, noL _ _ t2, rfl, laneAt_of t3 (by decide) (fun _ h => nomatch h), rfl, t3, tb, fun hw => absurd w0 hw, fun _ Hb pb kb _ hpb => ?_⟩
      clear t1 t2 t3
      have hpb : Hb pb = some (.lst []) := hpb
      have tb2 := kb.tab
      clear tb kb
      refine ⟨by show 0 ≤ sizeLine; decide, fun p4 hp4 => ?_⟩
      have n4 : pb ≠ p4 := ne_of_none hpb hp4
      have hpb2 : (upd Hb p4 (.lst [])) pb = some (.lst []) := by rw [upd_ne n4]; exact hpb
      refine ⟨.list [], .list [], .lst (SqL.of hpb2) .nil, .lst (SqL.of upd_same) .nil, by decide +kernel, by decide +kernel, ?_⟩
      have tb3 := tabs_same tb2 (smq (o := .lst []) hp4)
      generalize upd Hb p4 (.lst []) = Hc at tb3 ⊢
      refine ⟨_, rfl, ?_⟩
      rw [show PyData.eqv (.list []) (.list []) = true by decide +kernel]
      refine iteT ⟨by show 0 ≤ sizeLine; decide, fun p5 ob5 hob5 hp5 => ⟨by show 0 ≤ sizeLine; decide, fun p6 hp6 => ⟨by show 0 ≤ sizeLine; decide, fun p7 ob7 hob7 hp7 => ?_⟩⟩⟩
      have t1 : TupD _ p5 (([] : List Str).map V.str) := (TupD.of (H := Hc) (p := p5) (xs := []) hob5).same (sm_trans (smq (o := .lst []) hp6) (smq (o := .frz ob7 (.tup [])) hp7))
      have t2 := (smq (o := .frz ob7 (.tup [])) hp7) _ _ (upd_same (o := .lst []))
      have t3 : TupD _ p7 (([] : List Str).map V.str) := TupD.of (H := upd (upd Hc p5 (.frz ob5 (.tup []))) p6 (.lst [])) (xs := []) hob7
      have tb := tabs_same tb3 (sm_trans (smq (o := .frz ob5 (.tup [])) hp5) (sm_trans (smq (o := .lst []) hp6) (smq (o := .frz ob7 (.tup [])) hp7)))
      refine ⟨p5, p6, p7, [], [], [], [], rfl, laneAt_of t1 (by decide) (fun _ h => nomatch h), rfl, noL _ _ t2, rfl, laneAt_of t3 (by decide) (fun _ h => nomatch h), rfl, t3, tb, fun H' k => ⟨rfl, ?_⟩⟩
      rw [show decide (nV (hcnt [] [] []) = V.int 1) = true by decide +kernel]
      exact q H'
end
end Ln


set_option Elab.async false
set_option linter.all false
set_option maxRecDepth 100000
set_option maxHeartbeats 2000000
namespace Ln
open PySem PySem.Spec PyProof.Rows L2 GxR LamX
/-! ### the law's call -/
/-- what is tracked as the law is called: the tables, and the script where the heap's written part has it not -/
def topH (K : PySem.W.Frag) (cs : List (Addr × Addr)) (a : Addr) (vs : List Value) (ns : List Int) : Hp := fun b =>
  if b ∈ cs.map (·.2) then some (.tbl #[]) else if b = a ∧ K.lookup a = none then some (.frz { cls := .type "list", data := .seq vs.toArray } (.lst (ns.map V.int))) else none
section
variable {P : Program} {w : World} {K : PySem.W.Frag} {cs : List (Addr × Addr)} {a b : Addr} {vs : List Value} {ns : List Int} {h : Heap} {o : HO}
theorem topH_of (e : topH K cs a vs ns b = some o) : (b ∈ cs.map (·.2) ∧ o = .tbl #[]) ∨ (b = a ∧ K.lookup a = none ∧ o = .frz { cls := .type "list", data := .seq vs.toArray } (.lst (ns.map V.int))) := by
  unfold topH at e
  by_cases q : b ∈ cs.map (·.2)
  · rw [if_pos q] at e
    exact .inl ⟨q, (Option.some.inj e).symm⟩
  · rw [if_neg q] at e
    by_cases r : b = a ∧ K.lookup a = none
    · rw [if_pos r] at e
      exact .inr ⟨r.1, r.2, (Option.some.inj e).symm⟩
    · rw [if_neg r] at e
      cases e
theorem topH_tab {p : Addr × Addr} (hp : p ∈ cs) : topH K cs a vs ns p.2 = some (.tbl #[]) := by
  unfold topH
  exact if_pos (List.mem_map.mpr ⟨p, hp, rfl⟩)
theorem tab_at (hT : ∀ p ∈ cs, h.get? p.2 = some { cls := .none, data := .fields #[] }) (hb : b ∈ cs.map (·.2)) : h.get? b = some { cls := .none, data := .fields #[] } := by
  obtain ⟨p, hp, rfl⟩ := List.mem_map.mp hb
  exact hT p hp
theorem scr_tab (hT : ∀ p ∈ cs, h.get? p.2 = some { cls := .none, data := .fields #[] }) (ha : h.get? a = some { cls := .type "list", data := .seq vs.toArray }) : a ∉ cs.map (·.2) := fun q => by
  have := tab_at hT q
  rw [ha] at this
  have := congrArg Obj.data (Option.some.inj this)
  cases this
theorem topH_sq (hT : ∀ p ∈ cs, h.get? p.2 = some { cls := .none, data := .fields #[] }) (ha : h.get? a = some { cls := .type "list", data := .seq vs.toArray }) (KX : K.In h) (hi : IntsAre vs ns) (hl : ns.length ≤ sizeLine) : SqL K (topH K cs a vs ns) a (ns.map V.int) := by
  cases hk : K.lookup a with
  | none =>
    refine .inl (.inr ⟨{ cls := .type "list", data := .seq vs.toArray }, ?_⟩)
    unfold topH
    rw [if_neg (scr_tab hT ha), if_pos ⟨rfl, hk⟩]
  | some ob =>
    have e := KX a ob hk
    rw [ha] at e
    obtain rfl := Option.some.inj e
    exact .inr ⟨_, vs.toArray, _, hk, rfl, rfl, rfl, by rw [List.size_toArray, hi.length]; exact hl, by simpa using vals_ints hi⟩
theorem topH_ok (hT : ∀ p ∈ cs, h.get? p.2 = some { cls := .none, data := .fields #[] }) (ha : h.get? a = some { cls := .type "list", data := .seq vs.toArray }) (hi : IntsAre vs ns) (hl : ns.length ≤ sizeLine) : HOk P w (topH K cs a vs ns) h := fun b o e => by
  rcases topH_of e with ⟨q, rfl⟩ | ⟨rfl, _, rfl⟩
  · exact tab_at hT q
  · exact ⟨ha, by rw [List.length_map]; exact hl, vs, _, vals_ints hi, ha⟩
/-- an object that is no list and no table is not tracked -/
theorem topH_non (hT : ∀ p ∈ cs, h.get? p.2 = some { cls := .none, data := .fields #[] }) (ha : h.get? a = some { cls := .type "list", data := .seq vs.toArray }) {ob : Obj} (e : h.get? b = some ob) (h1 : ∀ us n, ob.data ≠ .seq us n) (h2 : ob.data ≠ .fields #[]) : topH K cs a vs ns b = none := by
  cases q : topH K cs a vs ns b with
  | none => rfl
  | some u =>
    rcases topH_of q with ⟨z, _⟩ | ⟨rfl, _, _⟩
    · rw [tab_at hT z] at e
      exact absurd (congrArg Obj.data (Option.some.inj e)).symm h2
    · rw [ha] at e
      exact absurd (congrArg Obj.data (Option.some.inj e)).symm (h1 _ _)
theorem topH_K (hT : ∀ p ∈ cs, h.get? p.2 = some { cls := .none, data := .fields #[] }) (nT : ∀ p ∈ cs, K.lookup p.2 = none) {ob : Obj} (e : K.lookup b = some ob) : topH K cs a vs ns b = none := by
  cases q : topH K cs a vs ns b with
  | none => rfl
  | some u =>
    rcases topH_of q with ⟨z, _⟩ | ⟨rfl, z, _⟩
    · obtain ⟨p, hp, rfl⟩ := List.mem_map.mp z
      rw [nT p hp] at e
      cases e
    · rw [z] at e
      cases e
theorem Ns.top (hT : ∀ p ∈ cs, h.get? p.2 = some { cls := .none, data := .fields #[] }) (ha : h.get? a = some { cls := .type "list", data := .seq vs.toArray }) {d : Addr} {m : Str → Option Value} (e : h.Ns d m) : (hidT h (topH K cs a vs ns)).Ns d m := by
  obtain ⟨ob, es, ep, e1, e2, r⟩ := e
  exact ⟨ob, es, ep, hidT_get e1 (topH_non hT ha e1 (fun us n z => by rw [e2] at z; cases z) fun z => by rw [e2] at z; cases z), e2, r⟩
end
/-- the law is called on a script, nothing being shown -/
theorem law_callG {P : Program} {w : World} {K : PySem.W.Frag} {mg mb : Str → Option Value} {k : Nat} {fa a : Addr} {cs : List (Addr × Addr)} {fd : FuncData} {x : Str} {sp : Sp} {s : Shared} {vs : List Value} {ns : List Int} (KX : K.In s.heap) (hns : s.heap.Ns mainGlobals mg) (hb : s.heap.Ns builtinsNs mb) (hbb : ∀ x : Str, x ≠ "__name__" → mb x = bootBuiltins x) (hlim : s.heap.NoLimit) (hg : s.gens = #[])
    (hT : ∀ p ∈ cs, s.heap.get? p.2 = some { cls := .none, data := .fields #[] }) (nT : ∀ p ∈ cs, K.lookup p.2 = none) (C : ∀ p ∈ cs, PySem.W.CodeHd s.heap p.1 p.2)
    (hbm : ∃ (bm : Addr) (ob : Obj), mg "__builtins__" = some (.ref bm) ∧ bm ≠ builtinsNs ∧ s.heap.get? bm = some ob ∧ ob.cls = .type "module" ∧ ob.dict = some builtinsNs ∧ ob.data = .plain)
    (ha : s.heap.get? a = some { cls := .type "list", data := .seq vs.toArray }) (hi : IntsAre vs ns) (hl : ns.length ≤ sizeLine) (hr : Room k callerA)
    (F : ∀ base : Heap, K.In base → base.Ns mainGlobals mg → (∀ p ∈ cs, GxR.TabB base mg p.1 p.2) → FnG P w K mg base k fa fd [x] sp) (hbind : ∀ (s : Shared) (u : Value), BindsTo s fd ⟨[u], []⟩ [(x, u)])
    (hsp : ∀ H : Hp, (∀ p ∈ cs, H p.2 = some (.tbl #[])) → SqL K H a (ns.map V.int) → sp [.ref a] H (fun v _ => v = .bl true) E0) :
    codeAny (model P w) callerA (.call (.ref fa) ⟨[.ref a], []⟩) (fun r s' => r = .ok (.ret (.bool true)) ∧ OldK s.heap s'.heap ∧ s'.os = s.os ∧ AllBare s'.gens) s := by
  have hH : ∀ p ∈ cs, topH K cs a vs ns p.2 = some (.tbl #[]) := fun p hp => topH_tab hp
  have hok : HOk P w (topH K cs a vs ns) s.heap := topH_ok hT ha hi hl
  have hKb : K.In (hidT s.heap (topH K cs a vs ns)) := fun b ob e => hidT_get (KX b ob e) (topH_K hT nT e)
  have gG := Ns.top (K := K) (ns := ns) hT ha hns
  have TB : ∀ p ∈ cs, GxR.TabB (hidT s.heap (topH K cs a vs ns)) mg p.1 p.2 := fun p hp => by
    have hTp := hT p hp
    obtain ⟨bm, ob, b1, b2, b3, b4, b5, b6⟩ := hbm
    obtain ⟨og, eg, epg, q1, q2, _⟩ := hns
    refine ⟨?_, ⟨bm, ob, b1, b2, fun z => ?_, fun z => ?_, hidT_get b3 (topH_non hT ha b3 (fun us n z => by rw [b6] at z; cases z) fun z => by rw [b6] at z; cases z), b4, b5, b6⟩, fun z => ?_⟩
    · obtain ⟨o, us, file, tf, flags, tg, inF, text, tt, e1, r1, r2, r3, r⟩ := C p hp
      refine ⟨o, us, file, tf, flags, tg, inF, text, tt, hidT_get e1 (topH_non hT ha e1 (fun us n z => by rw [r2] at z; cases z) fun z => ?_), r1, r2, r3, r⟩
      rw [r2] at z
      cases z
      simp at r3
    · rw [z, q1] at b3
      cases b3
      rw [q2] at b6
      cases b6
    · rw [z, hTp] at b3
      cases b3
      cases b6
    · rw [z, hTp] at q1
      cases q1
      cases q2
  have e0 : Env0 P w K mg (hidT s.heap (topH K cs a vs ns)) callerA [] s (topH K cs a vs ns) :=
    ⟨rfl, ⟨hKb, gG, ⟨mb, Ns.top hT ha hb, hbb⟩, hlim.imp fun mc h1 => ⟨Ns.top hT ha h1.1, h1.2⟩⟩, fun b o e => of_hidT e, Nat.le_of_eq (hidT_size _ _), trivial, fun b hb => absurd (show b ∈ ([] : List Addr) from hb) (by simp), hok, .of_eq hg⟩
  refine codeAny_mono ((F _ hKb gG TB).run callerA [] s (topH K cs a vs ns) ⟨[.ref a], []⟩ [.ref a] [.ref a] _ _ hr rfl e0 (hbind s (.ref a)) (.cons rfl .nil) (hsp _ hH (topH_sq hT ha KX hi hl))) fun r s' h => ?_
  match r, h with
  | .error e, h => exact False.elim h
  | .ok .next, h => exact False.elim h
  | .ok .brk, h => exact False.elim h
  | .ok .cont, h => exact False.elim h
  | .ok (.ret u), ⟨v, H', os, bare, un, hok', r', q⟩ =>
    obtain rfl : v = .bl true := q
    obtain rfl : u = Value.bool true := r'
    have old : ∀ b o, b ∉ cs.map (·.2) → s.heap.get? b = some o → s'.heap.get? b = some o := fun b o nb e => by
      cases q : topH K cs a vs ns b with
      | none => exact un.keep b o e q (fun z => absurd (show b ∈ ([] : List Addr) from z) (by simp)) (by simp)
      | some u =>
        rcases topH_of q with ⟨z, _⟩ | ⟨rfl, _, rfl⟩
        · exact absurd z nb
        · rw [ha] at e
          obtain rfl := Option.some.inj e
          exact (hok' _ _ (un.frzs _ _ _ q)).1
    have tabs : ∀ p ∈ cs, ∃ more : Array Value, s'.heap.get? p.2 = some { cls := .none, data := .fields more } := fun p hp => let ⟨more, z⟩ := un.tbls p.2 #[] (hH p hp); ⟨_, hok' p.2 _ z⟩
    refine ⟨rfl, ⟨fun b o e => ?_, fun b o e => ?_⟩, os, bare⟩
    all_goals by_cases hb : b ∈ cs.map (·.2)
    · obtain ⟨p, hp, rfl⟩ := List.mem_map.mp hb
      obtain ⟨more, hm⟩ := tabs p hp
      obtain rfl := Option.some.inj ((hT p hp).symm.trans e)
      exact .inr (.inl ⟨((C p hp).tab (hT p hp)).isCodeTable, rfl, #[], more, rfl, by rw [Array.empty_append]; exact hm⟩)
    · exact .inl (old b o hb e)
    · obtain ⟨p, hp, rfl⟩ := List.mem_map.mp hb
      obtain ⟨more, hm⟩ := tabs p hp
      exact ⟨_, hm⟩
    · exact ⟨o, old b o hb e⟩
end Ln


set_option Elab.async false
set_option linter.all false
set_option maxRecDepth 100000
set_option maxHeartbeats 2000000
namespace Ln
open PySem PySem.Spec PyProof.Rows L2 GxR LamX
/-! ### what the top has written -/
theorem kbx0 {K : PySem.W.Frag} {x : Str} {st : Stmt} {f : Addr} {fd : FuncData} (F : Fun K x x st f fd)
    (h : ∀ (kV doc pm : Value) (an : Option Addr) (cdv ct u v y : Value), bindArgs (PySem.W.fnOf x x (defArgs st) (defBody st) (defScope st) .none kV doc pm an cdv ct) ⟨[], [("lane", u), ("log", v), ("start", y)]⟩ = (pure [("start", y), ("log", v), ("lane", u)] : Sem (List (Str × Value)))) : KBinds K fd ["start", "log", "lane"] ["lane", "log", "start"] rev3 rev3 := by
  obtain ⟨oc, od, kV, doc, pm, an, cdv, ct, osl, rfl, lk, hcd⟩ := F.ex
  refine ⟨fun s us ws hK hl => ?_, fun {vs us zs ws} r1 r2 => ?_⟩
  · match us, ws, hl with
    | [], [u, v, y], _ => exact .of_eq (h kV doc pm an cdv ct u v y)
  · match r1, r2 with
    | .nil, .nil => exact .nil
    | .nil, .cons a .nil => exact .nil
    | .nil, .cons a (.cons b .nil) => exact .nil
    | .nil, .cons a (.cons b (.cons c .nil)) => exact .cons c (.cons b (.cons a .nil))
    | .nil, .cons a (.cons b (.cons c (.cons d e))) => exact .nil
    | .cons a b, _ => exact .nil
theorem kbx1 {K : PySem.W.Frag} {x : Str} {st : Stmt} {f : Addr} {fd : FuncData} (F : Fun K x x st f fd)
    (h : ∀ (kV doc pm : Value) (an : Option Addr) (cdv ct u v y : Value), bindArgs (PySem.W.fnOf x x (defArgs st) (defBody st) (defScope st) .none kV doc pm an cdv ct) ⟨[], [("lane", u), ("start", v), ("log", y)]⟩ = (pure [("start", v), ("log", y), ("lane", u)] : Sem (List (Str × Value)))) : KBinds K fd ["start", "log", "lane"] ["lane", "start", "log"] rot3 rot3 := by
  obtain ⟨oc, od, kV, doc, pm, an, cdv, ct, osl, rfl, lk, hcd⟩ := F.ex
  refine ⟨fun s us ws hK hl => ?_, fun {vs us zs ws} r1 r2 => ?_⟩
  · match us, ws, hl with
    | [], [u, v, y], _ => exact .of_eq (h kV doc pm an cdv ct u v y)
  · match r1, r2 with
    | .nil, .nil => exact .nil
    | .nil, .cons a .nil => exact .nil
    | .nil, .cons a (.cons b .nil) => exact .nil
    | .nil, .cons a (.cons b (.cons c .nil)) => exact .cons b (.cons c (.cons a .nil))
    | .nil, .cons a (.cons b (.cons c (.cons d e))) => exact .nil
    | .cons a b, _ => exact .nil
structure DefR (K : PySem.W.Frag) (x : Str) (st : Stmt) : Prop where
  ex : ∃ (f : Addr) (fd : FuncData), PySem.W.nsIn K mainGlobals x = some (some (.ref f)) ∧ Fun K x x st f fd
structure DefC (K : PySem.W.Frag) (x : Str) (st : Stmt) : Prop where
  ex : ∃ (f c p : Addr) (fd : FuncData), PySem.W.nsIn K mainGlobals x = some (some (.ref f)) ∧ FunC K x x st f fd c ∧ PySem.W.tabIn K x = some (c, p) ∧ K.lookup p = none
theorem def_mk {K : PySem.W.Frag} {x : Str} {st : Stmt} {f : Addr} {oc : Value} {od an : Option Addr} {osl : Array (Option Value)} {kV doc pm cdv ct : Value} (a : PySem.W.nsIn K mainGlobals x = some (some (.ref f)))
    (l : K.lookup f = some ⟨oc, od, .func (PySem.W.fnOf x x (defArgs st) (defBody st) (defScope st) .none kV doc pm an cdv ct), osl⟩) (c : PySem.W.codeIn K cdv x = true) (k : PySem.W.keepIn K (.ref f) = true) : DefR K x st := ⟨⟨_, _, a, fun_mk l c k⟩⟩
theorem defC_mk {K : PySem.W.Frag} {x : Str} {st : Stmt} {f cd p : Addr} {oc o1 : Value} {od an o2 : Option Addr} {osl o3 : Array (Option Value)} {us : Array Value} {kV doc pm ct : Value} (a : PySem.W.nsIn K mainGlobals x = some (some (.ref f)))
    (l : K.lookup f = some ⟨oc, od, .func (PySem.W.fnOf x x (defArgs st) (defBody st) (defScope st) .none kV doc pm an (.ref cd) ct), osl⟩) (c : PySem.W.codeIn K (.ref cd) x = true) (k : PySem.W.keepIn K (.ref f) = true)
    (lc : K.lookup cd = some ⟨o1, o2, .fields us, o3⟩) (hv : us[11]? = some (.ref p)) (hn : K.lookup p = none) : DefC K x st := by
  refine ⟨_, cd, p, _, a, ⟨⟨oc, od, kV, doc, pm, an, ct, osl, rfl, l, c⟩, k⟩, ?_, hn⟩
  unfold PySem.W.tabIn
  rw [a]
  simp only [l, PySem.W.fnOf, lc, hv]
/-- the tables, and the law's own promise -/
structure AllAt (P : Program) (w : World) (K : PySem.W.Frag) (mg : Str → Option Value) (fa : Addr) (cs : List (Addr × Addr)) (fd : FuncData) : Prop where
  bind : ∀ (s : Shared) (u : Value), BindsTo s fd ⟨[u], []⟩ [("script", u)]
  ok : ∀ base : Heap, K.In base → base.Ns mainGlobals mg → (∀ p ∈ cs, GxR.TabB base mg p.1 p.2) → FnG P w K mg base 15 fa fd ["script"] (spLaw K (cs.map (·.2)))
theorem all_mk {P : Program} {w : World} {K : PySem.W.Frag} {h : Heap} {mg : Str → Option Value} {fa : Addr} (X : K.In h) (G : h.Ns mainGlobals mg) (hfa : mg "law" = some (.ref fa))
    (D_is_car : DefC K "is_car" sIsCar)
    (D_is_lane : DefC K "is_lane" sIsLane)
    (D_is_arrival : DefR K "is_arrival" sIsArr)
    (D_is_departure : DefR K "is_departure" sIsDep)
    (D_has_word : DefR K "has_word" sHasW)
    (D_is_log : DefR K "is_log" sIsLog)
    (D_require_lane : DefR K "require_lane" sReqLane)
    (D_require_log : DefR K "require_log" sReqLog)
    (D_sizes : DefR K "sizes" sSizes)
    (D_numbers : DefR K "numbers" sNumbers)
    (D_move : DefR K "move" sMove)
    (D_opposite : DefR K "opposite" sOpp)
    (D_departure_counts : DefR K "departure_counts" sDepC)
    (D_extras : DefR K "extras" sExtras)
    (D_first_negative : DefR K "first_negative" sFirstNeg)
    (D_block_range : DefR K "block_range" sBlockR)
    (D_is_possible : DefR K "is_possible" sIsPoss)
    (D_why_not : DefR K "why_not" sWhyNot)
    (D_require_final_lane : DefR K "require_final_lane" sReqFin)
    (D_has_right_cars : DefC K "has_right_cars" sHasRC)
    (D_has_block : DefR K "has_block" sHasBlk)
    (D_first_peak : DefR K "first_peak" sFirstPk)
    (D_arriving_stayers : DefR K "arriving_stayers" sArrSt)
    (D_switch_conflict : DefR K "switch_conflict" sSwitch)
    (D_history : DefR K "history" sHist)
    (D_wanted_sides : DefR K "wanted_sides" sWant)
    (D_side_of_event : DefR K "side_of_event" sSideEv)
    (D_count_histories : DefR K "count_histories" sCntH)
    (D_list_kinds : DefR K "list_kinds" sKinds)
    (D_list_ways : DefR K "list_ways" sWays)
    (D_ways_before : DefR K "ways_before" sWaysB)
    (D_law_cell : DefR K "_law_cell" sCell2)
    (D_law_source : DefR K "_law_source" sSource)
    (D_law_draw : DefR K "_law_draw" sDraw)
    (D_law_shuffled : DefR K "_law_shuffled" sShuf)
    (D_law_names : DefR K "_law_names" sNames)
    (D_law_events : DefR K "_law_events" sEvents)
    (D_law_counts : DefR K "_law_counts" sCounts)
    (D_law_play : DefR K "_law_play" sPlay)
    (D_law_all_ends : DefR K "_law_all_ends" sAllEnds)
    (D_law_table : DefR K "_law_table" sTable)
    (D_law_small : DefR K "_law_small" sSmall2)
    (D_law_everyone : DefR K "_law_everyone" sEvery)
    (D_law_others : DefR K "_law_others" sOthers)
    (D_law_alike : DefR K "_law_alike" sAlike)
    (D_law_right : DefR K "_law_right" sRight)
    (D_law : DefR K "law" sLaw)
    (z_isinstance : PySem.W.nsIn K mainGlobals "isinstance" = some none)
    (z_len : PySem.W.nsIn K mainGlobals "len" = some none)
    (z_all : PySem.W.nsIn K mainGlobals "all" = some none)
    (z_str : PySem.W.nsIn K mainGlobals "str" = some none)
    (z_tuple : PySem.W.nsIn K mainGlobals "tuple" = some none)
    (z_list : PySem.W.nsIn K mainGlobals "list" = some none)
    (z_set : PySem.W.nsIn K mainGlobals "set" = some none)
    (z_zip : PySem.W.nsIn K mainGlobals "zip" = some none)
    (z_max : PySem.W.nsIn K mainGlobals "max" = some none)
    (z_min : PySem.W.nsIn K mainGlobals "min" = some none)
    (z_abs : PySem.W.nsIn K mainGlobals "abs" = some none)
    (z_range : PySem.W.nsIn K mainGlobals "range" = some none)
    (z_repr : PySem.W.nsIn K mainGlobals "repr" = some none)
    (z_enumerate : PySem.W.nsIn K mainGlobals "enumerate" = some none)
    (z_sorted : PySem.W.nsIn K mainGlobals "sorted" = some none)
    (z_bool : PySem.W.nsIn K mainGlobals "bool" = some none)
    (z_dict : PySem.W.nsIn K mainGlobals "dict" = some none)
    : ∃ (c1 p1 c2 p2 c3 p3 : Addr) (fd : FuncData), PySem.W.tabIn K "is_car" = some (c1, p1) ∧ PySem.W.tabIn K "is_lane" = some (c2, p2) ∧ PySem.W.tabIn K "has_right_cars" = some (c3, p3) ∧ K.lookup p1 = none ∧ K.lookup p2 = none ∧ K.lookup p3 = none ∧ 
      AllAt P w K mg fa [(c1, p1), (c2, p2), (c3, p3)] fd := by
  have nn : ∀ {x : Str}, PySem.W.nsIn K mainGlobals x = some none → mg x = none := fun e => PySem.W.mg_none_of X G e
  have B : Bi mg := ⟨nn z_isinstance, nn z_len, nn z_all, nn z_str, nn z_tuple, nn z_list, nn z_set, nn z_zip⟩
  have B2 : Bl mg := ⟨nn z_max, nn z_min, nn z_abs, nn z_range, nn z_repr⟩
  have B3 : Bn mg := ⟨nn z_enumerate, nn z_range⟩
  have BB : Bb mg := ⟨nn z_bool⟩
  obtain ⟨f0, c1, p1, fd0, a0, F0, t1, n1⟩ := D_is_car.ex
  have m0 := PySem.W.mg_of X G a0
  obtain ⟨f1, c2, p2, fd1, a1, F1, t2, n2⟩ := D_is_lane.ex
  have m1 := PySem.W.mg_of X G a1
  obtain ⟨f2, fd2, a2, F2⟩ := D_is_arrival.ex
  have m2 := PySem.W.mg_of X G a2
  obtain ⟨f3, fd3, a3, F3⟩ := D_is_departure.ex
  have m3 := PySem.W.mg_of X G a3
  obtain ⟨f4, fd4, a4, F4⟩ := D_has_word.ex
  have m4 := PySem.W.mg_of X G a4
  obtain ⟨f5, fd5, a5, F5⟩ := D_is_log.ex
  have m5 := PySem.W.mg_of X G a5
  obtain ⟨f6, fd6, a6, F6⟩ := D_require_lane.ex
  have m6 := PySem.W.mg_of X G a6
  obtain ⟨f7, fd7, a7, F7⟩ := D_require_log.ex
  have m7 := PySem.W.mg_of X G a7
  obtain ⟨f8, fd8, a8, F8⟩ := D_sizes.ex
  have m8 := PySem.W.mg_of X G a8
  obtain ⟨f9, fd9, a9, F9⟩ := D_numbers.ex
  have m9 := PySem.W.mg_of X G a9
  obtain ⟨f10, fd10, a10, F10⟩ := D_move.ex
  have m10 := PySem.W.mg_of X G a10
  obtain ⟨f11, fd11, a11, F11⟩ := D_opposite.ex
  have m11 := PySem.W.mg_of X G a11
  obtain ⟨f12, fd12, a12, F12⟩ := D_departure_counts.ex
  have m12 := PySem.W.mg_of X G a12
  obtain ⟨f13, fd13, a13, F13⟩ := D_extras.ex
  have m13 := PySem.W.mg_of X G a13
  obtain ⟨f14, fd14, a14, F14⟩ := D_first_negative.ex
  have m14 := PySem.W.mg_of X G a14
  obtain ⟨f15, fd15, a15, F15⟩ := D_block_range.ex
  have m15 := PySem.W.mg_of X G a15
  obtain ⟨f16, fd16, a16, F16⟩ := D_is_possible.ex
  have m16 := PySem.W.mg_of X G a16
  obtain ⟨f17, fd17, a17, F17⟩ := D_why_not.ex
  have m17 := PySem.W.mg_of X G a17
  obtain ⟨f18, fd18, a18, F18⟩ := D_require_final_lane.ex
  have m18 := PySem.W.mg_of X G a18
  obtain ⟨f19, c3, p3, fd19, a19, F19, t3, n3⟩ := D_has_right_cars.ex
  have m19 := PySem.W.mg_of X G a19
  obtain ⟨f20, fd20, a20, F20⟩ := D_has_block.ex
  have m20 := PySem.W.mg_of X G a20
  obtain ⟨f21, fd21, a21, F21⟩ := D_first_peak.ex
  have m21 := PySem.W.mg_of X G a21
  obtain ⟨f22, fd22, a22, F22⟩ := D_arriving_stayers.ex
  have m22 := PySem.W.mg_of X G a22
  obtain ⟨f23, fd23, a23, F23⟩ := D_switch_conflict.ex
  have m23 := PySem.W.mg_of X G a23
  obtain ⟨f24, fd24, a24, F24⟩ := D_history.ex
  have m24 := PySem.W.mg_of X G a24
  obtain ⟨f25, fd25, a25, F25⟩ := D_wanted_sides.ex
  have m25 := PySem.W.mg_of X G a25
  obtain ⟨f26, fd26, a26, F26⟩ := D_side_of_event.ex
  have m26 := PySem.W.mg_of X G a26
  obtain ⟨f27, fd27, a27, F27⟩ := D_count_histories.ex
  have m27 := PySem.W.mg_of X G a27
  obtain ⟨f28, fd28, a28, F28⟩ := D_list_kinds.ex
  have m28 := PySem.W.mg_of X G a28
  obtain ⟨f29, fd29, a29, F29⟩ := D_list_ways.ex
  have m29 := PySem.W.mg_of X G a29
  obtain ⟨f30, fd30, a30, F30⟩ := D_ways_before.ex
  have m30 := PySem.W.mg_of X G a30
  obtain ⟨f31, fd31, a31, F31⟩ := D_law_cell.ex
  have m31 := PySem.W.mg_of X G a31
  obtain ⟨f32, fd32, a32, F32⟩ := D_law_source.ex
  have m32 := PySem.W.mg_of X G a32
  obtain ⟨f33, fd33, a33, F33⟩ := D_law_draw.ex
  have m33 := PySem.W.mg_of X G a33
  obtain ⟨f34, fd34, a34, F34⟩ := D_law_shuffled.ex
  have m34 := PySem.W.mg_of X G a34
  obtain ⟨f35, fd35, a35, F35⟩ := D_law_names.ex
  have m35 := PySem.W.mg_of X G a35
  obtain ⟨f36, fd36, a36, F36⟩ := D_law_events.ex
  have m36 := PySem.W.mg_of X G a36
  obtain ⟨f37, fd37, a37, F37⟩ := D_law_counts.ex
  have m37 := PySem.W.mg_of X G a37
  obtain ⟨f38, fd38, a38, F38⟩ := D_law_play.ex
  have m38 := PySem.W.mg_of X G a38
  obtain ⟨f39, fd39, a39, F39⟩ := D_law_all_ends.ex
  have m39 := PySem.W.mg_of X G a39
  obtain ⟨f40, fd40, a40, F40⟩ := D_law_table.ex
  have m40 := PySem.W.mg_of X G a40
  obtain ⟨f41, fd41, a41, F41⟩ := D_law_small.ex
  have m41 := PySem.W.mg_of X G a41
  obtain ⟨f42, fd42, a42, F42⟩ := D_law_everyone.ex
  have m42 := PySem.W.mg_of X G a42
  obtain ⟨f43, fd43, a43, F43⟩ := D_law_others.ex
  have m43 := PySem.W.mg_of X G a43
  obtain ⟨f44, fd44, a44, F44⟩ := D_law_alike.ex
  have m44 := PySem.W.mg_of X G a44
  obtain ⟨f45, fd45, a45, F45⟩ := D_law_right.ex
  have m45 := PySem.W.mg_of X G a45
  obtain ⟨f46, fd46, a46, F46⟩ := D_law.ex
  have m46 := PySem.W.mg_of X G a46
  have b0 : Binds K fd0 ["value"] [] := F0.fn.binds fun _ _ _ _ _ _ us hl => match us, hl with | [_], _ => rfl
  have b1 : Binds K fd1 ["value"] [] := F1.fn.binds fun _ _ _ _ _ _ us hl => match us, hl with | [_], _ => rfl
  have b2 : Binds K fd2 ["value"] [] := F2.binds fun _ _ _ _ _ _ us hl => match us, hl with | [_], _ => rfl
  have b3 : Binds K fd3 ["value"] [] := F3.binds fun _ _ _ _ _ _ us hl => match us, hl with | [_], _ => rfl
  have b4 : Binds K fd4 ["value", "word", "length"] [] := F4.binds fun _ _ _ _ _ _ us hl => match us, hl with | [_, _, _], _ => rfl
  have b5 : Binds K fd5 ["start", "value"] [] := F5.binds fun _ _ _ _ _ _ us hl => match us, hl with | [_, _], _ => rfl
  have b6 : Binds K fd6 ["value"] [] := F6.binds fun _ _ _ _ _ _ us hl => match us, hl with | [_], _ => rfl
  have b7 : Binds K fd7 ["start", "log"] [] := F7.binds fun _ _ _ _ _ _ us hl => match us, hl with | [_, _], _ => rfl
  have b8 : Binds K fd8 ["start", "log"] [] := F8.binds fun _ _ _ _ _ _ us hl => match us, hl with | [_, _], _ => rfl
  have b9 : Binds K fd9 ["start", "log"] [] := F9.binds fun _ _ _ _ _ _ us hl => match us, hl with | [_, _], _ => rfl
  have b10 : Binds K fd10 ["present", "event", "side"] [] := F10.binds fun _ _ _ _ _ _ us hl => match us, hl with | [_, _, _], _ => rfl
  have b11 : Binds K fd11 ["side"] [] := F11.binds fun _ _ _ _ _ _ us hl => match us, hl with | [_], _ => rfl
  have b12 : Binds K fd12 ["log"] [] := F12.binds fun _ _ _ _ _ _ us hl => match us, hl with | [_], _ => rfl
  have b13 : Binds K fd13 ["start", "log", "cars"] [] := F13.binds fun _ _ _ _ _ _ us hl => match us, hl with | [_, _, _], _ => rfl
  have b14 : Binds K fd14 ["counts"] [] := F14.binds fun _ _ _ _ _ _ us hl => match us, hl with | [_], _ => rfl
  have b15 : Binds K fd15 ["start", "cars"] [] := F15.binds fun _ _ _ _ _ _ us hl => match us, hl with | [_, _], _ => rfl
  have b16 : Binds K fd16 ["start", "log", "lane"] [] := F16.binds fun _ _ _ _ _ _ us hl => match us, hl with | [_, _, _], _ => rfl
  have b17 : Binds K fd17 ["start", "log", "lane"] [] := F17.binds fun _ _ _ _ _ _ us hl => match us, hl with | [_, _, _], _ => rfl
  have b18 : Binds K fd18 ["start", "log", "lane"] [] := F18.binds fun _ _ _ _ _ _ us hl => match us, hl with | [_, _, _], _ => rfl
  have b19 : Binds K fd19 ["start", "log", "lane"] [] := F19.fn.binds fun _ _ _ _ _ _ us hl => match us, hl with | [_, _, _], _ => rfl
  have b20 : Binds K fd20 ["start", "lane"] [] := F20.binds fun _ _ _ _ _ _ us hl => match us, hl with | [_, _], _ => rfl
  have b21 : Binds K fd21 ["known", "lane"] [] := F21.binds fun _ _ _ _ _ _ us hl => match us, hl with | [_, _], _ => rfl
  have b22 : Binds K fd22 ["start", "log", "lane"] [] := F22.binds fun _ _ _ _ _ _ us hl => match us, hl with | [_, _, _], _ => rfl
  have b23 : Binds K fd23 ["start", "log", "lane"] [] := F23.binds fun _ _ _ _ _ _ us hl => match us, hl with | [_, _, _], _ => rfl
  have b24 : Binds K fd24 ["start", "log", "lane"] [] := F24.binds fun _ _ _ _ _ _ us hl => match us, hl with | [_, _, _], _ => rfl
  have b25 : Binds K fd25 ["start", "log", "lane"] [] := F25.binds fun _ _ _ _ _ _ us hl => match us, hl with | [_, _, _], _ => rfl
  have b26 : Binds K fd26 ["present", "event", "lane", "wanted"] [] := F26.binds fun _ _ _ _ _ _ us hl => match us, hl with | [_, _, _, _], _ => rfl
  have b27 : Binds K fd27 ["start", "log", "lane"] [] := F27.binds fun _ _ _ _ _ _ us hl => match us, hl with | [_, _, _], _ => rfl
  have b28 : Binds K fd28 ["start", "log", "lane"] [] := F28.binds fun _ _ _ _ _ _ us hl => match us, hl with | [_, _, _], _ => rfl
  have b29 : Binds K fd29 ["kinds", "extra"] [] := F29.binds fun _ _ _ _ _ _ us hl => match us, hl with | [_, _], _ => rfl
  have b30 : Binds K fd30 ["kind", "later", "extra"] [] := F30.binds fun _ _ _ _ _ _ us hl => match us, hl with | [_, _, _], _ => rfl
  have b31 : Binds K fd31 ["script", "k"] [] := F31.binds fun _ _ _ _ _ _ us hl => match us, hl with | [_, _], _ => rfl
  have b32 : Binds K fd32 ["cell"] [] := F32.binds fun _ _ _ _ _ _ us hl => match us, hl with | [_], _ => rfl
  have b33 : Binds K fd33 ["source", "bound"] [] := F33.binds fun _ _ _ _ _ _ us hl => match us, hl with | [_, _], _ => rfl
  have b34 : Binds K fd34 ["source", "items"] [] := F34.binds fun _ _ _ _ _ _ us hl => match us, hl with | [_, _], _ => rfl
  have b35 : Binds K fd35 ["source", "amount"] [] := F35.binds fun _ _ _ _ _ _ us hl => match us, hl with | [_, _], _ => rfl
  have b36 : Binds K fd36 ["source", "size", "names", "most", "room"] [] := F36.binds fun _ _ _ _ _ _ us hl => match us, hl with | [_, _, _, _, _], _ => rfl
  have b37 : Binds K fd37 ["size", "events"] [] := F37.binds fun _ _ _ _ _ _ us hl => match us, hl with | [_, _], _ => rfl
  have b38 : Binds K fd38 ["begin", "events", "ends"] [] := F38.binds fun _ _ _ _ _ _ us hl => match us, hl with | [_, _, _], _ => rfl
  have b39 : Binds K fd39 ["amount"] [] := F39.binds fun _ _ _ _ _ _ us hl => match us, hl with | [_], _ => rfl
  have b40 : Binds K fd40 ["begin", "events"] [] := F40.binds fun _ _ _ _ _ _ us hl => match us, hl with | [_, _], _ => rfl
  have b41 : Binds K fd41 ["source", "most"] [] := F41.binds fun _ _ _ _ _ _ us hl => match us, hl with | [_, _], _ => rfl
  have b42 : Binds K fd42 ["begin", "events"] [] := F42.binds fun _ _ _ _ _ _ us hl => match us, hl with | [_, _], _ => rfl
  have b43 : Binds K fd43 ["source", "begin", "events", "size", "amount"] [] := F43.binds fun _ _ _ _ _ _ us hl => match us, hl with | [_, _, _, _, _], _ => rfl
  have b44 : Binds K fd44 ["found", "due"] [] := F44.binds fun _ _ _ _ _ _ us hl => match us, hl with | [_, _], _ => rfl
  have b45 : Binds K fd45 ["source"] [] := F45.binds fun _ _ _ _ _ _ us hl => match us, hl with | [_], _ => rfl
  obtain rfl : fa = f46 := by
    have e := hfa.symm.trans m46
    cases e
    rfl
  refine ⟨c1, p1, c2, p2, c3, p3, fd46, t1, t2, t3, n1, n2, n3, ?_, fun base Kb Gb TB => ?_⟩
  · obtain ⟨oc, od, kV, doc, pm, an, cdv, ct, osl, rfl, lk, hcd⟩ := F46.ex
    exact fun s u => .of_eq rfl
  have TB1 := TB (c1, p1) List.mem_cons_self
  have TB2 := TB (c2, p2) (List.mem_cons_of_mem _ List.mem_cons_self)
  have TB3 := TB (c3, p3) (List.mem_cons_of_mem _ (List.mem_cons_of_mem _ List.mem_cons_self))
  have h1 : p1 ∈ [p1, p2, p3] := List.mem_cons_self
  have h2 : p2 ∈ [p1, p2, p3] := (List.mem_cons_of_mem _ List.mem_cons_self)
  have h3 : p3 ∈ [p1, p2, p3] := (List.mem_cons_of_mem _ (List.mem_cons_of_mem _ List.mem_cons_self))
  have G0 : FnOk P w K mg base CX0 2 f0 fd0 ["value"] (spCar [p1, p2, p3]) := ok_car F0 B TB1 h1
  have G1 : FnOk P w K mg base CX0 4 f1 fd1 ["value"] (spLane K [p1, p2, p3]) := ok_lane F1 B TB2 h2 G0 m0 F0.kp b0
  have G4 : FnOk P w K mg base CX0 1 f4 fd4 ["value", "word", "length"] (spHasW K) := ok_hasW F4 B
  have G2 : FnOk P w K mg base CX0 3 f2 fd2 ["value"] (spEv K [p1, p2, p3] arrB) := ok_arr F2 G4 m4 F4.kp b4 G0 m0 F0.kp b0
  have G3 : FnOk P w K mg base CX0 2 f3 fd3 ["value"] (spEv K [p1, p2, p3] depB) := ok_dep F3 G4 m4 F4.kp b4
  have G6 : FnOk P w K mg base CX0 5 f6 fd6 ["value"] (spReqLane K [p1, p2, p3]) := ok_reqLane F6 G1 m1 F1.kp b1
  have G5 : FnOk P w K mg base CX0 6 f5 fd5 ["start", "value"] (spLog K [p1, p2, p3]) := ok_log F5 B G6 m6 F6.kp b6 G2 m2 F2.kp b2 G3 m3 F3.kp b3
  have G7 : FnOk P w K mg base CX0 7 f7 fd7 ["start", "log"] (spReqLog K [p1, p2, p3]) := ok_reqLog F7 G5 m5 F5.kp b5
  have G8 : FnOk P w K mg base CX0 8 f8 fd8 ["start", "log"] (spSizes K [p1, p2, p3]) := ok_sizes F8 B G7 m7 F7.kp b7
  have G9 : FnOk P w K mg base CX0 8 f9 fd9 ["start", "log"] (spNumbers K [p1, p2, p3]) := ok_numbers F9 B G7 m7 F7.kp b7
  have G10 : FnOk P w K mg base CX0 1 f10 fd10 ["present", "event", "side"] (spMove K) := ok_move F10 B
  have G11 : FnOk P w K mg base CX0 1 f11 fd11 ["side"] (spOpp) := ok_opp F11
  have G12 : FnOk P w K mg base CX0 1 f12 fd12 ["log"] (spDepC K [p1, p2, p3]) := ok_depC F12
  have G13 : FnOk P w K mg base CX0 9 f13 fd13 ["start", "log", "cars"] (spExtras K [p1, p2, p3]) := ok_extras F13 B G8 m8 F8.kp b8
  have G14 : FnOk P w K mg base CX0 1 f14 fd14 ["counts"] (spFirstNeg K [p1, p2, p3]) := ok_firstNeg F14 B3
  have G15 : FnOk P w K mg base CX0 1 f15 fd15 ["start", "cars"] (spBlockR K [p1, p2, p3]) := ok_blockR F15 B3
  have G18 : FnOk P w K mg base CX0 8 f18 fd18 ["start", "log", "lane"] (spReqFin K [p1, p2, p3]) := ok_reqFin F18 G7 m7 F7.kp b7 G6 m6 F6.kp b6
  have G19 : FnOk P w K mg base CX0 9 f19 fd19 ["start", "log", "lane"] (spHasRC K [p1, p2, p3]) := ok_hasRC F19 B TB3 h3 G9 m9 F9.kp b9 G8 m8 F8.kp b8
  have G20 : FnOk P w K mg base CX0 2 f20 fd20 ["start", "lane"] (spHasBlk K [p1, p2, p3]) := ok_hasBlk F20 G15 m15 F15.kp b15
  have G21 : FnOk P w K mg base CX0 1 f21 fd21 ["known", "lane"] (spFirstPk K [p1, p2, p3]) := ok_firstPk F21 B B3
  have G22 : FnOk P w K mg base CX0 2 f22 fd22 ["start", "log", "lane"] (spArrSt K [p1, p2, p3]) := ok_arrSt F22 B3 G15 m15 F15.kp b15
  have G23 : FnOk P w K mg base CX0 10 f23 fd23 ["start", "log", "lane"] (spSwitch K [p1, p2, p3]) := ok_switch F23 B G12 m12 F12.kp b12 G13 m13 F13.kp b13 G15 m15 F15.kp b15 G22 m22 F22.kp b22 G11 m11 F11.kp b11
  have G17 : FnOk P w K mg base CX0 11 f17 fd17 ["start", "log", "lane"] (spWhy K [p1, p2, p3]) := ok_why F17 G18 m18 F18.kp b18 G19 m19 F19.kp b19 G20 m20 F20.kp b20 G21 m21 F21.kp b21 G9 m9 F9.kp b9 G14 m14 F14.kp b14 G13 m13 F13.kp b13 G23 m23 F23.kp b23
  have G16 : FnOk P w K mg base CX0 12 f16 fd16 ["start", "log", "lane"] (spPoss K [p1, p2, p3]) := ok_poss F16 G17 m17 F17.kp b17
  have G25 : FnOk P w K mg base CX0 3 f25 fd25 ["start", "log", "lane"] (spWant K [p1, p2, p3]) := ok_want F25 B B2 G22 m22 F22.kp b22
  have G26 : FnOk P w K mg base CX0 2 f26 fd26 ["present", "event", "lane", "wanted"] (spSideEv K) := ok_sideEv F26 G11 m11 F11.kp b11
  have G24 : FnOk P w K mg base CX0 13 f24 fd24 ["start", "log", "lane"] (spHist K [p1, p2, p3]) := ok_hist F24 B G16 m16 F16.kp b16 G25 m25 F25.kp b25 G26 m26 F26.kp b26 G10 m10 F10.kp b10
  have G28 : FnOk P w K mg base CX0 3 f28 fd28 ["start", "log", "lane"] (spKinds K [p1, p2, p3]) := ok_kinds F28 B3 G22 m22 F22.kp b22
  have G30 : FnOk P w K mg base CX0 1 f30 fd30 ["kind", "later", "extra"] (spWaysB K) := ok_waysB F30 B2
  have G29 : FnOk P w K mg base CX0 2 f29 fd29 ["kinds", "extra"] (spWays K) := ok_ways F29 B B2 G30 m30 F30.kp b30
  have G27 : FnOk P w K mg base CX0 13 f27 fd27 ["start", "log", "lane"] (spCntH K [p1, p2, p3]) := ok_cntH F27 B G16 m16 F16.kp b16 G28 m28 F28.kp b28 G29 m29 F29.kp b29 G13 m13 F13.kp b13 G15 m15 F15.kp b15
  have G31 : FnOk P w K mg base CX0 1 f31 fd31 ["script", "k"] (spCell K) := ok_cell2 F31 B
  have G32 : FnOk P w K mg base CX0 1 f32 fd32 ["cell"] (spSource2) := ok_source2 F32 B2
  have G33 : FnOk P w K mg base CX0 1 f33 fd33 ["source", "bound"] (spDraw) := ok_draw2 F33
  have G34 : FnOk P w K mg base CX0 2 f34 fd34 ["source", "items"] (spShuf K) := ok_shuf F34 B G33 m33 F33.kp b33
  have G35 : FnOk P w K mg base CX0 3 f35 fd35 ["source", "amount"] (spNames2) := ok_names2 F35 B2 G33 m33 F33.kp b33 G34 m34 F34.kp b34
  have G36 : FnOk P w K mg base CX0 2 f36 fd36 ["source", "size", "names", "most", "room"] (spEvents K) := ok_events F36 B B2 G33 m33 F33.kp b33
  have G37 : FnOk P w K mg base CX0 1 f37 fd37 ["size", "events"] (spCounts2 K) := ok_counts2 F37
  have G38 : FnOk P w K mg base CX0 1 f38 fd38 ["begin", "events", "ends"] (spPlay K) := ok_play F38 B
  have G39 : FnOk P w K mg base CX0 1 f39 fd39 ["amount"] (spAllEnds) := ok_allEnds F39 B2
  have G40 : FnOk P w K mg base CX0 2 f40 fd40 ["begin", "events"] (spTable P w K) := ok_table F40 B G39 m39 F39.kp b39 G38 m38 F38.kp b38
  have G41 : FnOk P w K mg base CX0 4 f41 fd41 ["source", "most"] (spSmall2) := ok_small2 F41 B G35 m35 F35.kp b35 G33 m33 F33.kp b33 G36 m36 F36.kp b36
  have G42 : FnOk P w K mg base CX0 1 f42 fd42 ["begin", "events"] (spFolk2 K) := ok_every F42 B
  have G43 : FnOk P w K mg base CX0 3 f43 fd43 ["source", "begin", "events", "size", "amount"] (spOthers K) := ok_others F43 B2 G42 m42 F42.kp b42 G34 m34 F34.kp b34
  have G44 : FnOk P w K mg base CX0 4 f44 fd44 ["found", "due"] (spAlike K 3) := ok_alike F44 B BB m44 F44.kp b44
  have kb24 : KBinds K fd24 ["start", "log", "lane"] ["lane", "log", "start"] rev3 rev3 := kbx0 F24 fun _ _ _ _ _ _ _ _ _ => rfl
  have kb27 : KBinds K fd27 ["start", "log", "lane"] ["lane", "start", "log"] rot3 rot3 := kbx1 F27 fun _ _ _ _ _ _ _ _ _ => rfl
  exact ok_law17 F46 B B2 G31 m31 F31.kp b31 G32 m32 F32.kp b32 (ok_right17 F45 B B2 G41 m41 F41.kp b41 G40 m40 F40.kp b40 G37 m37 F37.kp b37 G43 m43 F43.kp b43 G24 m24 F24.kp b24 kb24 G38 m38 F38.kp b38 G27 m27 F27.kp b27 kb27 G44 m44 F44.kp b44) m45 F45.kp b45 G24 m24 F24.kp b24 G27 m27 F27.kp b27
end Ln


set_option Elab.async false
set_option linter.all false
set_option maxRecDepth 100000
set_option maxHeartbeats 2000000
namespace Ln
open PySem PySem.Spec PyProof.Rows L2 GxR LamX
theorem walk_G {l : PySem.W.OpenLaw} {n : Nat} {q : Program} {loose : List Str} {XP : (Str → Option Value) → Heap → Prop} {YP : World → Heap → Prop} {d d1 d2 d3 : DefRec} {K : Params → PySem.W.Frag} (hn : l.most = some n) (hn2 : n ≤ sizeLine) (hdf : d.params.defaults = []) (hY : ∀ (w : World) (h : Heap), YP w h → (K w.params).In h)
    (r1 : (recsOf q).find? (fun e => e.name == PySem.Str.ofString "is_car") = some d1) (r2 : (recsOf q).find? (fun e => e.name == PySem.Str.ofString "is_lane") = some d2) (r3 : (recsOf q).find? (fun e => e.name == PySem.Str.ofString "has_right_cars") = some d3)
    (F : ∀ (w : World) (mg : Str → Option Value) (fa : Addr) (h : Heap), (K w.params).In h → h.Ns mainGlobals mg → mg d.name = some (.ref fa) → ∃ (c1 p1 c2 p2 c3 p3 : Addr) (fd : FuncData), PySem.W.tabIn (K w.params) "is_car" = some (c1, p1) ∧ PySem.W.tabIn (K w.params) "is_lane" = some (c2, p2) ∧ PySem.W.tabIn (K w.params) "has_right_cars" = some (c3, p3) ∧
      (K w.params).lookup p1 = none ∧ (K w.params).lookup p2 = none ∧ (K w.params).lookup p3 = none ∧ AllAt l.prog w (K w.params) mg fa [(c1, p1), (c2, p2), (c3, p3)] fd) :
    PySem.W.WalkO q loose XP YP l.row.toRowW d [] (fun f vs => PySem.call f vs) := by
  refine Att.attach_callB hn hdf fun w s₀ s₁ mg mb fa o pm cd doc a vs ns G Y ho hd hcd hmg hobj hints hlen hbits hg => ?_
  have KX := hY w _ Y
  obtain ⟨c1, p1, c2, p2, c3, p3, fd, t1, t2, t3, n1, n2, n3, all⟩ := F w mg fa _ KX G.T.g hmg
  have T1 := PySem.W.tab_of G.T KX r1 t1
  have T2 := PySem.W.tab_of G.T KX r2 t2
  have T3 := PySem.W.tab_of G.T KX r3 t3
  have three : ∀ {φ : Addr × Addr → Prop}, φ (c1, p1) → φ (c2, p2) → φ (c3, p3) → ∀ p ∈ [(c1, p1), (c2, p2), (c3, p3)], φ p := fun x y z p hp => by
    rcases List.mem_cons.mp hp with rfl | hp
    · exact x
    rcases List.mem_cons.mp hp with rfl | hp
    · exact y
    rcases List.mem_cons.mp hp with rfl | hp
    · exact z
    cases hp
  refine law_callG KX G.T.g G.T.b G.T.builtins G.T.nolimit hg (three T1.2 T2.2 T3.2) (three n1 n2 n3) (three T1.1 T2.1 T3.1) G.T.bmain hobj hints (Nat.le_trans hlen hn2) ⟨rfl, by decide, by decide⟩ all.ok all.bind fun H hH hS => ⟨a, ns, rfl, hS, fun p hp => ?_, fun H' => rfl⟩
  obtain ⟨x, hx, rfl⟩ := List.mem_map.mp hp
  exact ⟨#[], hH x hx, by first | trivial | exact .nil | simp [TriplesOk]⟩
end Ln


set_option maxRecDepth 100000
open PySem PySem.W PyProof.Rows
set_option maxHeartbeats 0 in
theorem PySem.Challenge.cw_openlane_k17_histories_by_replay_holds : PySem.Challenge.rw_openlane_k17_histories_by_replay.Holds := by
  w_on; o_law; k_head; (case hw => w_witness2)
  k_fill
  refine Ln.walk_G (l := PySem.Challenge.rw_openlane_k17_histories_by_replay) (n := 63) rfl (by decide) rfl (fun w h Y => PySem.W.kIn_of Y) rfl rfl rfl ?F
  case F =>
    intro w mg fa h KX G hmg
    refine' Ln.all_mk KX G hmg ?D0 ?D1 ?D2 ?D3 ?D4 ?D5 ?D6 ?D7 ?D8 ?D9 ?D10 ?D11 ?D12 ?D13 ?D14 ?D15 ?D16 ?D17 ?D18 ?D19 ?D20 ?D21 ?D22 ?D23 ?D24 ?D25 ?D26 ?D27 ?D28 ?D29 ?D30 ?D31 ?D32 ?D33 ?D34 ?D35 ?D36 ?D37 ?D38 ?D39 ?D40 ?D41 ?D42 ?D43 ?D44 ?D45 ?D46 ?z0 ?z1 ?z2 ?z3 ?z4 ?z5 ?z6 ?z7 ?z8 ?z9 ?z10 ?z11 ?z12 ?z13 ?z14 ?z15 ?z16
    (case D0 => refine' Ln.defC_mk ?a ?l ?c ?k ?lc ?hv ?hn; (case a => k_is); (case l => k_is); (case c => k_is); (case k => k_is); (case lc => k_is); (case hv => rfl); (case hn => kernel_rfl))
    (case D1 => refine' Ln.defC_mk ?a ?l ?c ?k ?lc ?hv ?hn; (case a => k_is); (case l => k_is); (case c => k_is); (case k => k_is); (case lc => k_is); (case hv => rfl); (case hn => kernel_rfl))
    (case D2 => refine' Ln.def_mk ?a ?l ?c ?k; (case a => k_is); (case l => k_is); (case c => k_is); (case k => k_is))
    (case D3 => refine' Ln.def_mk ?a ?l ?c ?k; (case a => k_is); (case l => k_is); (case c => k_is); (case k => k_is))
    (case D4 => refine' Ln.def_mk ?a ?l ?c ?k; (case a => k_is); (case l => k_is); (case c => k_is); (case k => k_is))
    (case D5 => refine' Ln.def_mk ?a ?l ?c ?k; (case a => k_is); (case l => k_is); (case c => k_is); (case k => k_is))
    (case D6 => refine' Ln.def_mk ?a ?l ?c ?k; (case a => k_is); (case l => k_is); (case c => k_is); (case k => k_is))
    (case D7 => refine' Ln.def_mk ?a ?l ?c ?k; (case a => k_is); (case l => k_is); (case c => k_is); (case k => k_is))
    (case D8 => refine' Ln.def_mk ?a ?l ?c ?k; (case a => k_is); (case l => k_is); (case c => k_is); (case k => k_is))
    (case D9 => refine' Ln.def_mk ?a ?l ?c ?k; (case a => k_is); (case l => k_is); (case c => k_is); (case k => k_is))
    (case D10 => refine' Ln.def_mk ?a ?l ?c ?k; (case a => k_is); (case l => k_is); (case c => k_is); (case k => k_is))
    (case D11 => refine' Ln.def_mk ?a ?l ?c ?k; (case a => k_is); (case l => k_is); (case c => k_is); (case k => k_is))
    (case D12 => refine' Ln.def_mk ?a ?l ?c ?k; (case a => k_is); (case l => k_is); (case c => k_is); (case k => k_is))
    (case D13 => refine' Ln.def_mk ?a ?l ?c ?k; (case a => k_is); (case l => k_is); (case c => k_is); (case k => k_is))
    (case D14 => refine' Ln.def_mk ?a ?l ?c ?k; (case a => k_is); (case l => k_is); (case c => k_is); (case k => k_is))
    (case D15 => refine' Ln.def_mk ?a ?l ?c ?k; (case a => k_is); (case l => k_is); (case c => k_is); (case k => k_is))
    (case D16 => refine' Ln.def_mk ?a ?l ?c ?k; (case a => k_is); (case l => k_is); (case c => k_is); (case k => k_is))
    (case D17 => refine' Ln.def_mk ?a ?l ?c ?k; (case a => k_is); (case l => k_is); (case c => k_is); (case k => k_is))
    (case D18 => refine' Ln.def_mk ?a ?l ?c ?k; (case a => k_is); (case l => k_is); (case c => k_is); (case k => k_is))
    (case D19 => refine' Ln.defC_mk ?a ?l ?c ?k ?lc ?hv ?hn; (case a => k_is); (case l => k_is); (case c => k_is); (case k => k_is); (case lc => k_is); (case hv => rfl); (case hn => kernel_rfl))
    (case D20 => refine' Ln.def_mk ?a ?l ?c ?k; (case a => k_is); (case l => k_is); (case c => k_is); (case k => k_is))
    (case D21 => refine' Ln.def_mk ?a ?l ?c ?k; (case a => k_is); (case l => k_is); (case c => k_is); (case k => k_is))
    (case D22 => refine' Ln.def_mk ?a ?l ?c ?k; (case a => k_is); (case l => k_is); (case c => k_is); (case k => k_is))
    (case D23 => refine' Ln.def_mk ?a ?l ?c ?k; (case a => k_is); (case l => k_is); (case c => k_is); (case k => k_is))
    (case D24 => refine' Ln.def_mk ?a ?l ?c ?k; (case a => k_is); (case l => k_is); (case c => k_is); (case k => k_is))
    (case D25 => refine' Ln.def_mk ?a ?l ?c ?k; (case a => k_is); (case l => k_is); (case c => k_is); (case k => k_is))
    (case D26 => refine' Ln.def_mk ?a ?l ?c ?k; (case a => k_is); (case l => k_is); (case c => k_is); (case k => k_is))
    (case D27 => refine' Ln.def_mk ?a ?l ?c ?k; (case a => k_is); (case l => k_is); (case c => k_is); (case k => k_is))
    (case D28 => refine' Ln.def_mk ?a ?l ?c ?k; (case a => k_is); (case l => k_is); (case c => k_is); (case k => k_is))
    (case D29 => refine' Ln.def_mk ?a ?l ?c ?k; (case a => k_is); (case l => k_is); (case c => k_is); (case k => k_is))
    (case D30 => refine' Ln.def_mk ?a ?l ?c ?k; (case a => k_is); (case l => k_is); (case c => k_is); (case k => k_is))
    (case D31 => refine' Ln.def_mk ?a ?l ?c ?k; (case a => k_is); (case l => k_is); (case c => k_is); (case k => k_is))
    (case D32 => refine' Ln.def_mk ?a ?l ?c ?k; (case a => k_is); (case l => k_is); (case c => k_is); (case k => k_is))
    (case D33 => refine' Ln.def_mk ?a ?l ?c ?k; (case a => k_is); (case l => k_is); (case c => k_is); (case k => k_is))
    (case D34 => refine' Ln.def_mk ?a ?l ?c ?k; (case a => k_is); (case l => k_is); (case c => k_is); (case k => k_is))
    (case D35 => refine' Ln.def_mk ?a ?l ?c ?k; (case a => k_is); (case l => k_is); (case c => k_is); (case k => k_is))
    (case D36 => refine' Ln.def_mk ?a ?l ?c ?k; (case a => k_is); (case l => k_is); (case c => k_is); (case k => k_is))
    (case D37 => refine' Ln.def_mk ?a ?l ?c ?k; (case a => k_is); (case l => k_is); (case c => k_is); (case k => k_is))
    (case D38 => refine' Ln.def_mk ?a ?l ?c ?k; (case a => k_is); (case l => k_is); (case c => k_is); (case k => k_is))
    (case D39 => refine' Ln.def_mk ?a ?l ?c ?k; (case a => k_is); (case l => k_is); (case c => k_is); (case k => k_is))
    (case D40 => refine' Ln.def_mk ?a ?l ?c ?k; (case a => k_is); (case l => k_is); (case c => k_is); (case k => k_is))
    (case D41 => refine' Ln.def_mk ?a ?l ?c ?k; (case a => k_is); (case l => k_is); (case c => k_is); (case k => k_is))
    (case D42 => refine' Ln.def_mk ?a ?l ?c ?k; (case a => k_is); (case l => k_is); (case c => k_is); (case k => k_is))
    (case D43 => refine' Ln.def_mk ?a ?l ?c ?k; (case a => k_is); (case l => k_is); (case c => k_is); (case k => k_is))
    (case D44 => refine' Ln.def_mk ?a ?l ?c ?k; (case a => k_is); (case l => k_is); (case c => k_is); (case k => k_is))
    (case D45 => refine' Ln.def_mk ?a ?l ?c ?k; (case a => k_is); (case l => k_is); (case c => k_is); (case k => k_is))
    (case D46 => refine' Ln.def_mk ?a ?l ?c ?k; (case a => k_is); (case l => k_is); (case c => k_is); (case k => k_is))
    (case z0 => k_is); (case z1 => k_is); (case z2 => k_is); (case z3 => k_is); (case z4 => k_is); (case z5 => k_is); (case z6 => k_is); (case z7 => k_is); (case z8 => k_is); (case z9 => k_is); (case z10 => k_is); (case z11 => k_is); (case z12 => k_is); (case z13 => k_is); (case z14 => k_is); (case z15 => k_is); (case z16 => k_is)
#print axioms PySem.Challenge.cw_openlane_k17_histories_by_replay_holds

