import PyProof.Rows.All
import Wide.All
import OpenK.AllK
import Wide.FinOn
import HandS.Base
import HandS.Call
import HandS.List
import HandS.Comp
import HandS.Ends
import HandS.Words
import HandS.WordsList
import HandS.Wide
import HandS.Codes
import HandS.Defaults
import HandS.Iter
import HandS.Walk
import HandS.IsInst
import HandS.TupAny
import HandS.Conv
import HandS.Lambda
import HandS.TupMul
import HandS.Deep
import HandS.Text
import HandS.SortInts
import HandS.Replace
import HandS.TryOnly
import HandS.Zip
import KE.GoesEnum
import HandS.Dict
import KE.DataMinMax
import HandS.SortKw
import HandS.GenYield
import HandS.GenList
import PyProof.EnumMake
import PyProof.Rows.EnumRows
import HandS.OwnEq
import PyProof.InstNe
import HandS.SetFor
import HandS.Strs
import HandS.SortRule
import HandS.TupSets
import HandS.More
import HandS.SetKeys
import PyProof.TupleOfSeq
import HandS.Style
import HandS.DictTup
import HandS.DictComp
import PyProof.ReprRoads
import PyProof.ReprLen
import HandS.HeadEnd
import KE.DataAny
import KE.BitLaws
import HandS.TupLe
import PyProof.DictMoreH
import PyProof.Rows.TupDisplay
import PyProof.NeKinds
import PyProof.StrOps2
import HandS.Flow
import HandS.Exc
import HandS.ExcOwn
import HandS.ExcInit
import HandS.ExcField
import HandS.ExcIs
import KE.KExcIs
import KE.KStateDown
import HandS.Head0
import HandS.Head1
import HandS.Head2
import HandS.HeadHook1
import HandS.HeadHook2
import HandS.Property
import HandS.EndTab
import PySem.Challenge.RW_pressedwords_k29_systems_and_answers_ref
set_option Elab.async false
set_option linter.all false
set_option maxRecDepth 100000
set_option maxHeartbeats 2000000
/-! a list comprehension of any number of clauses -/
namespace Lcn
open PySem PySem.Spec PyProof.Rows L2
section
variable {elt tg iter tg1 iter1 : Expr} {ifs ifs1 : List Expr} {gens : List Comprehension} {scope : Scope} {pos : Pos} {d : Nat} {it acc : Value} {env : Env}
theorem turn_mid (hd : gens[d]? = some ⟨tg, iter, ifs, 0⟩) (hd1 : gens[d + 1]? = some ⟨tg1, iter1, ifs1, 0⟩) :
    compTurn (.ListComp elt gens scope pos) d it acc env = (do
      standAt iter.pos
      match ← pyNext it with
      | none => pure (.done .next)
      | some v =>
        letOwnedTupleGo tg it v
        assign tg env v
        let mut ok := true
        for c in ifs do
          if ok then ok ← isTrue c env (eval c env)
        if ok then
          let x ← eval iter1 env
          standAt iter1.pos
          let x ← foldedSetIterable iter1 env x
          let _ ← runOwn (.compStart (.ListComp elt gens scope pos) (d + 1) (← holding [x] (pyIter x)) acc env) env
        again (.compLoop (.ListComp elt gens scope pos) d it acc env)) := by
  unfold compTurn
  simp only [hd, hd1]
  rfl
theorem turn_in (hd : gens[d]? = some ⟨tg, iter, ifs, 0⟩) (hd1 : gens[d + 1]? = none) :
    compTurn (.ListComp elt gens scope pos) d it acc env = (do
      standAt iter.pos
      match ← pyNext it with
      | none => pure (.done .next)
      | some v =>
        letOwnedTupleGo tg it v
        assign tg env v
        let mut ok := true
        for c in ifs do
          if ok then ok ← isTrue c env (eval c env)
        if ok then
          (do let _ ← call (.builtin "list.append") [acc, ← eval elt env])
        again (.compLoop (.ListComp elt gens scope pos) d it acc env)) := by
  unfold compTurn
  simp only [hd, hd1]
  rfl
variable {prog : Program} {w : World} {A : Around} {s : Shared} {R : Result → Shared → Prop}
abbrev F0 : Value → Shared → Prop := fun _ _ => False
/-- what stands behind a clause's tests, to Z: the next clause, whole; or the element, appended -/
def Body (prog : Program) (w : World) (A : Around) (elt : Expr) (gens : List Comprehension) (scope : Scope) (pos : Pos) (acc : Value) (env : Env) (d : Nat) (Z : Shared → Prop) (s : Shared) : Prop :=
  match gens[d]? with
  | some g' => g'.is_async = 0 ∧ (∀ x, foldedSetIterable g'.iter env x = pure x) ∧ wpAny (model prog w) A (eval g'.iter env) (fun x s₄ => wpAny (model prog w) A (pyIter x) (fun i s₅ =>
      codeAny (model prog w) A (.compStart (.ListComp elt gens scope pos) d i acc env) (fun r s' => match r with
        | .ok _ => Z s'
        | .error _ => False) s₅) F0 s₄) F0 s
  | none => wpAny (model prog w) A (eval elt env) (fun x s₄ => wpAny (model prog w) A (call (.builtin "list.append") [acc, x]) (fun _ s₅ => Z s₅) F0 s₄) F0 s
/-- the loop of the clause d, by a word I that falls -/
theorem loop_rule (hsync : ∀ g ∈ gens, g.is_async = 0) (hd : gens[d]? = some ⟨tg, iter, ifs, 0⟩) (I : Nat → Shared → Prop)
    (turn : ∀ n s, I n s → wpAny (model prog w) A (pyNext it) (fun r s₁ => match r with
      | none => R (.ok .next) s₁
      | some v => wpAny (model prog w) A (letOwnedTupleGo tg it v) (fun _ s₁' => wpAny (model prog w) A (assign tg env v) (fun _ s₂ =>
          wpAny (model prog w) A (forIn ifs true fun c r => if r = true then do let ok ← isTrue c env (eval c env); pure (ForInStep.yield ok) else pure (ForInStep.yield r)) (fun ok s₃ =>
            if ok = true then Body prog w A elt gens scope pos acc env (d + 1) (fun s' => ∃ m, m < n ∧ I m s') s₃ else ∃ m, m < n ∧ I m s₃) F0 s₂) F0 s₁') F0 s₁) F0 s)
    (n : Nat) (h : I n s) : codeAny (model prog w) A (.compLoop (.ListComp elt gens scope pos) d it acc env) R s := by
  refine codeAny_loop rfl I (fun n s hI => ?_) n h
  show wpAny _ A ((compTurn (.ListComp elt gens scope pos) d it acc env).onRaise _) _ _ s
  refine wpAny_noted ?_
  cases hn : gens[d + 1]? with
  | none =>
    rw [turn_in hd hn]
    refine wpAny_bind (wpAny_standAt (wpAny_bind (thnF (turn n s hI) fun r s₁ h₁ => ?_)))
    cases r with
    | none => exact wpAny_pure h₁
    | some v =>
      refine wpAny_bind (thnF h₁ fun _ s₁' h₁' => wpAny_bind (thnF h₁' fun _ s₂ h₂ => wpAny_bind (thnF h₂ fun ok s₃ h₃ => ?_)))
      cases ok with
      | false => exact wpAny_pure ⟨rfl, h₃⟩
      | true =>
        have h₃ : Body prog w A elt gens scope pos acc env (d + 1) (fun s' => ∃ m, m < n ∧ I m s') s₃ := h₃
        unfold Body at h₃
        rw [hn] at h₃
        exact wpAny_bind (wpAny_bind (thnF h₃ fun x s₄ h₄ => wpAny_bind (thnF h₄ fun _ s₅ h₅ => wpAny_pure (wpAny_pure ⟨rfl, h₅⟩))))
  | some g' =>
    obtain ⟨tg1, iter1, ifs1, asy⟩ := g'
    by_cases ha : asy = 0
    · subst ha
      rw [turn_mid hd hn]
      refine wpAny_bind (wpAny_standAt (wpAny_bind (thnF (turn n s hI) fun r s₁ h₁ => ?_)))
      cases r with
      | none => exact wpAny_pure h₁
      | some v =>
        refine wpAny_bind (thnF h₁ fun _ s₁' h₁' => wpAny_bind (thnF h₁' fun _ s₂ h₂ => wpAny_bind (thnF h₂ fun ok s₃ h₃ => ?_)))
        cases ok with
        | false => exact wpAny_pure ⟨rfl, h₃⟩
        | true =>
          have h₃ : Body prog w A elt gens scope pos acc env (d + 1) (fun s' => ∃ m, m < n ∧ I m s') s₃ := h₃
          unfold Body at h₃
          rw [hn] at h₃
          obtain ⟨_, hs, h₃⟩ := h₃
          refine wpAny_bind (thnF h₃ fun x s₄ h₄ => ?_)
          refine wpAny_bind (wpAny_standAt (wpAny_bind (wpAny_of_eq (hs x) (wpAny_bind (wpAny_holding (thnF h₄ fun i1 s₅ h₅ => ?_))))))
          refine wpAny_bind (wpAny_runOwn ?_)
          rw [Around.mark_none]
          refine codeAny_mono h₅ fun r s' hr => ?_
          cases r with
          | ok f =>
            first
              | exact wpAny_pure ⟨rfl, hr⟩
              | exact wpAny_bind (wpAny_pure (wpAny_pure ⟨rfl, hr⟩))
          | error e => exact hr.elim
    · exact absurd (hsync _ (List.mem_of_getElem? hn)) ha
/-- a clause's start: its source is asked for its iterator once more, or not -/
theorem start_rule (hd : gens[d]? = some ⟨tg, iter, ifs, 0⟩) (h0 : codeAny (model prog w) A (.compLoop (.ListComp elt gens scope pos) d it acc env) R s)
    (h : wpAny (model prog w) A (pyIter it) (fun it' s' => codeAny (model prog w) A (.compLoop (.ListComp elt gens scope pos) d it' acc env) R s') (notedBy (model prog w) A env fun x s' => R (.error x) s') s) :
    codeAny (model prog w) A (.compStart (.ListComp elt gens scope pos) d it acc env) R s := by
  refine codeAny_of_tree ?_
  show wpAny _ _ ((compStart (.ListComp elt gens scope pos) d it acc env).onRaise _) _ _ s
  refine wpAny_notedAt ?_
  unfold compStart
  have e1 : (clausesOf (.ListComp elt gens scope pos))[d]? = some ⟨tg, iter, ifs, 0⟩ := hd
  rw [e1]
  show wpAny _ _ (ask >>= _) _ _ s
  refine wpAny_bind (wpAny_askSetting (wpAny_ite ?_))
  split
  · first
      | exact wpAny_bind (wpAny_pure (wpAny_pure (And.intro rfl h0)))
      | exact wpAny_pure (And.intro rfl h0)
  · first
      | exact wpAny_bind (wpAny_rule (wpAny_bind (wpAny_standAt (wpAny_bind (wpAny_mono h (fun it' s' h' => wpAny_pure (And.intro rfl h')) fun _ _ x => x)))))
      | (refine wpAny_bind (wpAny_rule ?_); show wpAny _ _ (standAt iter.pos >>= _) _ _ s; exact wpAny_bind (wpAny_standAt (wpAny_bind (wpAny_mono h (fun it' s' h' => wpAny_pure (And.intro rfl h')) fun _ _ x => x))))
end
section
variable {X : Cx} {elt : Expr} {gens : List Comprehension} {scope : Scope} {pos : Pos}
/-- what a block's rest is to reach, the list being built at D -/
abbrev TB := Addr → L2.St → Hp → (Hp → Prop) → Prop
/-- the element, appended -/
def tEnd (te : TE) : TB := fun D σ H Nx => te σ H fun y H' => ∃ acc, H' D = some (.lst acc) ∧ acc.length < sizeLine ∧ Nx (upd H' D (.lst (acc ++ [y])))
/-- a clause's turns, from H on, till Z -/
def tTurns (g : TG) (tt : TT) (t1 : TB) (vs : List Nat) (J : It) (D : Addr) (σ : L2.St) (Z : Hp → Prop) (H : Hp) : Prop :=
  ∃ W : Nat → Nat → Hp → Prop, (∃ m, W 0 m H) ∧ ∀ i m H, W i m H → (J.stop i H ∧ Z H) ∨
    (J.go i H ∧ ∃ Nx : Hp → Prop, (∀ H', Nx H' → ∃ m', m' < m ∧ W (i + 1) m' H') ∧ ∀ x H', J.yld i H x H' → g x (wipe σ vs) H' fun σ2 H2 => wipe σ2 vs = wipe σ vs ∧ tt σ2 H2 fun b H3 => if b = true then t1 D σ2 H3 Nx else Nx H3)
/-- a clause behind another -/
def tCl (wi : TI) (g : TG) (tt : TT) (t1 : TB) (vs : List Nat) : TB := fun D σ H Nx => wi σ H fun J H1 => tTurns g tt t1 vs J D σ Nx H1
/-- the whole -/
def tLcN (wi : TI) (g : TG) (tt : TT) (t1 : TB) (vs : List Nat) : TE := fun σ H Q => wi σ H fun J H1 => ∀ D, H1 D = none → tTurns g tt t1 vs J D σ (fun H' => Q (.ref D) H') (upd H1 D (.lst []))
/-- slots that know, but for vs, what the others know -/
def Kn (vs : List Nat) (σ σ' : L2.St) : Prop := σ'.length = σ.length ∧ ∀ (j : Nat) v, (wipe σ vs)[j]? = some (some v) → σ'[j]? = some (some v)
structure PB (X : Cx) (elt : Expr) (gens : List Comprehension) (scope : Scope) (pos : Pos) (d : Nat) (vs : List Nat) (t : TB) : Prop where
  run : ∀ (D : Addr) (pins : List (Addr × Obj)) (s : Shared) (σ : L2.St) (H : Hp) (Nx : Hp → Prop) (Z : Shared → Prop), Inv X pins σ H s → t D σ H Nx →
    (∀ s' σ' H', Inv X pins σ' H' s' → Kn vs σ σ' → Nx H' → Z s') → Body X.prog X.w X.A elt gens scope pos (.ref D) X.env d Z s
theorem pb_end {d : Nat} {te : TE} (hx : X.xe = fun _ _ => False) (hd : gens[d]? = none) (he : PE X elt te) : PB X elt gens scope pos d [] (tEnd te) := by
  refine ⟨fun D pins s σ H Nx Z I h hZ => ?_⟩
  unfold Body
  rw [hd]
  have r := he.run pins s σ H _ I h
  rw [hx] at r
  refine thnF r fun z s1 ⟨yv, H1, I1, r1, acc, hD, hz, nx⟩ => ?_
  exact app_ok I1 hD hz r1 fun s2 I2 => hZ s2 σ _ I2 ⟨rfl, fun j v e => e⟩ nx
variable {tg iter : Expr} {ifs : List Expr} {d : Nat} {g : TG} {tt : TT} {t1 : TB} {vs vs1 : List Nat} {J : It} {fp : List Addr} {it : Addr} {tn : Nat → Heap → Prop} {pins : List (Addr × Obj)} {s : Shared} {σ : L2.St} {H : Hp} {D : Addr} {S : Hp → Prop} {R : Result → Shared → Prop}
theorem loop_ok (hx : X.xe = fun _ _ => False) (hc : X.calm = true) (hsync : ∀ g ∈ gens, g.is_async = 0) (hd : gens[d]? = some ⟨tg, iter, ifs, 0⟩) (pg : PG X tg g) (pt : PTs X ifs tt)
    (hb : PB X elt gens scope pos (d + 1) vs1 t1) (hv : ∀ i ∈ vs1, i ∈ vs) (T : Turn X.prog X.w X.K tg J fp it tn)
    (stat : ∀ {σ' : L2.St} {H' : Hp} {s' : Shared}, Inv X pins σ' H' s' → (∀ b ∈ fp, H' b = none) → ∀ b ∈ fp, FpOk X pins H' b)
    (I : Inv X pins (wipe σ vs) H s) (st : tn 0 s.heap) (nf : ∀ b ∈ fp, H b = none) (h : tTurns g tt t1 vs J D σ S H)
    (hR : ∀ s' H', Inv X pins (wipe σ vs) H' s' → S H' → R (.ok .next) s') :
    codeAny (model X.prog X.w) X.A (.compLoop (.ListComp elt gens scope pos) d (.ref it) (.ref D) X.env) R s := by
  obtain ⟨W, ⟨m0, w0⟩, turn⟩ := h
  refine loop_rule hsync hd (fun n s' => ∃ i H', Inv X pins (wipe σ vs) H' s' ∧ tn i s'.heap ∧ (∀ b ∈ fp, H' b = none) ∧ W i n H') ?_ m0 ⟨0, H, I, st, nf, w0⟩
  rintro n sa ⟨i, Ha, Ia, sta, na, wa⟩
  rcases turn i n Ha wa with ⟨stop, z⟩ | ⟨go, Nx, hNx, step⟩
  · refine thnF (T.done X rfl rfl rfl hc i pins sa _ Ha (fun _ _ => False) Ia (stat Ia na) sta stop) fun r sb ⟨hr, Ib⟩ => ?_
    subst hr
    exact hR sb Ha Ib z
  · refine thnF (T.item X rfl rfl rfl hc i pins sa _ Ha (fun _ _ => False) Ia (stat Ia na) sta go) fun r sb ⟨u, hr, hb'⟩ => ?_
    subst hr
    refine thnF hb' fun _ sc ⟨x, Hc, Ic, rc, yc, stc, nc⟩ => ?_
    have Ip := Ic.pinned (stat Ic nc) (T.obj _ _ stc)
    have r1 := pg.run _ sc _ Hc x u _ Ip rc (step x Hc yc)
    rw [hx] at r1
    refine thnF r1 fun _ sd ⟨σd, Hd, Id, hw, qd⟩ => ?_
    have r2 := pt.run _ sd σd Hd _ Id qd
    rw [hx] at r2
    refine thnF r2 fun b se ⟨He, Ie, qe⟩ => ?_
    have fin : ∀ {σf : L2.St} {s' : Shared} {H' : Hp}, Inv X (pins ++ pinsAt fp sc.heap) σf H' s' → Kn vs1 σd σf → Nx H' → ∃ m, m < n ∧ ∃ i H', Inv X pins (wipe σ vs) H' s' ∧ tn i s'.heap ∧ (∀ b ∈ fp, H' b = none) ∧ W i m H' := fun {σf s' H'} I' kn nx => by
      obtain ⟨m', hm, w'⟩ := hNx H' nx
      have pin' : ∀ b ∈ fp, ∀ o, sc.heap.get? b = some o → s'.heap.get? b = some o ∧ H' b = none := fun b hb o e =>
        let z := I'.pin (b, o) (List.mem_append_right _ (List.mem_append_right _ (mem_pinsAt hb e)))
        ⟨z.1, z.2.1⟩
      refine ⟨m', hm, i + 1, H', I'.unpinned.weak ?_ (fun j v e => ?_), T.keep _ _ _ stc fun b hb o e => (pin' b hb o e).1, fun b hb => ?_, w'⟩
      · rw [kn.1, ← wipe_length σd vs, hw]
      · rw [← hw] at e
        obtain ⟨e1, e2⟩ := wipe_some e
        exact kn.2 j v (by rw [wipe_out fun z => e2 (hv j z)]; exact e1)
      · obtain ⟨o, e, _⟩ := T.obj _ _ stc b hb
        exact (pin' b hb o e).2
    cases b with
    | false =>
      simp only [Bool.false_eq_true, if_false] at qe ⊢
      exact fin Ie ⟨rfl, fun j v e => (wipe_some e).1⟩ qe
    | true =>
      simp only [if_true] at qe ⊢
      exact hb.run D _ se σd He Nx _ Ie qe fun s' σ' H' I' kn nx => fin I' kn nx
/-- one clause more -/
theorem pb_cl {wi : TI} (hx : X.xe = fun _ _ => False) (hc : X.calm = true) (hsync : ∀ g ∈ gens, g.is_async = 0) (hd : gens[d]? = some ⟨tg, iter, ifs, 0⟩) (hi : PI X tg iter wi) (pg : PG X tg g) (pt : PTs X ifs tt)
    (hb : PB X elt gens scope pos (d + 1) vs1 t1) (hv : ∀ i ∈ vs1, i ∈ vs) (hs : ∀ env x, foldedSetIterable iter env x = pure x := by intro _ _; rfl) :
    PB X elt gens scope pos d vs (tCl wi g tt t1 vs) := by
  refine ⟨fun D pins s σ H Nx Z I h hZ => ?_⟩
  unfold Body
  rw [hd]
  refine ⟨rfl, hs _, ?_⟩
  have r := hi.run pins s σ H _ I h
  rw [hx] at r
  refine thnF r fun xv s1 h1 => thnF h1 fun itv s2 ⟨it, fp, tn, J, H2, e, I2, T, st, f, q⟩ => ?_
  subst e
  have loop := loop_ok (R := fun r s' => match r with
    | .ok _ => Z s'
    | .error _ => False) hx hc hsync hd pg pt hb hv T (fun _ hn b hb => ⟨hn b hb, (f b hb).2⟩) (I2.weak (wipe_length _ _) fun j v e => (wipe_some e).1) st (fun b hb => (f b hb).1) q
    fun s' H' I' z => hZ s' _ H' I' ⟨wipe_length _ _, fun j v e => e⟩ z
  exact start_rule hd loop (T.self X.A 0 _ _ _ st loop)
end
section
variable {X : Cx} {elt : Expr} {more : List Comprehension} {scope : Scope} {pos : Pos} {tg iter : Expr} {ifs : List Expr} {g : TG} {tt : TT} {t1 : TB} {vs1 : List Nat} {wi : TI} {own : List (Str × Nat)}
/-- [elt for tg in iter if .. for .. ..] as a value: any number of clauses -/
theorem pe_lcn (hc : X.calm = true) (hN : X.N.Nodup) (hi : PI X tg iter wi) (ok : BlkOk X.N X.env.scope scope own) (hsync : ∀ g ∈ (⟨tg, iter, ifs, 0⟩ :: more : List Comprehension), g.is_async = 0)
    (hg : ∀ (s : Shared) (H : Hp) (C : Addr) (cl : List (Str × Addr)) (fp : List Addr), PG (X.blk s H scope (compEnvC scope cl C X.env) fp) tg g)
    (ht : ∀ (s : Shared) (H : Hp) (C : Addr) (cl : List (Str × Addr)) (fp : List Addr), PTs (X.blk s H scope (compEnvC scope cl C X.env) fp) ifs tt)
    (hb : ∀ (s : Shared) (H : Hp) (C : Addr) (cl : List (Str × Addr)) (fp : List Addr), PB (X.blk s H scope (compEnvC scope cl C X.env) fp) elt (⟨tg, iter, ifs, 0⟩ :: more) scope pos 1 vs1 t1)
    (hv : ∀ i ∈ vs1, i ∈ own.map (·.2)) (hs : ∀ x, foldedSetIterable iter X.env x = pure x := by intro _; rfl) :
    PE X (.ListComp elt (⟨tg, iter, ifs, 0⟩ :: more) scope pos) (tLcN wi g tt t1 (own.map (·.2))) := by
  refine ⟨fun pins s σ H Q I h => ?_⟩
  rw [eval_ListComp]
  have seen : ∀ y ∈ scope.names, y.2 = .free → ∃ c, X.env.cells.lookup y.1 = some c := fun y hy e => (ok.free y hy e).elim (fun k => I.ok.has _ (.inl k)) fun k => I.ok.has _ (.inr k)
  refine wpAny_comprehension_free (use := none) (gs := more) rfl hs (closure_ok seen) ok.kind (fun y hy e => by rw [ok.uniq y hy, e])
    (thn (hi.run pins s σ H _ I h) fun xv s1 h1 => thn h1 fun itv s2 ⟨it, fp, tn, J, H2, e, I2, T, st2, f2, q⟩ => ?_)
  subst e
  refine wpAny_newObj_type (newEnv_comp ?_) (by show 0 ≤ sizeLine; decide)
  have fresh : H2 s2.heap.objs.size = none := I2.hok.fresh (Nat.le_refl _)
  have qD := q _ fresh
  generalize hD : s2.heap.objs.size = D at fresh qD
  generalize hs3 : ({ s2 with heap := s2.heap.push { cls := .type "list", data := .seq ([] : List Value).toArray } } : Shared) = s3
  have up : s3.heap = s2.heap.push { cls := .type "list", data := .seq ([] : List Value).toArray } := by rw [← hs3]
  generalize hH3 : upd H2 D (.lst []) = H3 at qD
  have I3 : Inv X pins σ H3 s3 := by
    rw [← hH3, ← hs3]
    exact I2.laid (t' := s2.toks) (fun b o e => Heap.get?_push_of_some _ e) (Nat.le_of_eq hD) ⟨Nat.zero_le _, [], 0, .nil, by rw [← hD]; exact Heap.get?_push_size _ rfl⟩
  have f3 : ∀ b ∈ fp, FpOk X pins H3 b ∧ b < s3.heap.objs.size := fun b hb => by
    obtain ⟨o, e, _⟩ := T.obj _ _ st2 b hb
    have lt := Heap.lt_size e
    refine ⟨⟨?_, (f2 b hb).2⟩, by rw [up, Heap.size_push]; exact Nat.lt_succ_of_lt lt⟩
    rw [← hH3, upd_ne (by rw [← hD]; exact Nat.ne_of_lt lt)]
    exact (f2 b hb).1
  have I4 := block_start I3 ok hN f3
  have hg := hg s3 H3 s3.heap.objs.size (cellsFrom (s3.heap.objs.size + 1) scope.names (cloFrom X.env.cells scope.names [])) fp
  have ht := ht s3 H3 s3.heap.objs.size (cellsFrom (s3.heap.objs.size + 1) scope.names (cloFrom X.env.cells scope.names [])) fp
  have hb := hb s3 H3 s3.heap.objs.size (cellsFrom (s3.heap.objs.size + 1) scope.names (cloFrom X.env.cells scope.names [])) fp
  generalize hce : compEnvC scope (cellsFrom (s3.heap.objs.size + 1) scope.names (cloFrom X.env.cells scope.names [])) s3.heap.objs.size X.env = ce at I4 hg ht hb
  have cL : ce.locals = s3.heap.objs.size := by subst hce; rfl
  generalize hs4 : ({ s3 with heap := pushCells (s3.heap.push { cls := .type "dict", data := .dict #[] }) scope.names } : Shared) = s4 at I4
  have st4 : tn 0 s4.heap := T.keep _ _ _ st2 fun b _ o e => by
    rw [← hs4]
    exact pushCells_keeps _ _ _ _ (Heap.get?_push_of_some _ (by rw [up]; exact Heap.get?_push_of_some _ e))
  have loop := loop_ok (X := X.blk s3 H3 scope ce fp) (it := it) (pos := pos) (R := compPost (model X.prog X.w) X.A X.xe none (EP X pins σ Q) (.ref D) s3.heap.objs.size) rfl hc hsync rfl hg ht hb hv T
    (fun I' hn b hb => ⟨hn b hb, (I'.ok.exf b hb).1, I'.ok.exfs b hb, .inl hb, fun x c e => (I'.ok.exf b hb).2 x c e, fun p hp => absurd (show p ∈ ([] : List (Addr × Obj)) ++ [] from hp) (by simp)⟩)
    I4 st4 (fun b hb => (f3 b hb).1.1) qD fun s5 H5 I5 z => by
      have I6 : Inv X pins σ H5 s5 := I3.call' (ch := fp) I5.os I5.base I5.hok I5.bare fun b hb => ⟨(f3 b hb).1.2.2.2.1, (f3 b hb).1.2.1, (f3 b hb).1.2.2.2.2.1, (f3 b hb).1.2.2.2.2.2⟩
      have nC : H5 s3.heap.objs.size = none := cL ▸ (I5.free : H5 ce.locals = none)
      obtain ⟨m, hn, _⟩ := I5.loc
      obtain ⟨g0, g1, g2, g3, g4, g5⟩ := I3.fpOk (Nat.le_refl _) nC
      refine ⟨m, cL ▸ (show s5.heap.Ns ce.locals m from hn), fun h'' sb => ?_⟩
      exact ⟨.ref D, H5, I6.turned (t' := s5.toks) (fun b o hb e => (sb.2 b hb).trans e) g0 g1 g3 g4 g5, rfl, z⟩
  subst hs3 hs4 hce hD
  exact codeAny_compStart_list loop (T.self X.A 0 _ _ _ st4 loop)
end
end Lcn
set_option maxHeartbeats 4000000
/-! sequences that are lists or tuples; comprehensions told by what they give -/
namespace Sq
open PySem PySem.Spec PyProof.Rows L2 Lcn
/-- a list or a tuple stands -/
def Sqn (K : PySem.W.Frag) (H : Hp) (a : Addr) (xs : List V) : Prop := SqL K H a xs ∨ SqT K H a xs
theorem SqT.same {K : PySem.W.Frag} {H H' : Hp} {a : Addr} {xs : List V} (e : Same H H') (h : SqT K H a xs) : SqT K H' a xs := by
  rcases h with (h | ⟨o, h⟩) | h
  · exact .inl (.inl (e _ _ h))
  · exact .inl (.inr ⟨o, e _ _ h⟩)
  · exact .inr h
theorem Sqn.same {K : PySem.W.Frag} {H H' : Hp} {a : Addr} {xs : List V} (e : Same H H') (h : Sqn K H a xs) : Sqn K H' a xs := h.imp e.seq (SqT.same e)
theorem same_upd {H H' : Hp} {p : Addr} {o : HO} (e : Same H H') (h : H p = none) : Same H (upd H' p o) := fun b u x => by
  rw [upd_ne (ne_of_none x h)]
  exact e b u x
theorem same_new {H : Hp} {p : Addr} {o : HO} (h : H p = none) : Same H (upd H p o) := same_upd (Same.refl H) h
/-! ### what is no list stays -/
def nol : HO → Bool
  | .lst _ => false
  | _ => true
def KT (H H' : Hp) : Prop := ∀ b o, nol o = true → H b = some o → H' b = some o
theorem KT.refl (H : Hp) : KT H H := fun _ _ _ h => h
theorem KT.trans {H H1 H2 : Hp} (a : KT H H1) (b : KT H1 H2) : KT H H2 := fun c o n h => b c o n (a c o n h)
theorem KT.of {H H' : Hp} (e : Same H H') : KT H H' := fun b o _ h => e b o h
theorem KT.tup {K : PySem.W.Frag} {H H' : Hp} {a : Addr} {xs : List V} (e : KT H H') (h : SqT K H a xs) : SqT K H' a xs := by
  rcases h with (h | ⟨o, h⟩) | h
  · exact .inl (.inl (e _ _ rfl h))
  · exact .inl (.inr ⟨o, e _ _ rfl h⟩)
  · exact .inr h
/-- a list's place written anew -/
theorem KT.lst {H : Hp} {D : Addr} {xs ys : List V} (h : H D = some (.lst xs)) : KT H (upd H D (.lst ys)) := fun b o n e => by
  by_cases hb : b = D
  · subst hb
    rw [h] at e
    cases e
    cases n
  · rw [upd_ne hb]
    exact e
theorem KT.new {H : Hp} {p : Addr} {o : HO} (h : H p = none) : KT H (upd H p o) := KT.of (same_new h)
/-! ### a frame: all stays but what M lets change, and M's own promise G goes on -/
structure Fr (M : Addr → Prop) (G : Hp → Prop) (H H' : Hp) : Prop where
  keep : ∀ b o, ¬ M b → H b = some o → H' b = some o
  kt : KT H H'
  on : G H → G H'
section
variable {M : Addr → Prop} {G : Hp → Prop}
theorem Fr.refl (H : Hp) : Fr M G H H := ⟨fun _ _ _ h => h, KT.refl H, fun g => g⟩
theorem Fr.trans {H H1 H2 : Hp} (a : Fr M G H H1) (b : Fr M G H1 H2) : Fr M G H H2 := ⟨fun c o n h => b.keep c o n (a.keep c o n h), a.kt.trans b.kt, fun g => b.on (a.on g)⟩
end
/-- G hangs on what stands at A alone, and A is there; M lies in A -/
structure Gd (A M : Addr → Prop) (G : Hp → Prop) : Prop where
  dep : ∀ H H', (∀ b o, A b → H b = some o → H' b = some o) → G H → G H'
  dom : ∀ H b, G H → A b → ∃ o, H b = some o
  sub : ∀ b, M b → A b
/-- nothing may change -/
abbrev F0 : Hp → Hp → Prop := Fr (fun _ => False) (fun _ => True)
theorem gd0 : Gd (fun _ => False) (fun _ => False) (fun _ => True) := ⟨fun _ _ _ g => g, fun _ _ _ z => z.elim, fun _ z => z⟩
theorem F0.of {H H' : Hp} (e : Same H H') : F0 H H' := ⟨fun b o _ h => e b o h, KT.of e, fun g => g⟩
theorem F0.same {H H' : Hp} (e : F0 H H') : Same H H' := fun b o h => e.keep b o (fun z => z) h
section
variable {A M : Addr → Prop} {G : Hp → Prop}
theorem Fr.of (u : Gd A M G) {H H' : Hp} (e : Same H H') : Fr M G H H' := ⟨fun b o _ h => e b o h, KT.of e, u.dep H H' fun b o _ h => e b o h⟩
theorem Gd.nA (u : Gd A M G) {H : Hp} {D : Addr} (g : G H) (h : H D = none) : ¬ A D := fun m => by
  obtain ⟨o, h'⟩ := u.dom H D g m
  rw [h] at h'
  cases h'
theorem Fr.free (u : Gd A M G) {H H' : Hp} (e : Fr M G H H') (g : G H) {D : Addr} (h : H' D = none) : H D = none := by
  cases q : H D with
  | none => rfl
  | some o =>
    rw [e.keep D o (fun m => u.nA (e.on g) h (u.sub D m)) q] at h
    cases h
theorem Gd.out (u : Gd A M G) {H : Hp} {D : Addr} {o : HO} (nA : ¬ A D) (g : G H) : G (upd H D o) := u.dep H _ (fun b ob ha h => by
  rw [upd_ne (fun z => nA (by rw [← z]; exact ha))]
  exact h) g
end
/-! ### a comprehension over one walk that keeps all -/
/-- n turns, turn i with x, X i x; the heap stays -/
def YIs (X : Nat → V → Prop) : Nat → Hp → V → Hp → Prop := fun i H x H' => H' = H ∧ X i x
/-- at D a list of n things stands, R of each -/
def Got (D : Addr) (n : Nat) (R : Hp → Nat → V → Prop) (H' : Hp) : Prop := ∃ ys, H' D = some (.lst ys) ∧ ys.length = n ∧ ∀ i y, ys[i]? = some y → R H' i y
def Stb (R : Hp → Nat → V → Prop) : Prop := ∀ H H' i v, KT H H' → R H i v → R H' i v
theorem got_snoc {D : Addr} {n : Nat} {R : Hp → Nat → V → Prop} {H : Hp} {ys : List V} {y : V} (st : Stb R) (h : H D = some (.lst ys)) (hn : ys.length = n) (hR : ∀ i y, ys[i]? = some y → R H i y) (hy : R H n y) : Got D (n + 1) R (upd H D (.lst (ys ++ [y]))) := by
  have k : KT H (upd H D (.lst (ys ++ [y]))) := KT.lst h
  refine ⟨ys ++ [y], upd_same, by rw [List.length_append, hn]; rfl, fun i z hz => ?_⟩
  rcases Nat.lt_or_ge i ys.length with lt | ge
  · rw [List.getElem?_append_left lt] at hz
    exact st _ _ _ _ k (hR i z hz)
  · rw [List.getElem?_append_right ge] at hz
    cases e : i - ys.length with
    | zero =>
      rw [e] at hz
      cases hz
      have : i = n := by omega
      rw [this]
      exact st _ _ _ _ k hy
    | succ j =>
      rw [e] at hz
      cases hz
theorem lc_fr {A M : Addr → Prop} {G : Hp → Prop} {J : It} {n : Nat} {Gw : Hp → Prop} {Xt : Nat → V → Prop} (w : Walk J n Gw (YIs Xt)) (hn : n < sizeLine) {g : TG} {te : TE} {vs : List Nat} {σ : L2.St} {H1 : Hp} {D : Addr} {Qd : Hp → Prop} {R : Hp → Nat → V → Prop} (st : Stb R) (u : Gd A M G)
    (hD : H1 D = none) (hG : G H1) (hGw : ∀ H', Fr M G H1 H' → Gw H')
    (hs : ∀ i x H' (Q : VK), i < n → Xt i x → Fr M G H1 H' → (∀ y H4, Fr M G H' H4 → R H4 i y → Q y H4) → g x (wipe σ vs) H' fun σ2 H2 => wipe σ2 vs = wipe σ vs ∧ te σ2 H2 Q)
    (hd : ∀ H', Fr M G H1 H' → Got D n R H' → Qd H') :
    ∃ W : Nat → Nat → Hp → Prop, (∃ m, W 0 m (upd H1 D (.lst []))) ∧ ∀ i m H, W i m H →
      (J.stop i H ∧ Qd H) ∨ (J.go i H ∧ ∃ Nx : Hp → Prop, (∀ H', Nx H' → ∃ m', m' < m ∧ W (i + 1) m' H') ∧ ∀ x H', J.yld i H x H' → g x (wipe σ vs) H' fun σ2 H2 => wipe σ2 vs = wipe σ vs ∧ tYes σ2 H2 fun b H3 =>
        if b = true then te σ2 H3 fun y H4 => ∃ acc, H4 D = some (.lst acc) ∧ acc.length < sizeLine ∧ Nx (upd H4 D (.lst (acc ++ [y]))) else Nx H3) := by
  have nA : ¬ A D := u.nA hG hD
  have nD : ¬ M D := fun m => nA (u.sub D m)
  refine lc_it w (fun i H => Fr M G H1 H ∧ Got D i R H) ⟨Fr.of u (same_new hD), [], upd_same, rfl, fun i y h => by cases i <;> cases h⟩ (fun i H _ p => hGw H p.1) (fun i x H H' hi p y => ?_) (fun H p => hd H p.1 p.2)
  obtain ⟨e, hx⟩ := y
  subst e
  obtain ⟨fr, ys, hDl, hl, hR⟩ := p
  refine hs i x H' _ hi hx fr fun y H4 f4 hy => ?_
  have d4 := f4.keep D _ nD hDl
  refine ⟨ys, d4, by omega, ⟨fun b o nm h => ?_, fun b o no h => ?_, fun gg => ?_⟩, got_snoc st d4 hl (fun i y h => st _ _ _ _ f4.kt (hR i y h)) hy⟩
  · rw [upd_ne (ne_of_none h hD)]
    exact f4.keep b o nm (fr.keep b o nm h)
  · rw [upd_ne (ne_of_none h hD)]
    exact f4.kt b o no (fr.kt b o no h)
  · exact u.out nA (f4.on (fr.on gg))
/-! ### a list or a tuple, walked -/
@[irreducible] def iSeq (K : PySem.W.Frag) (tl : TE) : TI := fun σ H R => tl σ H fun x H1 => ∃ a xs, x = .ref a ∧ ((SqL K H1 a xs ∧ R (Itl K a) H1) ∨ (SqT K H1 a xs ∧ R (Itt K a) H1))
theorem pi_seq {X : Cx} {tg l : Expr} {tl : TE} (hl : PE X l tl) : PI X tg l (iSeq X.K tl) := by
  refine ⟨fun pins s σ H R I h => ?_⟩
  unfold iSeq at h
  refine thn (hl.run pins s σ H _ I h) fun v s1 ⟨x, H1, I1, r1, a, xs, e, q⟩ => ?_
  subst e
  cases r1
  have here : ∀ b ∈ [s1.heap.objs.size], FpOk X pins H1 b := fun b hb => by
    have e : b = s1.heap.objs.size := by simpa using hb
    rw [e]
    exact I1.fpOk (Nat.le_refl _) (I1.hok.fresh (Nat.le_refl _))
  rcases q with ⟨hq, q⟩ | ⟨hq, q⟩
  · obtain ⟨its, rv, p, hz⟩ := I1.list hq
    exact wpAny_pyIter_list p.isList ⟨s1.heap.objs.size, [s1.heap.objs.size], _, _, H1, rfl, I1.kept (t' := s1.toks) fun b o e => Heap.get?_push_of_some _ e, turn_list a _, ⟨_, Heap.get?_push_size _ rfl, rfl, rfl⟩, here, q⟩
  · obtain ⟨its, rv, p, hz⟩ := I1.tuple hq
    exact wpAny_pyIter_tuple (show s1.heap.IsTuple a its.toArray from p) ⟨s1.heap.objs.size, [s1.heap.objs.size], _, _, H1, rfl, I1.kept (t' := s1.toks) fun b o e => Heap.get?_push_of_some _ e, turn_tuple a _, ⟨_, Heap.get?_push_size _ rfl, rfl, rfl⟩, here, q⟩
theorem seq_rd {K : PySem.W.Frag} {tl : TE} {σ : L2.St} {H H0 H1 : Hp} {R : It → Hp → Prop} {a : Addr} {xs : List V} (e0 : Same H0 H1) (hl : ∀ Q : VK, Q (.ref a) H1 → tl σ H Q) (hs : Sqn K H0 a xs)
    (q : ∀ (J : It) (Gw : Hp → Prop), Walk J xs.length Gw (YIs fun i x => xs[i]? = some x) → (∀ H', (∀ o, H0 a = some o → H' a = some o) → Gw H') → R J H1) : iSeq K tl σ H R := by
  unfold iSeq
  refine hl _ ⟨a, xs, rfl, hs.imp (fun h => ⟨e0.seq h, q _ _ walk_list fun H' e => ?_⟩) (fun h => ⟨SqT.same e0 h, q _ _ walk_tup fun H' e => ?_⟩)⟩
  · rcases h with (h | ⟨o, h⟩) | h
    · exact .inl (.inl (e _ h))
    · exact .inl (.inr ⟨o, e _ h⟩)
    · exact .inr h
  · rcases h with (h | ⟨o, h⟩) | h
    · exact .inl (.inl (e _ h))
    · exact .inl (.inr ⟨o, e _ h⟩)
    · exact .inr h
/-! ### xs.extend(t), t a tuple -/
def rExtT (K : PySem.W.Frag) : V → List V → Hp → VK → Prop := fun x vs H Q => ∃ l b xs zs, x = .ref l ∧ vs = [.ref b] ∧ H l = some (.lst xs) ∧ SqT K H b zs ∧ xs.length + zs.length ≤ sizeLine ∧ Q .non (upd H l (.lst (xs ++ zs)))
/-! ### tuple(x) -/
@[irreducible] def rTupOf (K : PySem.W.Frag) (xs : List V) (H : Hp) (Q : VK) : Prop := ∃ p ys, xs = [.ref p] ∧ ((SqL K H p ys ∧ ∀ l, H l = none → Q (.ref l) (upd H l (.tup ys))) ∨ (SqT K H p ys ∧ Q (.ref p) H))
theorem call_tupR {X : Cx} : CallR X (.type "tuple") (rTupOf X.K) := fun pins s σ H xs us Q I r h => by
  unfold rTupOf at h
  exact call_tuple_of pins s σ H xs us Q I r h
theorem rd_tup {K : PySem.W.Frag} {H : Hp} {a : Addr} {xs : List V} {Q : VK} (hs : Sqn K H a xs) (q : ∀ b H', Same H H' → SqT K H' b xs → Q (.ref b) H') : rTupOf K [.ref a] H Q := by
  unfold rTupOf
  exact ⟨a, xs, rfl, hs.imp (fun h => ⟨h, fun l hl => q l _ (same_new hl) (SqT.of upd_same)⟩) (fun h => ⟨h, q a H (Same.refl H) h⟩)⟩
/-! ### t[i:j], t a tuple -/
@[irreducible] def rSlR (K : PySem.W.Frag) (x : V) (lo hi : Option Int) (H : Hp) (Q : VK) : Prop := rSlA K x lo hi H Q
theorem sl_tupR {X : Cx} : SlR X (rSlR X.K) := by
  have e : rSlR X.K = rSlA X.K := by
    funext x lo hi H Q
    unfold rSlR
    rfl
  rw [e]
  exact sl_tupA
theorem rd_sl {K : PySem.W.Frag} {H : Hp} {a : Addr} {xs : List V} {lo hi : Option Int} {Q : VK} (ha : SqT K H a xs) (q : ∀ c H', Same H H' → SqT K H' c (cutV xs lo hi) → Q (.ref c) H') : rSlR K (.ref a) lo hi H Q := by
  unfold rSlR
  refine ⟨a, xs, rfl, ha, fun e => ?_, fun _ p hp => q p _ (same_new hp) (SqT.of upd_same)⟩
  refine q a H (Same.refl H) ?_
  have : cutV xs lo hi = xs := by
    unfold cutV
    rw [e.1, e.2]
    simp
  rw [this]
  exact ha
/-! ### rules for within a block: the written part named -/
section
variable {X : Cx} {K : PySem.W.Frag} (hK : X.K = K)
include hK
theorem ix_tupK : IxR X (rIxT K) := hK ▸ ix_tup
theorem ix_listK : IxR X (rIxL K) := hK ▸ ix_list
theorem ix_seqK : IxR X (rIx K) := hK ▸ ix_seq
theorem sl_tupRK : SlR X (rSlR K) := hK ▸ sl_tupR
theorem op_catAK : OpR X (binaryOp .Add) (rCatA K) := hK ▸ op_catA
theorem op_in_seqK : OpR X (compareOp .In) (rIn K false) := hK ▸ op_in_seq
theorem call_len_seqK : CallR X (.builtin "len") (fun xs H Q => ∃ p ys, xs = [.ref p] ∧ (SqL K H p ys ∨ SqT K H p ys) ∧ Q (.int ys.length) H) := hK ▸ call_len_seq
theorem call_tuple_ofK : CallR X (.type "tuple") (fun xs H Q => ∃ p ys, xs = [.ref p] ∧ ((SqL K H p ys ∧ ∀ l, H l = none → Q (.ref l) (upd H l (.tup ys))) ∨ (SqT K H p ys ∧ Q (.ref p) H))) := hK ▸ call_tuple_of
theorem call_tupRK : CallR X (.type "tuple") (rTupOf K) := hK ▸ call_tupR
theorem call_isiK : CallR X (.builtin "isinstance") (rIsi K) := hK ▸ call_isi
theorem call_isiTK : CallR X (.builtin "isinstance") (rIsiT K) := hK ▸ call_isiT
theorem cr_allK (hc : X.calm = true := by rfl) : CallR X (.builtin "all") (rAll K) := hK ▸ cr_all hc
theorem pi_seqK {tg l : Expr} {tl : TE} (hl : PE X l tl) : PI X tg l (iSeq K tl) := hK ▸ pi_seq hl
theorem pi_tupK {tg l : Expr} {tl : TE} (hl : PE X l tl) : PI X tg l (iTup K tl) := hK ▸ pi_tup hl
theorem pi_listK {tg l : Expr} {tl : TE} (hl : PE X l tl) : PI X tg l (iList K tl) := hK ▸ pi_list hl
theorem pg_tupK (hc : X.calm = true) {es : List Expr} {k : Nat} {pos : Pos} {t : TGs} {n : Nat} (h : PGs X es t) (hn : (assignEach es X.env).length = n := by rfl) (hst : (assignEach es X.env).findIdx? (·.1) = none := by rfl) : PG X (.Tuple es k pos) (gTup K n t) := hK ▸ pg_tup hc h hn hst
end
theorem ext_tup (l : Addr) (items : Array Value) (n : Nat) (b : Addr) (items2 : Array Value) (n2 : Nat) (dct : Option Addr) (sl : Array (Option Value)) (hs0 : ¬(!items.isEmpty && Builtin.List.listTooLong (items.size + items2.size)) = true) (hs1 : items.size ≤ sizeLine) (hs2 : items.size + items2.size ≤ sizeLine + 1) :
    Meets (Builtin.«list.extend» ⟨[.ref l, .ref b], []⟩) (fun _ R s => s.heap.get? l = some { cls := .type "list", dict := none, data := .seq items n, slots := #[] } ∧ s.heap.get? b = some ⟨.type "tuple", dct, .seq items2 n2, sl⟩ ∧ R (.ok (.ret Value.none)) { s with heap := s.heap.update l (Obj.mapSeq fun x => x ++ items2), toks := s.toks }) :=
  .of_wp fun prog w A R s h => by
    obtain ⟨hp, g, d, tk, os⟩ := s
    obtain ⟨hl, hb, h⟩ := h
    have f2 := AutoSeq1.sub_tuple_tuple
    have f4 := AutoSeq1.sub_tuple_list
    have f3 := AutoSeq1.sub_list_list
    have f5 := AutoSeq1.sub_list_tuple
    have hz' : (items ++ items2).size ≤ sizeLine + 1 := by rw [Array.size_append]; exact hs2
    wp_walk using (wpAny_updateSeq hl rfl (hz := hs1) (_hz' := hz')), AutoSeq1.wpAny_loadPart' hl, AutoSeq1.wpAny_loadPart' hb
    exact ⟨_, rfl, h⟩
theorem mt_extT {X : Cx} : MtM X "list.extend" (rExtT X.K) := by
  intro pins s σ H x vs v us Q I rx rv h
  obtain ⟨l, b, xs, zs, rfl, rfl, hH, hB, hz, q⟩ := h
  cases rx
  obtain ⟨u, rfl, ru⟩ := rv.one
  cases ru
  obtain ⟨z, its, n, r, hl, e⟩ := I.lstM hH
  obtain ⟨its2, r2, ⟨⟨oc, od, dt, os⟩, e2, c2, n2, d2⟩, z2⟩ := I.tuple hB
  dsimp only at c2 d2
  subst c2 d2
  have l1 := r.length
  have l2 := r2.length
  have hsz : its.toArray.size + its2.toArray.size ≤ sizeLine := by
    rw [List.size_toArray, List.size_toArray]
    omega
  have hlong : ¬ (!its.toArray.isEmpty && Builtin.List.listTooLong (its.toArray.size + its2.toArray.size)) = true := by
    rw [notLongL hsz, Bool.and_false]
    exact Bool.false_ne_true
  refine call_meets PySem.F.slot_list_extend ⟨_, e, rfl⟩ PySem.F.entry_list_extend (PySem.F.args_list_extend_2 _ _) (ext_tup l its.toArray n b its2.toArray n2 od os hlong (by rw [List.size_toArray]; omega) (by omega)) ⟨e, e2, ?_⟩
  refine ⟨.non, _, I.lset (its' := its ++ its2) hH e (by simp) (r.append r2) ?_, rfl, q⟩
  rw [List.length_append]
  omega
theorem walk_at_list {K : PySem.W.Frag} {a : Addr} {xs : List V} : Walk (Itl K a) xs.length (fun H => SqL K H a xs) (YIs fun i x => xs[i]? = some x) := walk_list
theorem walk_at_tup {K : PySem.W.Frag} {a : Addr} {xs : List V} : Walk (Itt K a) xs.length (fun H => SqT K H a xs) (YIs fun i x => xs[i]? = some x) := walk_tup
theorem walk_at_range {lo : Int} {n : Nat} : Walk (Itr lo n) n (fun _ => True) (YIs fun i x => x = .int (lo + i)) := walk_range
end Sq
set_option maxHeartbeats 1000000
/-! data: what stands in the heap, told without it -/
namespace Dl
open PySem PySem.Spec PyProof.Rows L2 Lcn Sq
inductive Dt where
  | non | bl (b : Bool) | int (i : Int) | str (s : Str)
  | lst (xs : List Dt) | tup (xs : List Dt) | ins (C : Addr) (fs : List (Str × Dt)) | dk (es : List (Key × Dt)) | dt (es : List (List Key × Dt))
/-! ### the source of draws -/
structure SrcOk (p h m : Int) : Prop where
  p0 : 0 ≤ p
  h0 : 0 ≤ h
  m0 : 0 ≤ m
  m1 : m < 2147483647
def srcO (L : Addr) (p h m : Int) : HO := .lst [.ref L, .int p, .int h, .int m]
structure SrcAt (H : Hp) (a L : Addr) (ns : List Int) (p h m : Int) : Prop where
  ok : SrcOk p h m
  at_ : H a = some (srcO L p h m)
  ls : H L = some (.lst (ns.map V.int))
  ne : L ≠ a
def Src (H : Hp) (a L : Addr) (ns : List Int) : Prop := ∃ p h m, SrcAt H a L ns p h m
/-- the source; the tables of code objects of the defs that make lambdas -/
abbrev Sc := Option (Addr × Addr × List Int × List (Addr × Str))
/-- what may change -/
def ch (S : Sc) (b : Addr) : Prop := match S with
  | none => False
  | some z => b = z.1 ∨ b ∈ z.2.2.2.map Prod.fst
/-- where the source stands -/
def sa (S : Sc) (b : Addr) : Prop := match S with
  | none => False
  | some z => b = z.1 ∨ b = z.2.1 ∨ b ∈ z.2.2.2.map Prod.fst
def Gs (S : Sc) (H : Hp) : Prop := match S with
  | none => True
  | some z => Src H z.1 z.2.1 z.2.2.1 ∧ LamX.Tabs z.2.2.2 H
structure Stp (S : Sc) (H H' : Hp) : Prop where
  keep : ∀ b o, ¬ ch S b → H b = some o → H' b = some o
  on : Gs S H → Gs S H'
theorem ch_sa {S : Sc} {b : Addr} (h : ch S b) : sa S b := by
  cases S with
  | none => exact h
  | some z => exact h.imp id .inr
theorem Gs.dep {S : Sc} {H H' : Hp} (g : Gs S H) (k : ∀ b o, sa S b → H b = some o → H' b = some o) (kx : ∀ b c q, H b = some (LamX.CodeO c q) → H' b = some (LamX.CodeO c q)) : Gs S H' := by
  cases S with
  | none => trivial
  | some z =>
    obtain ⟨⟨p, h, m, q⟩, t⟩ := g
    refine ⟨⟨p, h, m, q.ok, k _ _ (.inl rfl) q.at_, k _ _ (.inr (.inl rfl)) q.ls, q.ne⟩, fun a ma => ?_⟩
    obtain ⟨ps, h1, h2, h3⟩ := t a ma
    exact ⟨ps, k _ _ (.inr (.inr (List.mem_map.mpr ⟨a, ma, rfl⟩))) h1, h2, fun pos cv hc => let ⟨c, e1, e2⟩ := h3 pos cv hc; ⟨c, e1, kx _ _ _ e2⟩⟩
/-- no tuple, no code object -/
def nt (o : HO) : Prop := (∀ xs, o ≠ .tup xs) ∧ ∀ c q, o ≠ LamX.CodeO c q
theorem nt_lst {xs : List V} : nt (.lst xs) := ⟨fun _ => HO.noConfusion, fun _ _ => HO.noConfusion⟩
theorem Gs.dom {S : Sc} {H : Hp} (g : Gs S H) {b : Addr} (h : sa S b) : ∃ o, H b = some o ∧ nt o := by
  cases S with
  | none => exact h.elim
  | some z =>
    obtain ⟨⟨p, hh, m, q⟩, t⟩ := g
    rcases h with rfl | rfl | h
    · exact ⟨_, q.at_, nt_lst⟩
    · exact ⟨_, q.ls, nt_lst⟩
    · obtain ⟨a, ma, rfl⟩ := List.mem_map.mp h
      obtain ⟨ps, h1, _, _⟩ := t a ma
      exact ⟨_, h1, fun _ => HO.noConfusion, fun _ _ => HO.noConfusion⟩
/-- a code object is no part of the source -/
theorem Gs.code {S : Sc} {H : Hp} (g : Gs S H) {b c : Addr} {q : Str} (h : H b = some (LamX.CodeO c q)) : ¬ sa S b := fun z => by
  obtain ⟨o, e, _, n⟩ := g.dom z
  rw [h] at e
  exact n c q (Option.some.inj e).symm
theorem Gs.upd {S : Sc} {H : Hp} (g : Gs S H) {D : Addr} {u : HO} (nsa : ¬ sa S D) (hD : ∀ c q, H D ≠ some (LamX.CodeO c q)) : Gs S (upd H D u) := g.dep (fun b o c h => by
    rw [upd_ne (fun (z : b = D) => nsa (by rw [← z]; exact c))]
    exact h) fun b c q h => by
    rw [upd_ne (fun (z : b = D) => hD c q (by rw [← z]; exact h))]
    exact h
theorem Stp.refl {S : Sc} (H : Hp) : Stp S H H := ⟨fun _ _ _ h => h, fun g => g⟩
theorem Stp.trans {S : Sc} {H H1 H2 : Hp} (a : Stp S H H1) (b : Stp S H1 H2) : Stp S H H2 := ⟨fun c o n h => b.keep c o n (a.keep c o n h), fun g => b.on (a.on g)⟩
theorem Stp.of {S : Sc} {H H' : Hp} (e : Same H H') : Stp S H H' := ⟨fun b o _ h => e b o h, fun g => g.dep (fun b o _ h => e b o h) fun b c q h => e b _ h⟩
theorem Stp.new {S : Sc} {H : Hp} {p : Addr} {o : HO} (h : H p = none) : Stp S H (upd H p o) := Stp.of (same_new h)
/-! ### what v stands for -/
def Lz (av : Addr → Prop) (H : Hp) (a : Addr) (xs : List V) : Prop := ¬ av a ∧ H a = some (.lst xs)
def Tz (K : PySem.W.Frag) (av : Addr → Prop) (H : Hp) (a : Addr) (xs : List V) : Prop := ¬ av a ∧ H a = some (.tup xs)
theorem Lz.sq {K : PySem.W.Frag} {av : Addr → Prop} {H : Hp} {a : Addr} {xs : List V} (h : Lz av H a xs) : SqL K H a xs := SqL.of h.2
theorem Tz.sq {K : PySem.W.Frag} {av : Addr → Prop} {H : Hp} {a : Addr} {xs : List V} (h : Tz K av H a xs) : SqT K H a xs := SqT.of h.2
theorem rd_move {av av' : Addr → Prop} {H H' : Hp} {a : Addr} {u : HO} (h : ¬ av a ∧ Rd H a u) (k : ∀ b o, ¬ av b → H b = some o → H' b = some o) (m : ∀ b, av' b → av b ∨ H b = none) : ¬ av' a ∧ Rd H' a u := by
  obtain ⟨n, r⟩ := h
  refine ⟨fun z => ?_, r.imp (k _ _ n) fun ⟨o, q⟩ => ⟨o, k _ _ n q⟩⟩
  rcases m a z with z | z
  · exact n z
  · rcases r with r | ⟨o, r⟩ <;> rw [z] at r <;> cases r
inductive Rep (K : PySem.W.Frag) (av : Addr → Prop) (H : Hp) : V → Dt → Prop
  | non : Rep K av H .non .non
  | bl (b : Bool) : Rep K av H (.bl b) (.bl b)
  | int (i : Int) : Rep K av H (.int i) (.int i)
  | str (s : Str) : Rep K av H (.str s) (.str s)
  | lst {a : Addr} {xs : List V} {ds : List Dt} (h : Lz av H a xs) (l : xs.length = ds.length) (f : ∀ (i : Nat) (x : V) (d : Dt), xs[i]? = some x → ds[i]? = some d → Rep K av H x d) : Rep K av H (.ref a) (.lst ds)
  | tup {a : Addr} {xs : List V} {ds : List Dt} (h : Tz K av H a xs) (l : xs.length = ds.length) (f : ∀ (i : Nat) (x : V) (d : Dt), xs[i]? = some x → ds[i]? = some d → Rep K av H x d) : Rep K av H (.ref a) (.tup ds)
  | ins {a C dx : Addr} {fs : List (Str × V)} {es : List (Str × Dt)} (na : ¬ av a) (h : H a = some (.ins C dx fs)) (l : fs.map Prod.fst = es.map Prod.fst) (f : ∀ (i : Nat) (x : Str × V) (d : Str × Dt), fs[i]? = some x → es[i]? = some d → Rep K av H x.2 d.2) : Rep K av H (.ref a) (.ins C es)
  | dk {a : Addr} {kvs : List (Key × V)} {es : List (Key × Dt)} (na : ¬ av a) (h : Rd H a (.dK kvs)) (l : kvs.map Prod.fst = es.map Prod.fst) (f : ∀ (i : Nat) (x : Key × V) (d : Key × Dt), kvs[i]? = some x → es[i]? = some d → Rep K av H x.2 d.2) : Rep K av H (.ref a) (.dk es)
  | dt {a : Addr} {kvs : List (List Key × V)} {es : List (List Key × Dt)} (na : ¬ av a) (h : Rd H a (.dT kvs)) (l : kvs.map Prod.fst = es.map Prod.fst) (f : ∀ (i : Nat) (x : List Key × V) (d : List Key × Dt), kvs[i]? = some x → es[i]? = some d → Rep K av H x.2 d.2) : Rep K av H (.ref a) (.dt es)
theorem Rep.move {K : PySem.W.Frag} {av av' : Addr → Prop} {H H' : Hp} {v : V} {d : Dt} (h : Rep K av H v d) (k : ∀ b o, ¬ av b → H b = some o → H' b = some o) (m : ∀ b, av' b → av b ∨ H b = none) : Rep K av' H' v d := by
  induction h with
  | non => exact .non
  | bl b => exact .bl b
  | int i => exact .int i
  | str s => exact .str s
  | lst h l _ ih =>
    refine .lst ⟨fun z => ?_, k _ _ h.1 h.2⟩ l ih
    rcases m _ z with z | z
    · exact h.1 z
    · rw [h.2] at z
      cases z
  | tup h l _ ih =>
    refine .tup ⟨fun z => ?_, k _ _ h.1 h.2⟩ l ih
    rcases m _ z with z | z
    · exact h.1 z
    · rw [h.2] at z
      cases z
  | ins na h l _ ih =>
    refine .ins (fun z => ?_) (k _ _ na h) l ih
    rcases m _ z with z | z
    · exact na z
    · rw [z] at h
      cases h
  | dk na h l _ ih =>
    obtain ⟨na', h'⟩ := rd_move ⟨na, h⟩ k m
    exact .dk na' h' l ih
  | dt na h l _ ih =>
    obtain ⟨na', h'⟩ := rd_move ⟨na, h⟩ k m
    exact .dt na' h' l ih
/-- things one by one -/
structure RepL (K : PySem.W.Frag) (av : Addr → Prop) (H : Hp) (xs : List V) (ds : List Dt) : Prop where
  l : xs.length = ds.length
  f : ∀ (i : Nat) (x : V) (d : Dt), xs[i]? = some x → ds[i]? = some d → Rep K av H x d
section
variable {K : PySem.W.Frag} {av av' : Addr → Prop} {H H' : Hp}
theorem RepL.move {xs : List V} {ds : List Dt} (h : RepL K av H xs ds) (k : ∀ b o, ¬ av b → H b = some o → H' b = some o) (m : ∀ b, av' b → av b ∨ H b = none) : RepL K av' H' xs ds := ⟨h.l, fun i x d h1 h2 => (h.f i x d h1 h2).move k m⟩
theorem Rep.same {v : V} {d : Dt} (h : Rep K av H v d) (e : Same H H') : Rep K av H' v d := h.move (fun b o _ x => e b o x) fun _ z => .inl z
theorem RepL.same {xs : List V} {ds : List Dt} (h : RepL K av H xs ds) (e : Same H H') : RepL K av H' xs ds := h.move (fun b o _ x => e b o x) fun _ z => .inl z
theorem Rep.mono {v : V} {d : Dt} (h : Rep K av H v d) (m : ∀ b, av' b → av b) : Rep K av' H v d := h.move (fun _ _ _ x => x) fun b z => .inl (m b z)
theorem RepL.mono {xs : List V} {ds : List Dt} (h : RepL K av H xs ds) (m : ∀ b, av' b → av b) : RepL K av' H xs ds := h.move (fun _ _ _ x => x) fun b z => .inl (m b z)
theorem RepL.nil : RepL K av H [] [] := ⟨rfl, fun i x d h => by cases i <;> cases h⟩
theorem RepL.cons {x : V} {d : Dt} {xs : List V} {ds : List Dt} (h : Rep K av H x d) (t : RepL K av H xs ds) : RepL K av H (x :: xs) (d :: ds) := ⟨by rw [List.length_cons, List.length_cons, t.l], fun i y e h1 h2 => by
  cases i with
  | zero => cases h1; cases h2; exact h
  | succ j => exact t.f j y e h1 h2⟩
theorem RepL.head {x : V} {xs : List V} {d : Dt} {ds : List Dt} (h : RepL K av H (x :: xs) (d :: ds)) : Rep K av H x d ∧ RepL K av H xs ds :=
  ⟨h.f 0 x d rfl rfl, by have := h.l; simp at this; exact this, fun i y e h1 h2 => h.f (i + 1) y e h1 h2⟩
theorem RepL.append {xs ys : List V} {ds es : List Dt} (h : RepL K av H xs ds) (t : RepL K av H ys es) : RepL K av H (xs ++ ys) (ds ++ es) := ⟨by rw [List.length_append, List.length_append, h.l, t.l], fun i y e h1 h2 => by
  have hl := h.l
  rcases Nat.lt_or_ge i xs.length with lt | ge
  · rw [List.getElem?_append_left lt] at h1
    rw [List.getElem?_append_left (by omega)] at h2
    exact h.f i y e h1 h2
  · rw [List.getElem?_append_right ge] at h1
    rw [List.getElem?_append_right (by omega), ← hl] at h2
    exact t.f _ y e h1 h2⟩
theorem RepL.get {xs : List V} {ds : List Dt} (h : RepL K av H xs ds) {i : Nat} {d : Dt} (e : ds[i]? = some d) : ∃ x, xs[i]? = some x ∧ Rep K av H x d := by
  have hl := h.l
  have hi : i < ds.length := by
    rcases Nat.lt_or_ge i ds.length with h | h
    · exact h
    · rw [List.getElem?_eq_none h] at e
      cases e
  exact ⟨xs[i], by simp [hl, hi], h.f i _ d (by simp [hl, hi]) e⟩
theorem RepL.set {xs : List V} {ds : List Dt} (h : RepL K av H xs ds) {x : V} {d : Dt} (r : Rep K av H x d) (i : Nat) : RepL K av H (xs.set i x) (ds.set i d) := ⟨by simp [h.l], fun j y e h1 h2 => by
  by_cases hj : i = j
  · subst hj
    have hl := h.l
    have hi : i < xs.length := by
      rcases Nat.lt_or_ge i xs.length with h | h
      · exact h
      · rw [List.getElem?_eq_none (by simpa using h)] at h1
        cases h1
    rw [List.getElem?_set_self hi] at h1
    rw [List.getElem?_set_self (by omega)] at h2
    cases h1
    cases h2
    exact r
  · rw [List.getElem?_set_ne hj] at h1 h2
    exact h.f j y e h1 h2⟩
theorem RepL.sub {xs : List V} {ds : List Dt} (h : RepL K av H xs ds) (f : Nat → Nat) {ys : List V} {es : List Dt} (l : ys.length = es.length) (a : ∀ i y, ys[i]? = some y → xs[f i]? = some y) (b : ∀ i e, es[i]? = some e → ds[f i]? = some e) : RepL K av H ys es := ⟨l, fun i y e h1 h2 => h.f _ y e (a i y h1) (b i e h2)⟩
theorem RepL.drop {xs : List V} {ds : List Dt} (h : RepL K av H xs ds) (n : Nat) : RepL K av H (xs.drop n) (ds.drop n) := h.sub (fun i => n + i) (by simp [h.l]) (fun i y e => by rwa [List.getElem?_drop] at e) (fun i y e => by rwa [List.getElem?_drop] at e)
theorem RepL.take {xs : List V} {ds : List Dt} (h : RepL K av H xs ds) (n : Nat) : RepL K av H (xs.take n) (ds.take n) := ⟨by simp [h.l], fun i y e h1 h2 => by
  rw [List.getElem?_take] at h1 h2
  split at h1
  · exact h.f i y e h1 (by rw [if_pos (by assumption)] at h2; exact h2)
  · cases h1⟩
/-- what is told by no address -/
def Dt.flat : Dt → Bool
  | .non => true
  | .bl _ => true
  | .int _ => true
  | .str _ => true
  | _ => false
theorem Rep.flat {v : V} {d : Dt} (h : Rep K av H v d) (f : d.flat = true) : Rep K av' H' v d := by
  cases h with
  | non => exact .non
  | bl b => exact .bl b
  | int i => exact .int i
  | str s => exact .str s
  | lst => cases f
  | tup => cases f
  | ins => cases f
  | dk => cases f
  | dt => cases f
theorem Rep.int_inv {v : V} {i : Int} (h : Rep K av H v (.int i)) : v = .int i := by cases h; rfl
theorem Rep.bl_inv {v : V} {i : Bool} (h : Rep K av H v (.bl i)) : v = .bl i := by cases h; rfl
theorem Rep.str_inv {v : V} {i : Str} (h : Rep K av H v (.str i)) : v = .str i := by cases h; rfl
theorem Rep.non_inv {v : V} (h : Rep K av H v .non) : v = .non := by cases h; rfl
theorem Rep.lst_inv {v : V} {ds : List Dt} (h : Rep K av H v (.lst ds)) : ∃ a xs, v = .ref a ∧ Lz av H a xs ∧ RepL K av H xs ds := by
  cases h with
  | lst h l f => exact ⟨_, _, rfl, h, l, f⟩
theorem Rep.tup_inv {v : V} {ds : List Dt} (h : Rep K av H v (.tup ds)) : ∃ a xs, v = .ref a ∧ Tz K av H a xs ∧ RepL K av H xs ds := by
  cases h with
  | tup h l f => exact ⟨_, _, rfl, h, l, f⟩
theorem Rep.ins_inv {v : V} {C : Addr} {es : List (Str × Dt)} (h : Rep K av H v (.ins C es)) : ∃ a dx fs, v = .ref a ∧ ¬ av a ∧ H a = some (.ins C dx fs) ∧ fs.map Prod.fst = es.map Prod.fst ∧ ∀ (i : Nat) (x : Str × V) (d : Str × Dt), fs[i]? = some x → es[i]? = some d → Rep K av H x.2 d.2 := by
  cases h with
  | ins na h l f => exact ⟨_, _, _, rfl, na, h, l, f⟩
theorem ents_repl {κ : Type} {fs : List (κ × V)} {es : List (κ × Dt)} (l : fs.map Prod.fst = es.map Prod.fst) (f : ∀ (i : Nat) (x : κ × V) (d : κ × Dt), fs[i]? = some x → es[i]? = some d → Rep K av H x.2 d.2) : RepL K av H (fs.map Prod.snd) (es.map Prod.snd) :=
  ⟨by rw [List.length_map, List.length_map]; simpa using congrArg List.length l, fun i x d h1 h2 => by
    rw [List.getElem?_map] at h1 h2
    obtain ⟨p, hp, rfl⟩ := Option.map_eq_some_iff.mp h1
    obtain ⟨q, hq, rfl⟩ := Option.map_eq_some_iff.mp h2
    exact f i p q hp hq⟩
theorem repl_ents {κ : Type} {fs : List (κ × V)} {es : List (κ × Dt)} (r : RepL K av H (fs.map Prod.snd) (es.map Prod.snd)) : ∀ (i : Nat) (x : κ × V) (d : κ × Dt), fs[i]? = some x → es[i]? = some d → Rep K av H x.2 d.2 :=
  fun i x d h1 h2 => r.f i x.2 d.2 (by rw [List.getElem?_map, h1]; rfl) (by rw [List.getElem?_map, h2]; rfl)
theorem Rep.dk_inv {v : V} {es : List (Key × Dt)} (h : Rep K av H v (.dk es)) : ∃ a kvs, v = .ref a ∧ ¬ av a ∧ Rd H a (.dK kvs) ∧ kvs.map Prod.fst = es.map Prod.fst ∧ RepL K av H (kvs.map Prod.snd) (es.map Prod.snd) := by
  cases h with
  | dk na h l f => exact ⟨_, _, rfl, na, h, l, ents_repl l f⟩
theorem Rep.dt_inv {v : V} {es : List (List Key × Dt)} (h : Rep K av H v (.dt es)) : ∃ a kvs, v = .ref a ∧ ¬ av a ∧ Rd H a (.dT kvs) ∧ kvs.map Prod.fst = es.map Prod.fst ∧ RepL K av H (kvs.map Prod.snd) (es.map Prod.snd) := by
  cases h with
  | dt na h l f => exact ⟨_, _, rfl, na, h, l, ents_repl l f⟩
/-- all in av stand -/
def Al (av : Addr → Prop) (H : Hp) : Prop := ∀ b, av b → ∃ o, H b = some o ∧ nt o
theorem Al.na (h : Al av H) {p : Addr} (n : H p = none) : ¬ av p := fun z => by
  obtain ⟨o, e, _⟩ := h p z
  rw [n] at e
  cases e
theorem Al.same (h : Al av H) (e : Same H H') : Al av H' := fun b z => by
  obtain ⟨o, q, w⟩ := h b z
  exact ⟨o, e b o q, w⟩
/-- a tuple is never avoided -/
theorem Al.nTup (h : Al av H) {p : Addr} {xs : List V} (e : H p = some (.tup xs)) : ¬ av p := fun z => by
  obtain ⟨o, q, w⟩ := h p z
  rw [e] at q
  cases q
  exact w.1 xs rfl
theorem rep_newT {p : Addr} {xs : List V} {ds : List Dt} (al : Al av H) (n : H p = none) (r : RepL K av H xs ds) : Rep K av (upd H p (.tup xs)) (.ref p) (.tup ds) :=
  have r' := r.same (same_new (o := .tup xs) n)
  .tup ⟨al.na n, upd_same⟩ r'.l r'.f
theorem rep_newL {p : Addr} {xs : List V} {ds : List Dt} (al : Al av H) (n : H p = none) (r : RepL K av H xs ds) : Rep K av (upd H p (.lst xs)) (.ref p) (.lst ds) :=
  have r' := r.same (same_new (o := .lst xs) n)
  .lst ⟨al.na n, upd_same⟩ r'.l r'.f
end
/-! ### states -/
structure Ctx where
  K : PySem.W.Frag
  S : Sc
  av : Addr → Prop
  H0 : Hp
  gh : List (V × Dt)
/-- what an own object holds: a list, a dict by tuples, a dict by ints and texts -/
inductive Oc where
  | l (ds : List Dt) | t (es : List (List Key × Dt)) | k (es : List (Key × Dt)) | i (C : Addr) (es : List (Str × Dt))
  | kl (es : List (Key × Addr × List Dt)) | tl (es : List (List Key × Addr × List Dt))
/-- own lists within -/
def Oc.inn : Oc → List Addr
  | .kl es => es.map fun e => e.2.1
  | .tl es => es.map fun e => e.2.1
  | _ => []
/-- a dict's lists, all its own -/
structure OLs {κ : Type} (K : PySem.W.Frag) (av : Addr → Prop) (H : Hp) (kvs : List (κ × V)) (es : List (κ × Addr × List Dt)) : Prop where
  ks : kvs = es.map fun e => (e.1, V.ref e.2.1)
  nd : (es.map fun e => e.2.1).Nodup
  kd : (es.map fun e => e.1).Nodup
  ls : ∀ e, e ∈ es → ∃ xs, H e.2.1 = some (.lst xs) ∧ RepL K av H xs e.2.2
theorem OLs.move {κ : Type} {K : PySem.W.Frag} {av av' : Addr → Prop} {H H' : Hp} {kvs : List (κ × V)} {es : List (κ × Addr × List Dt)} (h : OLs K av H kvs es) (k : ∀ b o, ¬ av b → H b = some o → H' b = some o) (m : ∀ b, av' b → av b ∨ H b = none) (ki : ∀ b, b ∈ (es.map fun e => e.2.1) → ∀ o, H b = some o → H' b = some o) : OLs K av' H' kvs es := ⟨h.ks, h.nd, h.kd, fun e he => by
  obtain ⟨xs, h1, h2⟩ := h.ls e he
  exact ⟨xs, ki _ (List.mem_map.mpr ⟨e, he, rfl⟩) _ h1, h2.move k m⟩⟩
def ORep (K : PySem.W.Frag) (av : Addr → Prop) (H : Hp) : HO → Oc → Prop
  | .lst xs, .l ds => RepL K av H xs ds
  | .dT kvs, .t es => kvs.map Prod.fst = es.map Prod.fst ∧ RepL K av H (kvs.map Prod.snd) (es.map Prod.snd)
  | .dK kvs, .k es => kvs.map Prod.fst = es.map Prod.fst ∧ RepL K av H (kvs.map Prod.snd) (es.map Prod.snd)
  | .ins C _ fs, .i C' es => C = C' ∧ fs.map Prod.fst = es.map Prod.fst ∧ RepL K av H (fs.map Prod.snd) (es.map Prod.snd)
  | .dK kvs, .kl es => OLs K av H kvs es
  | .dT kvs, .tl es => OLs K av H kvs es
  | _, _ => False
theorem ORep.move {K : PySem.W.Frag} {av av' : Addr → Prop} {H H' : Hp} {u : HO} {c : Oc} (h : ORep K av H u c) (k : ∀ b o, ¬ av b → H b = some o → H' b = some o) (m : ∀ b, av' b → av b ∨ H b = none) (ki : ∀ b, b ∈ c.inn → ∀ o, H b = some o → H' b = some o) : ORep K av' H' u c := by
  unfold ORep at h ⊢
  split at h
  · exact RepL.move h k m
  · exact ⟨h.1, h.2.move k m⟩
  · exact ⟨h.1, h.2.move k m⟩
  · exact ⟨h.1, h.2.1, h.2.2.move k m⟩
  · exact OLs.move h k m ki
  · exact OLs.move h k m ki
  · exact h.elim
theorem ORep.mono {K : PySem.W.Frag} {av av' : Addr → Prop} {H : Hp} {u : HO} {c : Oc} (h : ORep K av H u c) (m : ∀ b, av' b → av b) : ORep K av' H u c := h.move (fun _ _ _ x => x) (fun b z => .inl (m b z)) fun _ _ _ x => x
theorem ORep.inn_at {K : PySem.W.Frag} {av : Addr → Prop} {H : Hp} {u : HO} {c : Oc} (h : ORep K av H u c) {b : Addr} (hb : b ∈ c.inn) : ∃ o, H b = some o ∧ nt o := by
  unfold ORep at h
  split at h
  · cases hb
  · cases hb
  · cases hb
  · cases hb
  · obtain ⟨e, he, rfl⟩ := List.mem_map.mp hb
    obtain ⟨xs, h1, _⟩ := h.ls e he
    exact ⟨_, h1, nt_lst⟩
  · obtain ⟨e, he, rfl⟩ := List.mem_map.mp hb
    obtain ⟨xs, h1, _⟩ := h.ls e he
    exact ⟨_, h1, nt_lst⟩
  · exact h.elim
theorem ORep.nt {K : PySem.W.Frag} {av : Addr → Prop} {H : Hp} {u : HO} {c : Oc} (h : ORep K av H u c) : nt u := by
  refine ⟨fun xs e => ?_, fun a q e => ?_⟩
  · rw [e] at h
    cases c <;> exact h.elim
  · unfold LamX.CodeO at e
    rw [e] at h
    cases c <;> exact h.elim
theorem ORep.kls {K : PySem.W.Frag} {av : Addr → Prop} {H : Hp} {u : HO} {es : List (Key × Addr × List Dt)} (h : ORep K av H u (.kl es)) : ∃ kvs, u = .dK kvs ∧ OLs K av H kvs es := by
  cases u <;> first | exact ⟨_, rfl, h⟩ | exact h.elim
theorem ORep.tls {K : PySem.W.Frag} {av : Addr → Prop} {H : Hp} {u : HO} {es : List (List Key × Addr × List Dt)} (h : ORep K av H u (.tl es)) : ∃ kvs, u = .dT kvs ∧ OLs K av H kvs es := by
  cases u <;> first | exact ⟨_, rfl, h⟩ | exact h.elim
theorem ORep.lst {K : PySem.W.Frag} {av : Addr → Prop} {H : Hp} {u : HO} {ds : List Dt} (h : ORep K av H u (.l ds)) : ∃ xs, u = .lst xs ∧ RepL K av H xs ds := by
  cases u <;> first | exact ⟨_, rfl, h⟩ | exact h.elim
theorem ORep.dt {K : PySem.W.Frag} {av : Addr → Prop} {H : Hp} {u : HO} {es : List (List Key × Dt)} (h : ORep K av H u (.t es)) : ∃ kvs, u = .dT kvs ∧ kvs.map Prod.fst = es.map Prod.fst ∧ RepL K av H (kvs.map Prod.snd) (es.map Prod.snd) := by
  cases u <;> first | exact ⟨_, rfl, h⟩ | exact h.elim
theorem ORep.dk {K : PySem.W.Frag} {av : Addr → Prop} {H : Hp} {u : HO} {es : List (Key × Dt)} (h : ORep K av H u (.k es)) : ∃ kvs, u = .dK kvs ∧ kvs.map Prod.fst = es.map Prod.fst ∧ RepL K av H (kvs.map Prod.snd) (es.map Prod.snd) := by
  cases u <;> first | exact ⟨_, rfl, h⟩ | exact h.elim
theorem ORep.ins {K : PySem.W.Frag} {av : Addr → Prop} {H : Hp} {u : HO} {C : Addr} {es : List (Str × Dt)} (h : ORep K av H u (.i C es)) : ∃ dx fs, u = .ins C dx fs ∧ fs.map Prod.fst = es.map Prod.fst ∧ RepL K av H (fs.map Prod.snd) (es.map Prod.snd) := by
  cases u with
  | ins C' dx fs =>
    obtain ⟨rfl, h1, h2⟩ := (h : C' = C ∧ fs.map Prod.fst = es.map Prod.fst ∧ RepL K av H (fs.map Prod.snd) (es.map Prod.snd))
    exact ⟨dx, fs, rfl, h1, h2⟩
  | _ => exact h.elim
inductive Sl where
  | any | val (d : Dt) | own (a : Addr) (c : Oc) | src | srt (T : List (Addr × Str))
def Sl.at : Sl → Addr → Prop
  | .own a c, b => a = b ∨ b ∈ c.inn
  | _, _ => False
def Zd (C : Ctx) (δ : List Sl) (b : Addr) : Prop := C.av b ∨ ∃ s, s ∈ δ ∧ s.at b
def SlOk (C : Ctx) (Z : Addr → Prop) (H : Hp) (o : Option (Option V)) : Sl → Prop
  | .any => True
  | .val d => ∃ v, o = some (some v) ∧ Rep C.K Z H v d
  | .own a ds => o = some (some (.ref a)) ∧ C.H0 a = none ∧ ¬ C.av a ∧ ∃ u, H a = some u ∧ ORep C.K Z H u ds
  | .src => ∃ z, C.S = some z ∧ o = some (some (.ref z.1))
  | .srt T => ∃ z, C.S = some z ∧ o = some (some (.ref z.1)) ∧ z.2.2.2 = T
structure Sok (C : Ctx) (H : Hp) (σ : L2.St) (δ : List Sl) : Prop where
  len : σ.length = δ.length
  sl : ∀ (i : Nat) (s : Sl), δ[i]? = some s → SlOk C (Zd C δ) H σ[i]? s
  uqr : ∀ (i j : Nat) (u t : Sl) (b : Addr), δ[i]? = some u → δ[j]? = some t → u.at b → t.at b → i = j
  inn : ∀ (i : Nat) (a : Addr) (c : Oc), δ[i]? = some (.own a c) → ∀ b, b ∈ c.inn → C.H0 b = none ∧ ¬ C.av b
  g : Gs C.S H
  st : Stp C.S C.H0 H
  avs : ∀ b, sa C.S b → C.av b
  ava : Al C.av H
  gh : ∀ p, p ∈ C.gh → Rep C.K (Zd C δ) H p.1 p.2
section
variable {C : Ctx} {H H' : Hp} {σ : L2.St} {δ : List Sl}
theorem Sok.lstAt (s : Sok C H σ δ) {i : Nat} {a : Addr} {ds : List Dt} (h : δ[i]? = some (.own a (.l ds))) : σ[i]? = some (some (.ref a)) ∧ C.H0 a = none ∧ ¬ C.av a ∧ ∃ xs, H a = some (.lst xs) ∧ RepL C.K (Zd C δ) H xs ds := by
  obtain ⟨h1, h2, h3, u, h5, h6⟩ := s.sl i _ h
  obtain ⟨xs, rfl, h6⟩ := h6.lst
  exact ⟨h1, h2, h3, xs, h5, h6⟩
theorem Sok.al0 (s : Sok C H σ δ) : Al C.av H := s.ava
theorem al_step {S : Sc} {av : Addr → Prop} (al : Al av H) (g : Gs S H) (e : Stp S H H') : Al av H' := fun b z => by
  by_cases c : ch S b
  · exact (e.on g).dom (ch_sa c)
  · obtain ⟨o, h, w⟩ := al b z
    exact ⟨o, e.keep b o c h, w⟩
theorem Sok.uq (s : Sok C H σ δ) (i j : Nat) (a : Addr) (ds es : Oc) (h1 : δ[i]? = some (.own a ds)) (h2 : δ[j]? = some (.own a es)) : i = j := s.uqr i j _ _ a h1 h2 (.inl rfl) (.inl rfl)
theorem Sok.regn (s : Sok C H σ δ) {i : Nat} {a : Addr} {c : Oc} (h : δ[i]? = some (.own a c)) {b : Addr} (hb : (Sl.own a c).at b) : C.H0 b = none ∧ ¬ C.av b ∧ ∃ o, H b = some o ∧ nt o := by
  obtain ⟨h1, h2, h3, u, h5, h6⟩ := s.sl i _ h
  rcases hb with rfl | hb
  · exact ⟨h2, h3, _, h5, h6.nt⟩
  · obtain ⟨g1, g2⟩ := s.inn i a c h b hb
    exact ⟨g1, g2, h6.inn_at hb⟩
theorem Sok.alz (s : Sok C H σ δ) : Al (Zd C δ) H := fun b z => by
  rcases z with z | ⟨u, m, e⟩
  · exact s.al0 b z
  · cases u with
    | own a ds =>
      obtain ⟨i, hi⟩ := List.mem_iff_getElem?.mp m
      exact (s.regn hi e).2.2
    | _ => exact e.elim
theorem zch (s : Sok C H σ δ) {b : Addr} (h : ch C.S b) : Zd C δ b := .inl (s.avs b (ch_sa h))
theorem Sok.step (s : Sok C H σ δ) (e : Stp C.S H H') : Sok C H' σ δ := by
  have k : ∀ b o, ¬ Zd C δ b → H b = some o → H' b = some o := fun b o n x => e.keep b o (fun c => n (zch s c)) x
  refine ⟨s.len, fun i u h => ?_, s.uqr, s.inn, e.on s.g, s.st.trans e, s.avs, al_step s.ava s.g e, fun p m => (s.gh p m).move k fun _ z => .inl z⟩
  have q := s.sl i u h
  cases u with
  | any => trivial
  | val d =>
    obtain ⟨v, h1, h2⟩ := q
    exact ⟨v, h1, h2.move k fun _ z => .inl z⟩
  | own a ds =>
    obtain ⟨h1, h2, h3, xs, h5, h6⟩ := q
    exact ⟨h1, h2, h3, xs, e.keep a _ (fun c => h3 (s.avs a (ch_sa c))) h5, h6.move k (fun _ z => .inl z) fun b hb o x => e.keep b o (fun c => (s.inn i a ds h b hb).2 (s.avs b (ch_sa c))) x⟩
  | src => exact q
  | srt T => exact q
theorem rep_step (s : Sok C H σ δ) (e : Stp C.S H H') {v : V} {d : Dt} (r : Rep C.K (Zd C δ) H v d) : Rep C.K (Zd C δ) H' v d := r.move (fun b o n x => e.keep b o (fun c => n (zch s c)) x) fun _ z => .inl z
theorem rep_step0 (s : Sok C H σ δ) (e : Stp C.S H H') {v : V} {d : Dt} (r : Rep C.K C.av H v d) : Rep C.K C.av H' v d := r.move (fun b o n x => e.keep b o (fun c => n (s.avs b (ch_sa c))) x) fun _ z => .inl z
theorem zd_set {i : Nat} {u : Sl} {b : Addr} (h : Zd C (δ.set i u) b) : Zd C δ b ∨ u.at b := by
  rcases h with h | ⟨s, m, e⟩
  · exact .inl (.inl h)
  · rcases List.mem_or_eq_of_mem_set m with m | rfl
    · exact .inl (.inr ⟨s, m, e⟩)
    · exact .inr e
/-- a slot set to what is no own list -/
theorem Sok.set (s : Sok C H σ δ) {i : Nat} {v : V} {u : Sl} (hu : ∀ b, ¬ u.at b) (hv : ∀ Z, (∀ b, Z b → Zd C δ b) → SlOk C Z H (some (some v)) u) : Sok C H (σ.set i (some v)) (δ.set i u) := by
  have m : ∀ b, Zd C (δ.set i u) b → Zd C δ b := fun b z => (zd_set z).resolve_right (hu b)
  have old : ∀ (l : Nat) (x : Sl) (b : Addr), (δ.set i u)[l]? = some x → x.at b → δ[l]? = some x := fun l x b h hb => by
    by_cases hl : i = l
    · subst hl
      have hi : i < δ.length := by
        rcases Nat.lt_or_ge i δ.length with z | z
        · exact z
        · rw [List.getElem?_eq_none (by simpa using z)] at h
          cases h
      rw [List.getElem?_set_self hi] at h
      cases h
      exact absurd hb (hu b)
    · rw [List.getElem?_set_ne hl] at h
      exact h
  refine ⟨by simp [s.len], fun j w h => ?_, fun j k x y b h1 h2 => ?_, fun j a c h => ?_, s.g, s.st, s.avs, s.ava, fun p q => (s.gh p q).mono m⟩
  · by_cases hj : i = j
    · subst hj
      have hi : i < δ.length := by
        rcases Nat.lt_or_ge i δ.length with z | z
        · exact z
        · rw [List.getElem?_eq_none (by simpa using z)] at h
          cases h
      rw [List.getElem?_set_self hi] at h
      cases h
      rw [List.getElem?_set_self (by rw [s.len]; exact hi)]
      exact hv _ m
    · rw [List.getElem?_set_ne hj] at h
      rw [List.getElem?_set_ne hj]
      have q := s.sl j w h
      cases w with
      | any => trivial
      | val d =>
        obtain ⟨v, h1, h2⟩ := q
        exact ⟨v, h1, h2.mono m⟩
      | own a ds =>
        obtain ⟨h1, h2, h3, xs, h5, h6⟩ := q
        exact ⟨h1, h2, h3, xs, h5, h6.mono m⟩
      | src => exact q
      | srt T => exact q
  · exact fun g1 g2 => s.uqr j k x y b (old j x b h1 g1) (old k y b h2 g2) g1 g2
  · exact fun b hb => s.inn j a c (old j _ a h (.inl rfl)) b hb
theorem Sok.setV (s : Sok C H σ δ) {i : Nat} {v : V} {d : Dt} (r : Rep C.K (Zd C δ) H v d) : Sok C H (σ.set i (some v)) (δ.set i (.val d)) :=
  s.set (fun _ z => z) fun Z m => ⟨v, rfl, r.mono m⟩
theorem own_lt (s : Sok C H σ δ) {i : Nat} {u : Sl} (h : δ[i]? = some u) : i < δ.length := by
  rcases Nat.lt_or_ge i δ.length with z | z
  · exact z
  · rw [List.getElem?_eq_none z] at h
    cases h
/-- a slot told otherwise, the value as it was -/
theorem Sok.tell (s : Sok C H σ δ) {i : Nat} {u : Sl} (hu : ∀ b, ¬ u.at b) (hv : ∀ Z, (∀ b, Z b → Zd C (δ.set i u) b) → SlOk C Z H σ[i]? u) : Sok C H σ (δ.set i u) := by
  have m : ∀ b, Zd C (δ.set i u) b → Zd C δ b := fun b z => (zd_set z).resolve_right (hu b)
  have old : ∀ (l : Nat) (x : Sl) (b : Addr), (δ.set i u)[l]? = some x → x.at b → δ[l]? = some x := fun l x b h hb => by
    by_cases hl : i = l
    · subst hl
      have hi : i < δ.length := by
        rcases Nat.lt_or_ge i δ.length with z | z
        · exact z
        · rw [List.getElem?_eq_none (by simpa using z)] at h
          cases h
      rw [List.getElem?_set_self hi] at h
      cases h
      exact absurd hb (hu b)
    · rw [List.getElem?_set_ne hl] at h
      exact h
  refine ⟨by simp [s.len], fun j w h => ?_, fun j k x y b h1 h2 => ?_, fun j a c h => ?_, s.g, s.st, s.avs, s.ava, fun p q => (s.gh p q).mono m⟩
  · by_cases hj : i = j
    · subst hj
      have hi : i < δ.length := by
        rcases Nat.lt_or_ge i δ.length with z | z
        · exact z
        · rw [List.getElem?_eq_none (by simpa using z)] at h
          cases h
      rw [List.getElem?_set_self hi] at h
      cases h
      exact hv _ fun _ z => z
    · rw [List.getElem?_set_ne hj] at h
      have q := s.sl j w h
      cases w with
      | any => trivial
      | val d =>
        obtain ⟨v, h1, h2⟩ := q
        exact ⟨v, h1, h2.mono m⟩
      | own a ds =>
        obtain ⟨h1, h2, h3, xs, h5, h6⟩ := q
        exact ⟨h1, h2, h3, xs, h5, h6.mono m⟩
      | src => exact q
      | srt T => exact q
  · exact fun g1 g2 => s.uqr j k x y b (old j x b h1 g1) (old k y b h2 g2) g1 g2
  · exact fun b hb => s.inn j a c (old j _ a h (.inl rfl)) b hb
theorem Sok.drop (s : Sok C H σ δ) (i : Nat) : Sok C H σ (δ.set i .any) := s.tell (fun _ z => z) fun _ _ => trivial
/-- what an own object is, once it is let go -/
def Oc.dt : Oc → Dt
  | .l ds => .lst ds
  | .t es => .dt es
  | .k es => .dk es
  | .i C es => .ins C es
  | .kl es => .dk (es.map fun e => (e.1, .lst e.2.2))
  | .tl es => .dt (es.map fun e => (e.1, .lst e.2.2))
theorem ols_ents {κ : Type} {K : PySem.W.Frag} {Z Z' : Addr → Prop} {kvs : List (κ × V)} {es : List (κ × Addr × List Dt)} (h : OLs K Z H kvs es) (m : ∀ b, Z' b → Z b) (n : ∀ b, b ∈ (es.map fun e => e.2.1) → ¬ Z' b) : kvs.map Prod.fst = (es.map fun e => (e.1, Dt.lst e.2.2)).map Prod.fst ∧ ∀ (i : Nat) (x : κ × V) (d : κ × Dt), kvs[i]? = some x → (es.map fun e => (e.1, Dt.lst e.2.2))[i]? = some d → Rep K Z' H x.2 d.2 := by
  refine ⟨by rw [h.ks, List.map_map, List.map_map]; rfl, fun i x d h1 h2 => ?_⟩
  rw [h.ks, List.getElem?_map] at h1
  rw [List.getElem?_map] at h2
  obtain ⟨e, he, rfl⟩ := Option.map_eq_some_iff.mp h1
  rw [he] at h2
  cases h2
  obtain ⟨xs, g1, g2⟩ := h.ls e (List.mem_of_getElem? he)
  exact .lst ⟨n _ (List.mem_map.mpr ⟨e, List.mem_of_getElem? he, rfl⟩), g1⟩ g2.l fun i x d hx hd => (g2.f i x d hx hd).mono m
theorem orep_rep {K : PySem.W.Frag} {Z Z' : Addr → Prop} {a : Addr} {u : HO} {c : Oc} (h6 : ORep K Z H u c) (h5 : H a = some u) (m2 : ∀ b, Z' b → Z b) (na : ¬ Z' a) (ni : ∀ b, b ∈ c.inn → ¬ Z' b) : Rep K Z' H (.ref a) c.dt := by
  cases c with
  | l ds =>
    obtain ⟨xs, rfl, h6⟩ := h6.lst
    exact .lst ⟨na, h5⟩ h6.l fun i x d hx hd => (h6.f i x d hx hd).mono m2
  | t es =>
    obtain ⟨kvs, rfl, e1, e2⟩ := h6.dt
    exact .dt na (.inl h5) e1 (repl_ents (e2.mono m2))
  | k es =>
    obtain ⟨kvs, rfl, e1, e2⟩ := h6.dk
    exact .dk na (.inl h5) e1 (repl_ents (e2.mono m2))
  | i D es =>
    obtain ⟨dx, fs, rfl, e1, e2⟩ := h6.ins
    exact .ins na h5 e1 (repl_ents (e2.mono m2))
  | kl es =>
    obtain ⟨kvs, rfl, ol⟩ := h6.kls
    obtain ⟨e1, e2⟩ := ols_ents ol m2 ni
    exact .dk na (.inl h5) e1 e2
  | tl es =>
    obtain ⟨kvs, rfl, ol⟩ := h6.tls
    obtain ⟨e1, e2⟩ := ols_ents ol m2 ni
    exact .dt na (.inl h5) e1 e2
/-- an own object, from here on a thing like others -/
theorem Sok.freezeA (s : Sok C H σ δ) {i : Nat} {a : Addr} {c : Oc} (h : δ[i]? = some (.own a c)) : Sok C H σ (δ.set i (.val c.dt)) := by
  obtain ⟨h1, h2, h3, u, h5, h6⟩ := s.sl i _ h
  refine s.tell (fun _ z => z) fun Z m => ⟨.ref a, h1, ?_⟩
  have m2 : ∀ b, Z b → Zd C δ b := fun b z => (zd_set (m b z)).resolve_right fun z => z
  have n : ∀ b, (Sl.own a c).at b → ¬ Z b := fun b hb z => by
    rcases m b z with z | ⟨u, hu, e⟩
    · exact (s.regn h hb).2.1 z
    · cases u with
      | own d es =>
        obtain ⟨j, hj⟩ := List.mem_iff_getElem?.mp hu
        have hij : i ≠ j := fun e => by
          subst e
          rw [List.getElem?_set_self (own_lt s h)] at hj
          cases hj
        rw [List.getElem?_set_ne hij] at hj
        exact hij (s.uqr _ _ _ _ b h hj hb e)
      | _ => exact e.elim
  exact orep_rep h6 h5 m2 (n a (.inl rfl)) fun b hb => n b (.inr hb)
/-- an own list, from here on a thing like others -/
theorem Sok.freeze (s : Sok C H σ δ) {i : Nat} {a : Addr} {ds : List Dt} (h : δ[i]? = some (.own a (.l ds))) : Sok C H σ (δ.set i (.val (.lst ds))) := s.freezeA h
/-- a new list, kept as the def's own -/
theorem Sok.setO (s : Sok C H σ δ) {i : Nat} {p : Addr} {xs : HO} {ds : Oc} (n : H p = none) (e : Stp C.S H H') (hp : H' p = some xs) (r : ORep C.K (fun b => Zd C δ b ∨ b = p) H' xs ds) (hin : ds.inn = [] := by rfl) : Sok C H' (σ.set i (some (.ref p))) (δ.set i (.own p ds)) := by
  have at' : ∀ b, (Sl.own p ds).at b → b = p := fun b z => by
    rcases z with z | z
    · exact z.symm
    · rw [hin] at z
      cases z
  have m : ∀ b, Zd C (δ.set i (.own p ds)) b → Zd C δ b ∨ b = p := fun b z => (zd_set z).imp id (at' b)
  have k : ∀ b o, ¬ Zd C δ b → H b = some o → H' b = some o := fun b o n x => e.keep b o (fun c => n (zch s c)) x
  have hz : ∀ b, Zd C (δ.set i (.own p ds)) b → Zd C δ b ∨ H b = none := fun b z => (m b z).imp id fun (z : b = p) => by rw [z]; exact n
  have nav : ¬ C.av p := s.al0.na n
  have h0 : C.H0 p = none := by
    cases q : C.H0 p with
    | none => rfl
    | some o =>
      by_cases c : ch C.S p
      · exact absurd (s.avs p (ch_sa c)) nav
      · rw [s.st.keep p o c q] at n
        cases n
  have old : ∀ (l : Nat) (x : Sl) (b : Addr), (δ.set i (Sl.own p ds))[l]? = some x → x.at b → (i = l ∧ x = .own p ds ∧ b = p) ∨ (i ≠ l ∧ δ[l]? = some x ∧ b ≠ p) := fun l x b h hb => by
    by_cases hl : i = l
    · subst hl
      have hi : i < δ.length := by
        rcases Nat.lt_or_ge i δ.length with z | z
        · exact z
        · rw [List.getElem?_eq_none (by simpa using z)] at h
          cases h
      rw [List.getElem?_set_self hi] at h
      cases h
      exact .inl ⟨rfl, rfl, at' b hb⟩
    · rw [List.getElem?_set_ne hl] at h
      refine .inr ⟨hl, h, fun z => ?_⟩
      obtain ⟨o, ho, _⟩ := s.alz b (.inr ⟨x, List.mem_iff_getElem?.mpr ⟨l, h⟩, hb⟩)
      rw [z, n] at ho
      cases ho
  refine ⟨by simp [s.len], fun j w h => ?_, fun j l x y b h1 h2 g1 g2 => ?_, fun j a c h b hb => ?_, e.on s.g, s.st.trans e, s.avs, al_step s.ava s.g e, fun p m => (s.gh p m).move k hz⟩
  · by_cases hj : i = j
    · subst hj
      have hi : i < δ.length := by
        rcases Nat.lt_or_ge i δ.length with z | z
        · exact z
        · rw [List.getElem?_eq_none (by simpa using z)] at h
          cases h
      rw [List.getElem?_set_self hi] at h
      cases h
      rw [List.getElem?_set_self (by rw [s.len]; exact hi)]
      exact ⟨rfl, h0, nav, xs, hp, r.mono m⟩
    · rw [List.getElem?_set_ne hj] at h
      rw [List.getElem?_set_ne hj]
      have q := s.sl j w h
      cases w with
      | any => trivial
      | val d =>
        obtain ⟨v, h1, h2⟩ := q
        exact ⟨v, h1, h2.move k hz⟩
      | own a es =>
        obtain ⟨h1, h2, h3, ys, h5, h6⟩ := q
        exact ⟨h1, h2, h3, ys, e.keep a _ (fun c => h3 (s.avs a (ch_sa c))) h5, h6.move k hz fun b hb o x => e.keep b o (fun c => (s.inn j a es h b hb).2 (s.avs b (ch_sa c))) x⟩
      | src => exact q
      | srt T => exact q
  · rcases old j x b h1 g1 with ⟨e1, _, e3⟩ | ⟨e1, e2, e3⟩
    · rcases old l y b h2 g2 with ⟨f1, _, f3⟩ | ⟨f1, f2, f3⟩
      · rw [← e1, ← f1]
      · exact absurd e3 f3
    · rcases old l y b h2 g2 with ⟨f1, _, f3⟩ | ⟨f1, f2, f3⟩
      · exact absurd f3 e3
      · exact s.uqr j l x y b e2 f2 g1 g2
  · rcases old j _ a h (.inl rfl) with ⟨_, e2, _⟩ | ⟨_, e2, _⟩
    · cases e2
      rw [hin] at hb
      cases hb
    · exact s.inn j a c e2 b hb
/-- an own object changed, and its own lists -/
theorem Sok.upG (s : Sok C H σ δ) {i : Nat} {a : Addr} {ds es : Oc} {ys : HO} (h : δ[i]? = some (.own a ds)) (hH : ∀ b o, ¬ (Sl.own a ds).at b → H b = some o → H' b = some o) (hu : H' a = some ys) (r : ORep C.K (fun b => Zd C δ b ∨ b ∈ es.inn) H' ys es) (hin : ∀ b, b ∈ es.inn → b ∈ ds.inn ∨ H b = none) : Sok C H' σ (δ.set i (.own a es)) := by
  obtain ⟨h1, h2, h3, xs, h5, h6⟩ := s.sl i _ h
  have za : ∀ b, (Sl.own a ds).at b → Zd C δ b := fun b hb => .inr ⟨_, List.mem_iff_getElem?.mpr ⟨i, h⟩, hb⟩
  have at' : ∀ b, (Sl.own a es).at b → (Sl.own a ds).at b ∨ H b = none := fun b hb => by
    rcases hb with hb | hb
    · exact .inl (.inl hb)
    · exact (hin b hb).imp .inr id
  have m : ∀ b, Zd C (δ.set i (.own a es)) b → Zd C δ b ∨ H b = none := fun b z => by
    rcases zd_set z with z | z
    · exact .inl z
    · exact (at' b z).imp (za b) id
  have k : ∀ b o, ¬ Zd C δ b → H b = some o → H' b = some o := fun b o n x => hH b o (fun z => n (za b z)) x
  have nsa : ∀ b, sa C.S b → ¬ (Sl.own a ds).at b := fun b c z => (s.regn h z).2.1 (s.avs b c)
  have old : ∀ (l : Nat) (x : Sl) (b : Addr), (δ.set i (Sl.own a es))[l]? = some x → x.at b → (i = l ∧ x = .own a es) ∨ (i ≠ l ∧ δ[l]? = some x) := fun l x b g hb => by
    by_cases hl : i = l
    · subst hl
      rw [List.getElem?_set_self (own_lt s h)] at g
      cases g
      exact .inl ⟨rfl, rfl⟩
    · rw [List.getElem?_set_ne hl] at g
      exact .inr ⟨hl, g⟩
  have cross : ∀ (l : Nat) (x : Sl) (b : Addr), i ≠ l → δ[l]? = some x → x.at b → ¬ (Sl.own a es).at b := fun l x b hl g hb z => by
    rcases at' b z with z | z
    · exact hl (s.uqr i l _ x b h g z hb)
    · obtain ⟨o, ho, _⟩ := s.alz b (.inr ⟨x, List.mem_iff_getElem?.mpr ⟨l, g⟩, hb⟩)
      rw [z] at ho
      cases ho
  have new0 : ∀ b, H b = none → C.H0 b = none ∧ ¬ C.av b := fun b n => by
    have nav : ¬ C.av b := s.al0.na n
    refine ⟨?_, nav⟩
    cases q : C.H0 b with
    | none => rfl
    | some o =>
      by_cases c : ch C.S b
      · exact absurd (s.avs b (ch_sa c)) nav
      · rw [s.st.keep b o c q] at n
        cases n
  refine ⟨by simp [s.len], fun j w hw => ?_, fun j l x y b g1 g2 f1 f2 => ?_, fun j b c g d hd => ?_, s.g.dep (fun b o c x => hH b o (nsa b c) x) (fun b c q x => hH b _ (fun z => by obtain ⟨_, _, o, ho, _, n⟩ := s.regn h z; rw [x] at ho; exact n c q (Option.some.inj ho).symm) x), ⟨fun b o c x => ?_, fun g => ?_⟩, s.avs, fun b z => ?_, fun p mp => (s.gh p mp).move k m⟩
  · by_cases hj : i = j
    · subst hj
      rw [List.getElem?_set_self (own_lt s h)] at hw
      cases hw
      refine ⟨h1, h2, h3, ys, hu, r.mono fun b z => ?_⟩
      rcases zd_set z with z | z
      · exact .inl z
      · rcases z with z | z
        · exact .inl (za b (.inl z))
        · exact .inr z
    · rw [List.getElem?_set_ne hj] at hw
      have q := s.sl j w hw
      cases w with
      | any => trivial
      | val d =>
        obtain ⟨v, g1, g2⟩ := q
        exact ⟨v, g1, g2.move k m⟩
      | own b es' =>
        obtain ⟨g1, g2, g3, zs, g5, g6⟩ := q
        have nr : ∀ c, (Sl.own b es').at c → ¬ (Sl.own a ds).at c := fun c hc z => hj (s.uqr i j _ _ c h hw z hc)
        exact ⟨g1, g2, g3, zs, hH b _ (nr b (.inl rfl)) g5, g6.move k m fun c hc o x => hH c o (nr c (.inr hc)) x⟩
      | src => exact q
      | srt T => exact q
  · rcases old j x b g1 f1 with ⟨e1, e2⟩ | ⟨e1, e2⟩
    · rcases old l y b g2 f2 with ⟨e3, e4⟩ | ⟨e3, e4⟩
      · rw [← e1, ← e3]
      · subst e2
        exact absurd f1 (cross l y b e3 e4 f2)
    · rcases old l y b g2 f2 with ⟨e3, e4⟩ | ⟨e3, e4⟩
      · subst e4
        exact absurd f2 (cross j x b e1 e2 f1)
      · exact s.uqr j l x y b e2 e4 f1 f2
  · rcases old j _ b g (.inl rfl) with ⟨_, e2⟩ | ⟨_, e2⟩
    · cases e2
      rcases hin d hd with z | z
      · exact s.inn i a ds h d z
      · exact new0 d z
    · exact s.inn j b c e2 d hd
  · exact hH b o (fun z => by rw [(s.regn h z).1] at x; cases x) (s.st.keep b o c x)
  · exact (s.st.on g).dep (fun b o c x => hH b o (nsa b c) x) (fun b c q x => hH b _ (fun z => by obtain ⟨_, _, o, ho, _, n⟩ := s.regn h z; rw [x] at ho; exact n c q (Option.some.inj ho).symm) x)
  · obtain ⟨o, x, w⟩ := s.ava b z
    exact ⟨o, hH b o (fun e => (s.regn h e).2.1 z) x, w⟩
/-- an own list changed -/
theorem Sok.upO (s : Sok C H σ δ) {i : Nat} {a : Addr} {ds es : Oc} {ys : HO} (h : δ[i]? = some (.own a ds)) (r : ORep C.K (Zd C δ) H ys es) (hin : es.inn = [] := by rfl) : Sok C (upd H a ys) σ (δ.set i (.own a es)) := by
  have za : Zd C δ a := .inr ⟨_, List.mem_iff_getElem?.mpr ⟨i, h⟩, .inl rfl⟩
  refine s.upG h (fun b o n x => ?_) upd_same ((r.move (fun b o n x => ?_) (fun b z => ?_) fun b hb => ?_)) fun b hb => ?_
  · rw [upd_ne (fun (z : b = a) => n (.inl z.symm))]
    exact x
  · rw [upd_ne (fun (z : b = a) => n (by rw [z]; exact za))]
    exact x
  · rcases z with z | z
    · exact .inl z
    · rw [hin] at z
      cases z
  · rw [hin] at hb
    cases hb
  · rw [hin] at hb
    cases hb
/-- ghosts put on, taken off -/
theorem Sok.ghost (s : Sok C H σ δ) {gs : List (V × Dt)} (h : ∀ g, g ∈ gs → Rep C.K (Zd C δ) H g.1 g.2) : Sok { C with gh := gs ++ C.gh } H σ δ := by
  refine ⟨s.len, fun i u hu => ?_, s.uqr, s.inn, s.g, s.st, s.avs, s.ava, fun q m => ?_⟩
  · have q := s.sl i u hu
    cases u <;> exact q
  · rcases List.mem_append.mp m with m | m
    · exact h q m
    · exact s.gh q m
theorem Sok.unghost {gs : List (V × Dt)} (s : Sok { C with gh := gs ++ C.gh } H σ δ) : Sok C H σ δ ∧ ∀ g, g ∈ gs → Rep C.K (Zd C δ) H g.1 g.2 := by
  refine ⟨⟨s.len, fun i u hu => ?_, s.uqr, s.inn, s.g, s.st, s.avs, s.ava, fun q m => s.gh q (List.mem_append_right _ m)⟩, fun g m => s.gh g (List.mem_append_left _ m)⟩
  have q := s.sl i u hu
  cases u <;> exact q
/-- more to avoid: what is new -/
def Ctx.plus (C : Ctx) (D : Addr) : Ctx := { C with av := fun b => C.av b ∨ b = D }
theorem zd_plus {D b : Addr} : Zd (C.plus D) δ b ↔ Zd C δ b ∨ b = D := by
  unfold Zd Ctx.plus
  constructor
  · rintro ((h | h) | h)
    · exact .inl (.inl h)
    · exact .inr h
    · exact .inl (.inr h)
  · rintro ((h | h) | h)
    · exact .inl (.inl h)
    · exact .inr h
    · exact .inl (.inr h)
theorem Sok.plus (s : Sok C H σ δ) {D : Addr} (n : H D = none) {o : HO} (hn : nt o := by exact nt_lst) : Sok (C.plus D) (upd H D o) σ δ := by
  have e : Stp C.S H (upd H D o) := Stp.new n
  have k : ∀ b o', ¬ Zd C δ b → H b = some o' → upd H D o b = some o' := fun b o' _ x => same_new n b o' x
  have m : ∀ b, Zd (C.plus D) δ b → Zd C δ b ∨ H b = none := fun b z => (zd_plus.mp z).imp id fun (z : b = D) => by rw [z]; exact n
  have dn : ∀ b, (∃ o, H b = some o ∧ nt o) → b ≠ D := fun b ⟨o, ho, _⟩ z => by rw [z, n] at ho; cases ho
  refine ⟨s.len, fun i u h => ?_, s.uqr, fun i a c h b hb => ⟨(s.inn i a c h b hb).1, fun z => z.elim (s.inn i a c h b hb).2 (dn b (s.regn h (.inr hb)).2.2)⟩, e.on s.g, s.st.trans e, fun b z => .inl (s.avs b z), fun b z => ?_, fun p q => (s.gh p q).move k m⟩
  · have q := s.sl i u h
    cases u with
    | any => trivial
    | val d =>
      obtain ⟨v, h1, h2⟩ := q
      exact ⟨v, h1, h2.move k m⟩
    | own a ds =>
      obtain ⟨h1, h2, h3, xs, h5, h6⟩ := q
      refine ⟨h1, h2, fun z => z.elim h3 fun (z : a = D) => ?_, xs, same_new n _ _ h5, h6.move k m fun b hb o x => same_new n _ _ x⟩
      rw [z, n] at h5
      cases h5
    | src => exact q
    | srt T => exact q
  · rcases z with z | z
    · exact al_step s.ava s.g e b z
    · rw [z]
      exact ⟨_, upd_same, hn⟩
/-- any change that leaves all but D and what draws change -/
theorem Sok.plusStep {D : Addr} (s : Sok (C.plus D) H σ δ) (k : ∀ b o, ¬ ch C.S b → b ≠ D → H b = some o → H' b = some o) (g : Gs C.S H') (n0 : C.H0 D = none) (nD : ∃ o, H' D = some o ∧ nt o) : Sok (C.plus D) H' σ δ := by
  have za : ∀ b, ¬ Zd (C.plus D) δ b → ¬ ch C.S b ∧ b ≠ D := fun b n => ⟨fun c => n (.inl (s.avs b (ch_sa c))), fun z => n (.inl (.inr z))⟩
  have k2 : ∀ b o, ¬ Zd (C.plus D) δ b → H b = some o → H' b = some o := fun b o n x => k b o (za b n).1 (za b n).2 x
  refine ⟨s.len, fun i u h => ?_, s.uqr, s.inn, g, ⟨fun b o c x => k b o c (fun z => by rw [z] at x; exact nomatch x.symm.trans n0) (s.st.keep b o c x), fun _ => g⟩, s.avs, fun b z => ?_, fun p q => (s.gh p q).move k2 fun _ z => .inl z⟩
  · have q := s.sl i u h
    cases u with
    | any => trivial
    | val d =>
      obtain ⟨v, h1, h2⟩ := q
      exact ⟨v, h1, h2.move k2 fun _ z => .inl z⟩
    | own a ds =>
      obtain ⟨h1, h2, h3, xs, h5, h6⟩ := q
      exact ⟨h1, h2, h3, xs, k _ _ (fun c => h3 (s.avs _ (ch_sa c))) (fun z => h3 (.inr z)) h5, h6.move k2 (fun _ z => .inl z) fun b hb o x => k b o (fun c => (s.inn i _ _ h b hb).2 (s.avs _ (ch_sa c))) (fun z => (s.inn i _ _ h b hb).2 (.inr z)) x⟩
    | src => exact q
    | srt T => exact q
  · by_cases c : ch C.S b
    · exact g.dom (ch_sa c)
    · by_cases e : b = D
      · rw [e]
        exact nD
      · obtain ⟨o, x, w⟩ := s.ava b z
        exact ⟨o, k b o c e x, w⟩
end
end Dl
set_option maxHeartbeats 1000000
namespace Dl
open PySem PySem.Spec PyProof.Rows L2 Lcn Sq
abbrev EvE := List Sl → (Dt → Prop) → Prop
abbrev EvT := List Sl → (Bool → Prop) → Prop
abbrev EvA := List Sl → (List Dt → Prop) → Prop
/-- what a value avoids: z: all own lists too -/
def Zz (z : Bool) (C : Ctx) (δ : List Sl) : Addr → Prop := match z with
  | true => Zd C δ
  | false => C.av
def VE (z : Bool) (K : PySem.W.Frag) (te : TE) (ev : EvE) : Prop := ∀ (C : Ctx) (σ : L2.St) (δ : List Sl) (H : Hp) (Q : VK) (Qd : Dt → Prop), C.K = K → Sok C H σ δ → ev δ Qd → (∀ v d H', Stp C.S H H' → Rep K (Zz z C δ) H' v d → Qd d → Q v H') → te σ H Q
def DE {ι : Type} (z : Bool) (K : PySem.W.Frag) (X : ι → Cx) (e : Expr) (ev : EvE) : Prop := ∃ te, (∀ i, PE (X i) e te) ∧ VE z K te ev
def VT (K : PySem.W.Frag) (te : TT) (ev : EvT) : Prop := ∀ (C : Ctx) (σ : L2.St) (δ : List Sl) (H : Hp) (Q : Bool → Hp → Prop) (Qd : Bool → Prop), C.K = K → Sok C H σ δ → ev δ Qd → (∀ b H', Stp C.S H H' → Qd b → Q b H') → te σ H Q
def DT {ι : Type} (K : PySem.W.Frag) (X : ι → Cx) (e : Expr) (ev : EvT) : Prop := ∃ te, (∀ i, PT (X i) e te) ∧ VT K te ev
def DW {ι : Type} (K : PySem.W.Frag) (X : ι → Cx) (e : Expr) (ev : EvT) : Prop := ∃ te, (∀ i, PW (X i) e te) ∧ VT K te ev
def VA (z : Bool) (K : PySem.W.Frag) (te : TA) (ev : EvA) : Prop := ∀ (C : Ctx) (σ : L2.St) (δ : List Sl) (H : Hp) (Q : List V → Hp → Prop) (Qd : List Dt → Prop), C.K = K → Sok C H σ δ → ev δ Qd → (∀ vs ds H', Stp C.S H H' → RepL K (Zz z C δ) H' vs ds → Qd ds → Q vs H') → te σ H Q
def DA {ι : Type} (z : Bool) (K : PySem.W.Frag) (X : ι → Cx) (es : List Expr) (ev : EvA) : Prop := ∃ te, (∀ i, PA (X i) es te) ∧ VA z K te ev
section
variable {C : Ctx} {H H' : Hp} {σ : L2.St} {δ : List Sl} {z : Bool}
theorem Sok.al (s : Sok C H σ δ) : Al (Zz z C δ) H := by
  cases z
  · exact s.al0
  · exact s.alz
theorem rep_st (s : Sok C H σ δ) (e : Stp C.S H H') {v : V} {d : Dt} (r : Rep C.K (Zz z C δ) H v d) : Rep C.K (Zz z C δ) H' v d := by
  cases z
  · exact rep_step0 s e r
  · exact rep_step s e r
theorem repl_st (s : Sok C H σ δ) (e : Stp C.S H H') {v : List V} {d : List Dt} (r : RepL C.K (Zz z C δ) H v d) : RepL C.K (Zz z C δ) H' v d := ⟨r.l, fun i x d h1 h2 => rep_st s e (r.f i x d h1 h2)⟩
end
section
variable {ι : Type} {K : PySem.W.Frag} {X : ι → Cx} {z : Bool} {pos : Pos} {a b c e : Expr} {es : List Expr} {ea eb ec : EvE}
/-- less is avoided -/
theorem de_low (h : DE true K X a ea) : DE false K X a ea := by
  obtain ⟨t, p, v⟩ := h
  exact ⟨t, p, fun C σ δ H Q Qd k s e q => v C σ δ H Q Qd k s e fun v d H' e r q2 => q v d H' e (r.mono fun b z => .inl z) q2⟩
/-- what is flat avoids all -/
theorem de_flat (h : DE false K X a ea) : DE true K X a (fun δ Q => ea δ fun d => d.flat = true ∧ Q d) := by
  obtain ⟨t, p, v⟩ := h
  exact ⟨t, p, fun C σ δ H Q Qd k s e q => v C σ δ H Q _ k s e fun v d H' e r q2 => q v d H' e (r.flat q2.1) q2.2⟩
def dVar (i : Nat) : EvE := fun δ Q => match δ[i]? with
  | some (.val d) => Q d
  | _ => False
theorem de_var {i : Nat} {x : Str} (p : ∀ j, PE (X j) (.Name x pos) (tVar i)) : DE z K X (.Name x pos) (dVar i) := by
  refine ⟨_, p, fun C σ δ H Q Qd k s e q => ?_⟩
  subst k
  unfold dVar at e
  split at e
  · rename_i d h
    obtain ⟨v, h1, h2⟩ := s.sl i _ h
    refine ⟨v, h1, q v d H (Stp.refl H) ?_ e⟩
    cases z
    · exact h2.mono fun b z => .inl z
    · exact h2
  · exact e.elim
/-- a name of an own list or a thing, read and let go -/
def dVarO (i : Nat) : EvE := fun δ Q => match δ[i]? with
  | some (.val d) => Q d
  | some (.own _ c) => Q c.dt
  | _ => False
theorem de_varO {i : Nat} {x : Str} (p : ∀ j, PE (X j) (.Name x pos) (tVar i)) : DE false K X (.Name x pos) (dVarO i) := by
  refine ⟨_, p, fun C σ δ H Q Qd k s e q => ?_⟩
  subst k
  unfold dVarO at e
  split at e
  · rename_i d h
    obtain ⟨v, h1, h2⟩ := s.sl i _ h
    exact ⟨v, h1, q v d H (Stp.refl H) (h2.mono fun b z => .inl z) e⟩
  · rename_i a c h
    obtain ⟨h1, _, h3, u, h5, h6⟩ := s.sl i _ h
    exact ⟨.ref a, h1, q _ _ H (Stp.refl H) (orep_rep h6 h5 (fun b z => .inl z) h3 fun b hb => (s.inn i a c h b hb).2) e⟩
  · exact e.elim
def dC (d : Dt) : EvE := fun _ Q => Q d
theorem de_c {v : V} {d : Dt} (p : ∀ j, PE (X j) a (tC v)) (r : ∀ (K : PySem.W.Frag) (av : Addr → Prop) (H : Hp), Rep K av H v d) : DE z K X a (dC d) :=
  ⟨_, p, fun C σ δ H Q Qd k s e q => q v d H (Stp.refl H) (r _ _ _) e⟩
theorem de_int {i : Int} {j pos} : DE z K X (.Constant (.int i) j pos) (dC (.int i)) := de_c (fun _ => pe_int) fun _ _ _ => .int i
theorem de_bl {i : Bool} {j pos} : DE z K X (.Constant (.bool i) j pos) (dC (.bl i)) := de_c (fun _ => pe_bl) fun _ _ _ => .bl i
theorem de_non {j pos} : DE z K X (.Constant .none j pos) (dC .non) := de_c (fun _ => pe_non) fun _ _ _ => .non
theorem de_str {x : Str} {j pos} : DE z K X (.Constant (.str x) j pos) (dC (.str x)) := de_c (fun _ => pe_str) fun _ _ _ => .str x
/-! ### operators, by values -/
def ROk (K : PySem.W.Frag) (r : R2) (dr : Dt → Dt → (Dt → Prop) → Prop) : Prop := ∀ (av : Addr → Prop) (H : Hp) (x y : V) (dx dy : Dt) (Q : VK) (Qd : Dt → Prop), Al av H → Rep K av H x dx → Rep K av H y dy → dr dx dy Qd → (∀ v d H', Same H H' → Rep K av H' v d → Qd d → Q v H') → r x y H Q
theorem ROk.or {r r' : R2} {dr dr' : Dt → Dt → (Dt → Prop) → Prop} (h : ROk K r dr) (h' : ROk K r' dr') : ROk K (fun x y H Q => r x y H Q ∨ r' x y H Q) (fun x y Q => dr x y Q ∨ dr' x y Q) :=
  fun av H x y dx dy Q Qd al rx ry d q => d.imp (fun d => h av H x y dx dy Q Qd al rx ry d q) fun d => h' av H x y dx dy Q Qd al rx ry d q
theorem OpR.or {X : Cx} {f : Value → Value → Sem Value} {r r' : R2} (h : OpR X f r) (h' : OpR X f r') : OpR X f (fun x y H Q => r x y H Q ∨ r' x y H Q) := fun pins s σ H x y v u Q I rx ry q => q.elim (h pins s σ H x y v u Q I rx ry) (h' pins s σ H x y v u Q I rx ry)
theorem ROk.imp {r : R2} {dr dr' : Dt → Dt → (Dt → Prop) → Prop} (h : ROk K r dr) (i : ∀ x y Q, dr' x y Q → dr x y Q) : ROk K r dr' := fun av H x y dx dy Q Qd al rx ry d q => h av H x y dx dy Q Qd al rx ry (i _ _ _ d) q
def dOp (dr : Dt → Dt → (Dt → Prop) → Prop) (ea eb : EvE) : EvE := fun δ Q => ea δ fun x => eb δ fun y => dr x y Q
theorem ve_op {ta tb : TE} {r : R2} {dr : Dt → Dt → (Dt → Prop) → Prop} (ro : ROk K r dr) (va : VE z K ta ea) (vb : VE z K tb eb) : VE z K (tOp r ta tb) (dOp dr ea eb) := by
  intro C σ δ H Q Qd k s e q
  refine va C σ δ H _ _ k s e fun x dx H1 e1 r1 e => ?_
  refine vb C σ δ H1 _ _ k (s.step e1) e fun y dy H2 e2 r2 e => ?_
  have s2 := (s.step e1).step e2
  refine ro (Zz z C δ) H2 x y dx dy Q Qd s2.al ?_ r2 e fun v d H3 e3 r3 qd => q v d H3 ((e1.trans e2).trans (Stp.of e3)) r3 qd
  subst k
  exact rep_st (s.step e1) e2 r1
theorem de_op {op : Operator} {r : R2} {dr : Dt → Dt → (Dt → Prop) → Prop} (ho : ∀ i, OpR (X i) (binaryOp op) r) (ro : ROk K r dr) (ha : DE z K X a ea) (hb : DE z K X b eb) : DE z K X (.BinOp a op b pos) (dOp dr ea eb) := by
  obtain ⟨ta, pa, va⟩ := ha
  obtain ⟨tb, pb, vb⟩ := hb
  exact ⟨_, fun i => pe_op (ho i) (pa i) (pb i), ve_op ro va vb⟩
theorem de_cmp {op : CmpOp} {r : R2} {dr : Dt → Dt → (Dt → Prop) → Prop} (ho : ∀ i, OpR (X i) (compareOp op) r) (ro : ROk K r dr) (ha : DE z K X a ea) (hb : DE z K X b eb) (hm : behindInMarks op b = false) : DE z K X (.Compare a [op] [b] pos) (dOp dr ea eb) := by
  obtain ⟨ta, pa, va⟩ := ha
  obtain ⟨tb, pb, vb⟩ := hb
  exact ⟨_, fun i => pe_cmpR (ho i) (pa i) (pb i) hm, ve_op ro va vb⟩
def dTst (ea : EvE) : EvT := fun δ Q => ea δ fun d => ∃ b, d = .bl b ∧ Q b
theorem vt_tst {ta : TE} (va : VE z K ta ea) : VT K (tTest ta) (dTst ea) := by
  intro C σ δ H Q Qd k s e q
  refine va C σ δ H _ _ k s e fun x dx H1 e1 r1 e => ?_
  obtain ⟨b, rfl, e⟩ := e
  exact ⟨b, r1.bl_inv, q b H1 e1 e⟩
theorem vt_b {ta : TE} (va : VE z K ta ea) : VT K (tB ta) (dTst ea) := by
  intro C σ δ H Q Qd k s e q
  refine va C σ δ H _ _ k s e fun x dx H1 e1 r1 e => ?_
  obtain ⟨b, rfl, e⟩ := e
  exact ⟨b, r1.bl_inv, q b H1 e1 e⟩
theorem dt_cmp {op : CmpOp} {r : R2} {dr : Dt → Dt → (Dt → Prop) → Prop} (ho : ∀ i, OpR (X i) (compareOp op) r) (ro : ROk K r dr) (ha : DE false K X a ea) (hb : DE false K X b eb) (hm : behindInMarks op b = false) : DT K X (.Compare a [op] [b] pos) (dTst (dOp dr ea eb)) := by
  obtain ⟨ta, pa, va⟩ := ha
  obtain ⟨tb, pb, vb⟩ := hb
  exact ⟨_, fun i => pt_cmpR (ho i) (pa i) (pb i) hm, vt_tst (ve_op ro va vb)⟩
theorem dt_val (ha : DE false K X a ea) (he : ∀ i, ∀ whole, isTrue a (X i).env whole = (do let v ← whole; standAt a.pos; holding [v] (truthy v)) := by intro _ _; rfl) : DT K X a (dTst ea) := by
  obtain ⟨ta, pa, va⟩ := ha
  exact ⟨_, fun i => pt_val (pa i) (he i), vt_b va⟩
/-- truth of any thing -/
def truD : Dt → Option Bool
  | .non => some false
  | .bl b => some b
  | .int i => some (i != 0)
  | .str y => some ((y.length : Int) != 0)
  | .lst xs => some (!xs.isEmpty)
  | .tup xs => some (!xs.isEmpty)
  | _ => none
def dTru (ea : EvE) : EvT := fun δ Q => ea δ fun d => (match d with
  | .str y => y.length ≤ sizeLine
  | _ => True) ∧ ∃ b, truD d = some b ∧ Q b
theorem repl_empty {av : Addr → Prop} {H : Hp} {xs : List V} {ds : List Dt} (r : RepL K av H xs ds) : (!ds.isEmpty) = !xs.isEmpty := by
  have := r.l
  cases xs <;> cases ds <;> simp_all
theorem dt_tru (ha : DE false K X a ea) (he : ∀ i, ∀ whole, isTrue a (X i).env whole = (do let v ← whole; standAt a.pos; holding [v] (truthy v)) := by intro _ _; rfl) (hK : ∀ i, (X i).K = K := by intro _; rfl) : DT K X a (dTru ea) := by
  obtain ⟨ta, pa, va⟩ := ha
  refine ⟨fun σ H Q => ta σ H fun x H' => ∃ k, TruV K x H' k ∧ Q k H', fun i => hK i ▸ pt_truth (pa i) (he i), fun C σ δ H Q Qd k s e q => ?_⟩
  refine va C σ δ H _ _ k s e fun x dx H1 e1 r1 e => ?_
  obtain ⟨g, b, tb, e⟩ := e
  refine ⟨b, ?_, q b H1 e1 e⟩
  cases r1 with
  | non => exact (Option.some.inj tb).symm
  | bl b => exact (Option.some.inj tb).symm
  | int i => exact (Option.some.inj tb).symm
  | str y => exact ⟨g, (Option.some.inj tb).symm⟩
  | lst h l f => exact .inl ⟨_, h.sq, (Option.some.inj tb).symm.trans (repl_empty (K := K) ⟨l, f⟩)⟩
  | tup h l f => exact .inr (.inl ⟨_, h.sq, (Option.some.inj tb).symm.trans (repl_empty (K := K) ⟨l, f⟩)⟩)
  | ins => cases tb
  | dk => cases tb
  | dt => cases tb
/-! ### and, or, not, if -/
variable {ta' tb' : EvT} {rest : List Expr}
def dAndT (t u : EvT) : EvT := fun δ Q => t δ fun c => if c = true then u δ Q else Q false
def dOrT (t u : EvT) : EvT := fun δ Q => t δ fun c => if c = true then Q true else u δ Q
def dNotT (t : EvT) : EvT := fun δ Q => t δ fun c => Q (!c)
theorem dw_and1 (h : DT K X a ta') : DW K X (.BoolOp .And [a] pos) ta' := by
  obtain ⟨t, p, v⟩ := h
  exact ⟨t, fun i => pw_and1 (p i), v⟩
theorem dw_or1 (h : DT K X a ta') : DW K X (.BoolOp .Or [a] pos) ta' := by
  obtain ⟨t, p, v⟩ := h
  exact ⟨t, fun i => pw_or1 (p i), v⟩
theorem dw_and (h : DT K X a ta') (h2 : DW K X (.BoolOp .And (b :: rest) pos) tb') : DW K X (.BoolOp .And (a :: b :: rest) pos) (dAndT ta' tb') := by
  obtain ⟨t, p, v⟩ := h
  obtain ⟨t2, p2, v2⟩ := h2
  refine ⟨_, fun i => pw_and (p i) (p2 i), fun C σ δ H Q Qd k s e q => ?_⟩
  refine v C σ δ H _ _ k s e fun c H1 e1 e => ?_
  cases c
  · exact q false H1 e1 e
  · exact v2 C σ δ H1 Q Qd k (s.step e1) e fun c H2 e2 e => q c H2 (e1.trans e2) e
theorem dw_or (h : DT K X a ta') (h2 : DW K X (.BoolOp .Or (b :: rest) pos) tb') : DW K X (.BoolOp .Or (a :: b :: rest) pos) (dOrT ta' tb') := by
  obtain ⟨t, p, v⟩ := h
  obtain ⟨t2, p2, v2⟩ := h2
  refine ⟨_, fun i => pw_or (p i) (p2 i), fun C σ δ H Q Qd k s e q => ?_⟩
  refine v C σ δ H _ _ k s e fun c H1 e1 e => ?_
  cases c
  · exact v2 C σ δ H1 Q Qd k (s.step e1) e fun c H2 e2 e => q c H2 (e1.trans e2) e
  · exact q true H1 e1 e
theorem dt_w (h : DW K X a ta') : DT K X a ta' := by
  obtain ⟨t, p, v⟩ := h
  exact ⟨t, fun i => (p i).pt, v⟩
theorem dt_not (h : DT K X a ta') : DT K X (.UnaryOp .Not a pos) (dNotT ta') := by
  obtain ⟨t, p, v⟩ := h
  refine ⟨_, fun i => pt_not (p i), fun C σ δ H Q Qd k s e q => ?_⟩
  exact v C σ δ H _ _ k s e fun c H1 e1 e => q _ H1 e1 e
/-- .. as values, where all are True or False -/
def dAndV (ea eb : EvE) : EvE := fun δ Q => ea δ fun d => ∃ c, d = .bl c ∧ if c = true then eb δ Q else Q (.bl false)
def dOrV (ea eb : EvE) : EvE := fun δ Q => ea δ fun d => ∃ c, d = .bl c ∧ if c = true then Q (.bl true) else eb δ Q
def dNotV (ea : EvE) : EvE := fun δ Q => ea δ fun d => ∃ c, d = .bl c ∧ Q (.bl (!c))
theorem de_one {op} (h : DE z K X a ea) : DE z K X (.BoolOp op [a] pos) ea := by
  obtain ⟨t, p, v⟩ := h
  exact ⟨t, fun i => pe_one (p i), v⟩
theorem de_and (h : DE z K X a ea) (h2 : DE z K X (.BoolOp .And (b :: rest) pos) eb) : DE z K X (.BoolOp .And (a :: b :: rest) pos) (dAndV ea eb) := by
  obtain ⟨t, p, v⟩ := h
  obtain ⟨t2, p2, v2⟩ := h2
  refine ⟨_, fun i => pe_and (p i) (p2 i), fun C σ δ H Q Qd k s e q => ?_⟩
  refine v C σ δ H _ _ k s e fun x d H1 e1 r1 e => ?_
  obtain ⟨c, rfl, e⟩ := e
  refine ⟨c, r1.bl_inv, ?_⟩
  cases c
  · exact q _ _ H1 e1 (.bl false) e
  · exact v2 C σ δ H1 Q Qd k (s.step e1) e fun v d H2 e2 r e => q v d H2 (e1.trans e2) r e
theorem de_or (h : DE z K X a ea) (h2 : DE z K X (.BoolOp .Or (b :: rest) pos) eb) : DE z K X (.BoolOp .Or (a :: b :: rest) pos) (dOrV ea eb) := by
  obtain ⟨t, p, v⟩ := h
  obtain ⟨t2, p2, v2⟩ := h2
  refine ⟨_, fun i => pe_or (p i) (p2 i), fun C σ δ H Q Qd k s e q => ?_⟩
  refine v C σ δ H _ _ k s e fun x d H1 e1 r1 e => ?_
  obtain ⟨c, rfl, e⟩ := e
  refine ⟨c, r1.bl_inv, ?_⟩
  cases c
  · exact v2 C σ δ H1 Q Qd k (s.step e1) e fun v d H2 e2 r e => q v d H2 (e1.trans e2) r e
  · exact q _ _ H1 e1 (.bl true) e
theorem de_not (h : DE z K X a ea) : DE z K X (.UnaryOp .Not a pos) (dNotV ea) := by
  obtain ⟨t, p, v⟩ := h
  refine ⟨_, fun i => pe_not (p i), fun C σ δ H Q Qd k s e q => ?_⟩
  refine v C σ δ H _ _ k s e fun x d H1 e1 r1 e => ?_
  obtain ⟨c, rfl, e⟩ := e
  exact ⟨c, r1.bl_inv, q _ _ H1 e1 (.bl _) e⟩
def dIfE (t : EvT) (ea eb : EvE) : EvE := fun δ Q => t δ fun c => if c = true then ea δ Q else eb δ Q
theorem de_if (h : DT K X c ta') (h1 : DE z K X a ea) (h2 : DE z K X b eb) : DE z K X (.IfExp c a b pos) (dIfE ta' ea eb) := by
  obtain ⟨t, p, v⟩ := h
  obtain ⟨t1, p1, v1⟩ := h1
  obtain ⟨t2, p2, v2⟩ := h2
  refine ⟨_, fun i => pe_ifExp (p i) (p1 i) (p2 i), fun C σ δ H Q Qd k s e q => ?_⟩
  refine v C σ δ H _ _ k s e fun c H1 e1 e => ?_
  cases c
  · exact v2 C σ δ H1 Q Qd k (s.step e1) e fun v d H2 e2 r e => q v d H2 (e1.trans e2) r e
  · exact v1 C σ δ H1 Q Qd k (s.step e1) e fun v d H2 e2 r e => q v d H2 (e1.trans e2) r e
/-! ### one-place operators -/
def dNeg (ea : EvE) : EvE := fun δ Q => ea δ fun d => ∃ i, d = .int i ∧ Q (.int (-i))
theorem de_neg (h : DE z K X a ea) : DE z K X (.UnaryOp .USub a pos) (dNeg ea) := by
  obtain ⟨t, p, v⟩ := h
  refine ⟨_, fun i => pe_un un_neg (p i), fun C σ δ H Q Qd k s e q => ?_⟩
  refine v C σ δ H _ _ k s e fun x d H1 e1 r1 e => ?_
  obtain ⟨i, rfl, e⟩ := e
  exact ⟨i, r1.int_inv, q _ _ H1 e1 (.int _) e⟩
/-! ### argument lists, displays -/
def dNilA : EvA := fun _ Q => Q []
def dConsA (ea : EvE) (t : EvA) : EvA := fun δ Q => ea δ fun d => t δ fun ds => Q (d :: ds)
variable {et : EvA}
theorem da_nil : DA z K X [] dNilA := ⟨_, fun _ => pa_nil, fun C σ δ H Q Qd k s e q => q [] [] H (Stp.refl H) .nil e⟩
theorem da_cons (ha : DE z K X e ea) (hr : DA z K X es et) (hs : ∀ i, starEach (e :: es) (X i).env = (false, eval e (X i).env) :: starEach es (X i).env := by intro _; rfl) : DA z K X (e :: es) (dConsA ea et) := by
  obtain ⟨t, p, v⟩ := ha
  obtain ⟨t2, p2, v2⟩ := hr
  refine ⟨_, fun i => pa_cons (p i) (p2 i) (hs i), fun C σ δ H Q Qd k s e q => ?_⟩
  refine v C σ δ H _ _ k s e fun x d H1 e1 r1 e => ?_
  refine v2 C σ δ H1 _ _ k (s.step e1) e fun vs ds H2 e2 r2 e => q _ _ H2 (e1.trans e2) (.cons ?_ r2) e
  subst k
  exact rep_st (s.step e1) e2 r1
def dTup (et : EvA) : EvE := fun δ Q => et δ fun ds => ds.length ≤ sizeLine ∧ Q (.tup ds)
def dLst (et : EvA) : EvE := fun δ Q => et δ fun ds => ds.length ≤ sizeLine ∧ Q (.lst ds)
theorem de_tup {x1} (h : DA z K X es et) : DE z K X (.Tuple es x1 pos) (dTup et) := by
  obtain ⟨t, p, v⟩ := h
  refine ⟨_, fun i => pe_tup (p i), fun C σ δ H Q Qd k s e q => ?_⟩
  refine v C σ δ H _ _ k s e fun xs ds H1 e1 r1 e => ⟨by rw [r1.l]; exact e.1, fun p hp => q _ _ _ (e1.trans (Stp.new hp)) (rep_newT (s.step e1).al hp r1) e.2⟩
theorem de_lst (h : DA z K X es et) : DE z K X (.List es pos) (dLst et) := by
  obtain ⟨t, p, v⟩ := h
  refine ⟨_, fun i => pe_lst (p i), fun C σ δ H Q Qd k s e q => ?_⟩
  refine v C σ δ H _ _ k s e fun xs ds H1 e1 r1 e => ⟨by rw [r1.l]; exact e.1, fun p hp => q _ _ _ (e1.trans (Stp.new hp)) (rep_newL (s.step e1).al hp r1) e.2⟩
/-! ### calls of built-ins, by values -/
def RcOk (K : PySem.W.Frag) (r : List V → Hp → VK → Prop) (dr : List Dt → (Dt → Prop) → Prop) : Prop := ∀ (av : Addr → Prop) (H : Hp) (xs : List V) (ds : List Dt) (Q : VK) (Qd : Dt → Prop), Al av H → RepL K av H xs ds → dr ds Qd → (∀ v d H', Same H H' → Rep K av H' v d → Qd d → Q v H') → r xs H Q
def dCall (dr : List Dt → (Dt → Prop) → Prop) (et : EvA) : EvE := fun δ Q => et δ fun ds => dr ds Q
theorem ve_cb {t : TA} {r : List V → Hp → VK → Prop} {dr : List Dt → (Dt → Prop) → Prop} (ro : RcOk K r dr) (v : VA z K t et) : VE z K (tCB r t) (dCall dr et) := by
  intro C σ δ H Q Qd k s e q
  refine v C σ δ H _ _ k s e fun xs ds H1 e1 r1 e => ?_
  exact ro _ H1 xs ds Q Qd (s.step e1).al r1 e fun v d H2 e2 r2 e => q v d H2 (e1.trans (Stp.of e2)) r2 e
theorem de_callB {id : String} {x : Str} {p : Pos} {r : List V → Hp → VK → Prop} {dr : List Dt → (Dt → Prop) → Prop} (hc : ∀ i, CallR (X i) (.builtin id) r) (ro : RcOk K r dr) (hg : ∀ i, Gl (X i) x) (hm : ∀ i, (X i).mg x = none) (hv : bootBuiltins x = some (.builtin id)) (ha : DA z K X (e :: es) et) (hn : x ≠ "__name__" := by decide) (hdb : (x == ("__debug__" : Str)) = false := by decide)
    (he : ∀ i, starEach (e :: es) (X i).env = (false, eval e (X i).env) :: starEach es (X i).env := by intro _; rfl) (hpl : ∀ i, (backTo pos (starEach es (X i).env)).any (·.1) = false := by intro _; rfl) : DE z K X (.Call (.Name x p) (e :: es) [] pos) (dCall dr et) := by
  obtain ⟨t, pa, v⟩ := ha
  exact ⟨_, fun i => pe_callB (hc i) (hg i) (hm i) hv (pa i) hn hdb (he i) (hpl i), ve_cb ro v⟩
theorem de_callTy {T : String} {x : Str} {p : Pos} {r : List V → Hp → VK → Prop} {dr : List Dt → (Dt → Prop) → Prop} (hc : ∀ i, CallR (X i) (.type T) r) (ro : RcOk K r dr) (hg : ∀ i, Gl (X i) x) (hm : ∀ i, (X i).mg x = none) (hv : bootBuiltins x = some (.type T)) (ha : DA z K X (e :: es) et) (hn : x ≠ "__name__" := by decide) (hdb : (x == ("__debug__" : Str)) = false := by decide)
    (he : ∀ i, starEach (e :: es) (X i).env = (false, eval e (X i).env) :: starEach es (X i).env := by intro _; rfl) (hpl : ∀ i, (backTo pos (starEach es (X i).env)).any (·.1) = false := by intro _; rfl) : DE z K X (.Call (.Name x p) (e :: es) [] pos) (dCall dr et) := by
  obtain ⟨t, pa, v⟩ := ha
  exact ⟨_, fun i => pe_callTy (hc i) (hg i) (hm i) hv (pa i) hn hdb (he i) (hpl i), ve_cb ro v⟩
/-! ### subscripts, slices -/
theorem de_ix {r : R2} {dr : Dt → Dt → (Dt → Prop) → Prop} (hr : ∀ i, IxR (X i) r) (ro : ROk K r dr) (ha : DE z K X a ea) (hb : DE z K X b eb) (hs : PlainIx b) : DE z K X (.Subscript a b pos) (dOp dr ea eb) := by
  obtain ⟨ta, pa, va⟩ := ha
  obtain ⟨tb, pb, vb⟩ := hb
  exact ⟨_, fun i => pe_ix (hr i) (pa i) (pb i) hs, ve_op ro va vb⟩
end
end Dl
set_option maxHeartbeats 1000000
namespace Dl
open PySem PySem.Spec PyProof.Rows L2 Lcn Sq
/-! ### values: arithmetic -/
section
variable {K : PySem.W.Frag} {X : Cx}
theorem ro_I0 {g : Int → Int → V} {dg : Int → Int → Dt} (h : ∀ (av : Addr → Prop) (H : Hp) i j, Rep K av H (g i j) (dg i j)) : ROk K (rI0 g) (fun x y Q => ∃ i j, x = .int i ∧ y = .int j ∧ Q (dg i j)) := by
  intro av H x y dx dy Q Qd al rx ry d q
  obtain ⟨i, j, rfl, rfl, d⟩ := d
  exact ⟨i, j, rx.int_inv, ry.int_inv, q _ _ H (Same.refl H) (h av H i j) d⟩
theorem ro_I {c : Int → Int → Prop} {g : Int → Int → V} {dg : Int → Int → Dt} (h : ∀ (av : Addr → Prop) (H : Hp) i j, Rep K av H (g i j) (dg i j)) : ROk K (rI c g) (fun x y Q => ∃ i j, x = .int i ∧ y = .int j ∧ c i j ∧ Q (dg i j)) := by
  intro av H x y dx dy Q Qd al rx ry d q
  obtain ⟨i, j, rfl, rfl, hc, d⟩ := d
  exact ⟨i, j, rx.int_inv, ry.int_inv, hc, q _ _ H (Same.refl H) (h av H i j) d⟩
/-- a + b -/
def dAdd (x y : Dt) (Q : Dt → Prop) : Prop := match x, y with
  | .int i, .int j => Q (.int (i + j))
  | .str s, .str t => s.length + t.length ≤ sizeLine ∧ Q (.str (s ++ t))
  | .tup a, .tup b => a.length + b.length ≤ sizeLine ∧ Q (.tup (a ++ b))
  | .lst a, .lst b => a.length + b.length ≤ sizeLine ∧ Q (.lst (a ++ b))
  | _, _ => False
def rAddAll (K : PySem.W.Frag) : R2 := fun x y H Q => (rI0 (fun i j => .int (i + j)) x y H Q ∨ (fun x y H Q => ∃ i j, x = .str i ∧ y = .str j ∧ i.length + j.length ≤ sizeLine ∧ Q (.str (i ++ j)) H : R2) x y H Q) ∨ (rCatA K x y H Q ∨ rCat x y H Q)
theorem op_addAll (hK : X.K = K) : OpR X (binaryOp .Add) (rAddAll K) := by
  subst hK
  exact (op_add.or op_add_str).or (op_catA.or op_cat)
theorem ro_add : ROk K (rAddAll K) dAdd := by
  intro av H x y dx dy Q Qd al rx ry d q
  unfold dAdd at d
  split at d
  · exact .inl (.inl ⟨_, _, rx.int_inv, ry.int_inv, q _ _ H (Same.refl H) (.int _) d⟩)
  · exact .inl (.inr ⟨_, _, rx.str_inv, ry.str_inv, d.1, q _ _ H (Same.refl H) (.str _) d.2⟩)
  · obtain ⟨a, xs, rfl, hx, lx⟩ := rx.tup_inv
    obtain ⟨b, ys, rfl, hy, ly⟩ := ry.tup_inv
    refine .inr (.inl ⟨a, b, xs, ys, rfl, rfl, hx.sq, hy.sq, by rw [lx.l, ly.l]; exact d.1, fun e => ?_, fun _ e => ?_, fun _ _ p hp => q _ _ _ (same_new hp) (rep_newT al hp (lx.append ly)) d.2⟩)
    · have := (lx.append ly)
      refine q _ _ H (Same.refl H) ?_ d.2
      subst e
      exact .tup hy this.l this.f
    · have := (lx.append ly)
      refine q _ _ H (Same.refl H) ?_ d.2
      subst e
      rw [List.append_nil] at this
      exact .tup hx this.l this.f
  · obtain ⟨a, xs, rfl, hx, lx⟩ := rx.lst_inv
    obtain ⟨b, ys, rfl, hy, ly⟩ := ry.lst_inv
    exact .inr (.inr ⟨a, b, xs, ys, rfl, rfl, hx.2, hy.2, by rw [lx.l, ly.l]; exact d.1, fun p hp => q _ _ _ (same_new hp) (rep_newL al hp (lx.append ly)) d.2⟩)
  · exact d.elim
/-- ints alone -/
def dI (c : Int → Int → Prop) (g : Int → Int → Dt) (x y : Dt) (Q : Dt → Prop) : Prop := match x, y with
  | .int i, .int j => c i j ∧ Q (g i j)
  | _, _ => False
theorem ro_dI {c : Int → Int → Prop} {g : Int → Int → V} {dg : Int → Int → Dt} (h : ∀ (av : Addr → Prop) (H : Hp) i j, Rep K av H (g i j) (dg i j)) : ROk K (rI c g) (dI c dg) := (ro_I h).imp fun x y Q d => by
  unfold dI at d
  split at d
  · exact ⟨_, _, rfl, rfl, d.1, d.2⟩
  · exact d.elim
def dI0 (g : Int → Int → Dt) (x y : Dt) (Q : Dt → Prop) : Prop := match x, y with
  | .int i, .int j => Q (g i j)
  | _, _ => False
theorem ro_dI0 {g : Int → Int → V} {dg : Int → Int → Dt} (h : ∀ (av : Addr → Prop) (H : Hp) i j, Rep K av H (g i j) (dg i j)) : ROk K (rI0 g) (dI0 dg) := (ro_I0 h).imp fun x y Q d => by
  unfold dI0 at d
  split at d
  · exact ⟨_, _, rfl, rfl, d⟩
  · exact d.elim
/-- a * b: ints, a list or a tuple so many times -/
def dMul (x y : Dt) (Q : Dt → Prop) : Prop := match x, y with
  | .int i, .int j => CMulW i j ∧ Q (.int (i * j))
  | .lst a, .int k => -(2 ^ 63) ≤ k ∧ k < 2 ^ 63 ∧ a.length * k.toNat ≤ sizeLine ∧ Q (.lst (List.replicate k.toNat a).flatten)
  | _, _ => False
def rMulAll : R2 := fun x y H Q => rI CMulW (fun i j => .int (i * j)) x y H Q ∨ rRep x y H Q
theorem op_mulAll : OpR X (binaryOp .Mult) rMulAll := op_mulW.or op_rep
theorem repl_flat {av : Addr → Prop} {H : Hp} {xs : List V} {ds : List Dt} (h : RepL K av H xs ds) : ∀ n : Nat, RepL K av H (List.replicate n xs).flatten (List.replicate n ds).flatten
  | 0 => .nil
  | n + 1 => by
    rw [List.replicate_succ, List.replicate_succ, List.flatten_cons, List.flatten_cons]
    exact h.append (repl_flat h n)
theorem ro_mul : ROk K rMulAll dMul := by
  intro av H x y dx dy Q Qd al rx ry d q
  unfold dMul at d
  split at d
  · exact .inl ⟨_, _, rx.int_inv, ry.int_inv, d.1, q _ _ H (Same.refl H) (.int _) d.2⟩
  · obtain ⟨a, xs, rfl, hx, lx⟩ := rx.lst_inv
    exact .inr ⟨a, _, xs, rfl, ry.int_inv, hx.2, d.1, d.2.1, by rw [lx.l]; exact d.2.2.1, fun p hp => q _ _ _ (same_new hp) (rep_newL al hp (repl_flat lx _)) d.2.2.2⟩
  · exact d.elim
end
/-! ### equality of data -/
mutual
def py : Dt → PyData
  | .non => .none
  | .bl b => .bool b
  | .int i => .int i
  | .str s => .str s
  | .lst xs => .list (pyL xs)
  | .tup xs => .tuple (pyL xs)
  | .ins _ _ => .none
  | .dk _ => .none
  | .dt _ => .none
def pyL : List Dt → List PyData
  | [] => []
  | x :: r => py x :: pyL r
end
mutual
/-- data that == tells by value: no instances -/
def okD : Dt → Bool
  | .ins _ _ => false
  | .dk _ => false
  | .dt _ => false
  | .lst xs => okL xs
  | .tup xs => okL xs
  | .str s => PyData.strOk s
  | _ => true
def okL : List Dt → Bool
  | [] => true
  | x :: r => okD x && okL r
end
mutual
theorem lay_py : ∀ d : Dt, okD d = true → (py d).canLay0 = true
  | .non, _ => by simp [py, PyData.canLay0]
  | .bl b, _ => by simp [py, PyData.canLay0]
  | .int i, _ => by simp [py, PyData.canLay0]
  | .str s, h => by simpa [py, PyData.canLay0, okD] using h
  | .lst xs, h => by
    rw [py, PyData.canLay0]
    exact lay_pyL xs (by simpa [okD] using h)
  | .tup xs, h => by
    rw [py, PyData.canLay0]
    exact lay_pyL xs (by simpa [okD] using h)
  | .ins _ _, h => by simp [okD] at h
  | .dk _, h => by simp [okD] at h
  | .dt _, h => by simp [okD] at h
theorem lay_pyL : ∀ ds : List Dt, okL ds = true → PyData.canLayAll0 (pyL ds) = true
  | [], _ => by simp [pyL, PyData.canLayAll0]
  | d :: r, h => by
    rw [okL, Bool.and_eq_true] at h
    rw [pyL, PyData.canLayAll0, lay_py d h.1, lay_pyL r h.2]
    rfl
end
section
variable {K : PySem.W.Frag} {av : Addr → Prop} {H : Hp}
mutual
theorem dp_of : ∀ (d : Dt) (v : V), okD d = true → Rep K av H v d → Dp K H v (py d)
  | .non, v, _, r => by cases r; exact .non
  | .bl b, v, _, r => by cases r; exact .bl b
  | .int i, v, _, r => by cases r; exact .int i
  | .str s, v, _, r => by cases r; exact .str s
  | .lst ds, v, o, r => by
    obtain ⟨a, xs, rfl, h, l⟩ := r.lst_inv
    rw [py]
    exact .lst h.sq (dp_ofL ds xs (by simpa [okD] using o) l)
  | .tup ds, v, o, r => by
    obtain ⟨a, xs, rfl, h, l⟩ := r.tup_inv
    rw [py]
    exact .tup h.sq (dp_ofL ds xs (by simpa [okD] using o) l)
  | .ins _ _, v, o, _ => by simp [okD] at o
  | .dk _, v, o, _ => by simp [okD] at o
  | .dt _, v, o, _ => by simp [okD] at o
theorem dp_ofL : ∀ (ds : List Dt) (xs : List V), okL ds = true → RepL K av H xs ds → DpAll K H xs (pyL ds)
  | [], xs, _, r => by
    have := r.l
    cases xs with
    | nil => rw [pyL]; exact .nil
    | cons => simp at this
  | d :: ds, xs, o, r => by
    have := r.l
    cases xs with
    | nil => simp at this
    | cons x xs =>
      rw [okL, Bool.and_eq_true] at o
      rw [pyL]
      exact .cons (dp_of d x o.1 r.head.1) (dp_ofL ds xs o.2 r.head.2)
end
end
/-- no data below 64 deep -/
def shD (d : Dt) : Bool := okD d && decide ((py d).depth ≤ 64)
theorem sh_py {d : Dt} (h : shD d = true) : SeqAt.shaped (py d) = true ∧ okD d = true := by
  unfold shD at h
  rw [Bool.and_eq_true] at h
  refine ⟨?_, h.1⟩
  unfold SeqAt.shaped
  rw [lay_py d h.1, h.2]
  rfl
def eqD (x y : Dt) : Bool := PyData.eqv (py x) (py y)
@[irreducible] def dEq (neg : Bool) (x y : Dt) (Q : Dt → Prop) : Prop := shD x = true ∧ shD y = true ∧ Q (.bl (if neg then !eqD x y else eqD x y))
section
variable {K : PySem.W.Frag} {X : Cx}
theorem ro_eq : ROk K (rEqD K) (dEq false) := fun av H x y dx dy Q Qd al rx ry d q => by
  unfold dEq at d
  obtain ⟨h1, h2, d⟩ := d
  exact ⟨_, _, dp_of dx x (sh_py h1).2 rx, dp_of dy y (sh_py h2).2 ry, (sh_py h1).1, (sh_py h2).1, q _ _ H (Same.refl H) (.bl _) d⟩
theorem ro_ne : ROk K (rNeD K) (dEq true) := fun av H x y dx dy Q Qd al rx ry d q => by
  unfold dEq at d
  obtain ⟨h1, h2, d⟩ := d
  exact ⟨_, _, dp_of dx x (sh_py h1).2 rx, dp_of dy y (sh_py h2).2 ry, (sh_py h1).1, (sh_py h2).1, q _ _ H (Same.refl H) (.bl _) d⟩
theorem op_eqK (hK : X.K = K) (hu : X.A.units + 64 < cLine) : OpR X (compareOp .Eq) (rEqD K) := hK ▸ op_eqD hu
theorem op_neK (hK : X.K = K) (hu : X.A.units + 64 < cLine) : OpR X (compareOp .NotEq) (rNeD K) := hK ▸ op_neD hu
/-- is None -/
def dIsN (neg : Bool) (x y : Dt) (Q : Dt → Prop) : Prop := y = .non ∧ Q (.bl (match x with
  | .non => !neg
  | _ => neg))
theorem rep_non {av : Addr → Prop} {H : Hp} {x : V} {d : Dt} (r : Rep K av H x d) : decide (x = .non) = (match d with
  | .non => true
  | _ => false) := by
  cases r <;> simp
theorem ro_isN : ROk K (fun x y H Q => y = .non ∧ Q (.bl (decide (x = .non))) H) (dIsN false) := fun av H x y dx dy Q Qd al rx ry d q => by
  obtain ⟨rfl, d⟩ := d
  refine ⟨ry.non_inv, q _ _ H (Same.refl H) (.bl _) ?_⟩
  rw [rep_non rx]
  cases dx <;> exact d
theorem ro_notN : ROk K (fun x y H Q => y = .non ∧ Q (.bl (!decide (x = .non))) H) (dIsN true) := fun av H x y dx dy Q Qd al rx ry d q => by
  obtain ⟨rfl, d⟩ := d
  refine ⟨ry.non_inv, q _ _ H (Same.refl H) (.bl _) ?_⟩
  rw [rep_non rx]
  cases dx <;> exact d
/-! ### x in xs -/
theorem rep_flatV {av : Addr → Prop} {H : Hp} {x : V} {d : Dt} (r : Rep K av H x d) (h : d.flat = true) : flatV x = true := by
  cases r with
  | non => rfl
  | bl b => rfl
  | int i => rfl
  | str s => rfl
  | lst => cases h
  | tup => cases h
  | ins => cases h
  | dk => cases h
  | dt => cases h
end
end Dl
set_option maxHeartbeats 1000000
namespace Dl
open PySem PySem.Spec PyProof.Rows L2 Lcn Sq
section
variable {K : PySem.W.Frag} {X : Cx}
/-! ### x in xs -/
def flV : Dt → V
  | .bl b => .bl b
  | .int i => .int i
  | .str s => .str s
  | _ => .non
theorem rep_flV {av : Addr → Prop} {H : Hp} {x : V} {d : Dt} (r : Rep K av H x d) (h : d.flat = true) : x = flV d := by
  cases r with
  | non => rfl
  | bl b => rfl
  | int i => rfl
  | str s => rfl
  | lst => cases h
  | tup => cases h
  | ins => cases h
  | dk => cases h
  | dt => cases h
theorem eqV_flat {d e : Dt} (hd : d.flat = true) (he : e.flat = true) : eqV (flV d) (flV e) = eqD d e := by
  cases d <;> cases e <;> first | (simp [Dt.flat] at hd; done) | (simp [Dt.flat] at he; done) | (simp [flV, eqV, eqD, py, PyData.eqv])
theorem repl_flV {av : Addr → Prop} {H : Hp} : ∀ {xs : List V} {ds : List Dt}, RepL K av H xs ds → ds.all Dt.flat = true → xs = ds.map flV
  | [], [], _, _ => rfl
  | [], _ :: _, r, _ => by have := r.l; simp at this
  | _ :: _, [], r, _ => by have := r.l; simp at this
  | x :: xs, d :: ds, r, h => by
    rw [List.all_cons, Bool.and_eq_true] at h
    rw [List.map_cons, ← rep_flV r.head.1 h.1, ← repl_flV r.head.2 h.2]
def anyEq (d : Dt) (ds : List Dt) : Bool := ds.any fun z => eqD z d
theorem anyEq_flat {d : Dt} (hd : d.flat = true) : ∀ ds : List Dt, ds.all Dt.flat = true → inV (flV d) (ds.map flV) = anyEq d ds
  | [], _ => rfl
  | e :: ds, h => by
    rw [List.all_cons, Bool.and_eq_true] at h
    have ih := anyEq_flat hd ds h.2
    unfold inV anyEq at *
    rw [List.map_cons, List.any_cons, List.any_cons, ih, eqV_flat h.1 hd]
theorem all_flatV : ∀ ds : List Dt, ds.all Dt.flat = true → (ds.map flV).all flatV = true
  | [], _ => rfl
  | e :: ds, h => by
    rw [List.all_cons, Bool.and_eq_true] at h
    rw [List.map_cons, List.all_cons, all_flatV ds h.2, Bool.and_true]
    cases e <;> first | rfl | cases h.1
theorem anyEq_py (d : Dt) (ds : List Dt) : ((pyL ds).any fun z => PyData.eqv z (py d)) = anyEq d ds := by
  induction ds with
  | nil => rfl
  | cons e r ih =>
    unfold anyEq at *
    rw [pyL, List.any_cons, List.any_cons, ih]
    rfl
@[irreducible] def dIn (neg : Bool) (x y : Dt) (Q : Dt → Prop) : Prop := match y with
  | .lst ds => shD x = true ∧ shD (.lst ds) = true ∧ Q (.bl (if neg then !anyEq x ds else anyEq x ds))
  | .tup ds => x.flat = true ∧ ds.all Dt.flat = true ∧ Q (.bl (if neg then !anyEq x ds else anyEq x ds))
  | .str z => ∃ c, x = .str ⟨#[c]⟩ ∧ Q (.bl (if neg then !decide (c ∈ z.cps.toList) else decide (c ∈ z.cps.toList)))
  | _ => False
def rInAll (K : PySem.W.Frag) : R2 := fun x y H Q => (rInD K x y H Q ∨ rIn K false x y H Q) ∨ (fun x y H Q => ∃ (c : Nat) (z : Str), x = .str ⟨#[c]⟩ ∧ y = .str z ∧ Q (.bl (decide (c ∈ z.cps.toList))) H : R2) x y H Q
def rNotInAll (K : PySem.W.Frag) : R2 := fun x y H Q => (rNotInD K x y H Q ∨ rIn K true x y H Q) ∨ (fun x y H Q => ∃ (c : Nat) (z : Str), x = .str ⟨#[c]⟩ ∧ y = .str z ∧ Q (.bl (!decide (c ∈ z.cps.toList))) H : R2) x y H Q
theorem op_inAll (hK : X.K = K) (hu : X.A.units + 65 < cLine) : OpR X (compareOp .In) (rInAll K) := by
  subst hK
  exact ((op_inD hu).or op_in_seq).or op_in_sign
theorem op_notInAll (hK : X.K = K) (hu : X.A.units + 65 < cLine) : OpR X (compareOp .NotIn) (rNotInAll K) := by
  subst hK
  exact ((op_notInD hu).or op_notIn_seq).or op_notIn_sign
theorem ro_in : ROk K (rInAll K) (dIn false) := fun av H x y dx dy Q Qd al rx ry d q => by
  unfold dIn at d
  split at d
  · obtain ⟨h1, h2, d⟩ := d
    have e := dp_of _ y (sh_py h2).2 ry
    have s := (sh_py h2).1
    rw [py] at e s
    refine .inl (.inl ⟨_, _, dp_of dx x (sh_py h1).2 rx, e, (sh_py h1).1, s, q _ _ H (Same.refl H) (.bl _) ?_⟩)
    rw [anyEq_py]
    exact d
  · obtain ⟨h1, h2, d⟩ := d
    obtain ⟨a, xs, rfl, hx, lx⟩ := ry.tup_inv
    refine .inl (.inr ⟨a, xs, rfl, .inr hx.sq, rep_flatV rx h1, by rw [repl_flV lx h2]; exact all_flatV _ h2, ?_⟩)
    rw [rep_flV rx h1, repl_flV lx h2, anyEq_flat h1 _ h2]
    exact q _ _ H (Same.refl H) (.bl _) d
  · obtain ⟨c, rfl, d⟩ := d
    exact .inr ⟨c, _, rx.str_inv, ry.str_inv, q _ _ H (Same.refl H) (.bl _) d⟩
  · exact d.elim
theorem ro_notIn : ROk K (rNotInAll K) (dIn true) := fun av H x y dx dy Q Qd al rx ry d q => by
  unfold dIn at d
  split at d
  · obtain ⟨h1, h2, d⟩ := d
    have e := dp_of _ y (sh_py h2).2 ry
    have s := (sh_py h2).1
    rw [py] at e s
    refine .inl (.inl ⟨_, _, dp_of dx x (sh_py h1).2 rx, e, (sh_py h1).1, s, q _ _ H (Same.refl H) (.bl _) ?_⟩)
    rw [anyEq_py]
    exact d
  · obtain ⟨h1, h2, d⟩ := d
    obtain ⟨a, xs, rfl, hx, lx⟩ := ry.tup_inv
    refine .inl (.inr ⟨a, xs, rfl, .inr hx.sq, rep_flatV rx h1, by rw [repl_flV lx h2]; exact all_flatV _ h2, ?_⟩)
    rw [rep_flV rx h1, repl_flV lx h2, anyEq_flat h1 _ h2]
    exact q _ _ H (Same.refl H) (.bl _) d
  · obtain ⟨c, rfl, d⟩ := d
    exact .inr ⟨c, _, rx.str_inv, ry.str_inv, q _ _ H (Same.refl H) (.bl _) d⟩
  · exact d.elim
/-! ### xs[i] -/
def dIx (x y : Dt) (Q : Dt → Prop) : Prop := match x, y with
  | .lst ds, .int i => ∃ d, atI ds i = some d ∧ Q d
  | .tup ds, .int i => ∃ d, atI ds i = some d ∧ Q d
  | .str z, .int i => z.length ≤ sizeLine ∧ ∃ c, atI z.cps.toList i = some c ∧ Q (.str ⟨#[c]⟩)
  | _, _ => False
theorem repl_at {av : Addr → Prop} {H : Hp} {xs : List V} {ds : List Dt} (r : RepL K av H xs ds) {i : Int} {d : Dt} (h : atI ds i = some d) : ∃ x, atI xs i = some x ∧ Rep K av H x d := by
  unfold atI at h ⊢
  rw [r.l]
  cases e : ixN ds.length i with
  | none => rw [e] at h; cases h
  | some j =>
    rw [e] at h
    exact r.get h
theorem ro_ix : ROk K (rIx K) dIx := fun av H x y dx dy Q Qd al rx ry d q => by
  unfold dIx at d
  split at d
  · obtain ⟨e, h, d⟩ := d
    obtain ⟨a, xs, rfl, hx, lx⟩ := rx.lst_inv
    obtain ⟨v, hv, rv⟩ := repl_at lx h
    exact .inl ⟨a, xs, _, v, rfl, ry.int_inv, hx.sq, hv, q _ _ H (Same.refl H) rv d⟩
  · obtain ⟨e, h, d⟩ := d
    obtain ⟨a, xs, rfl, hx, lx⟩ := rx.tup_inv
    obtain ⟨v, hv, rv⟩ := repl_at lx h
    exact .inr (.inl ⟨a, xs, _, v, rfl, ry.int_inv, hx.sq, hv, q _ _ H (Same.refl H) rv d⟩)
  · obtain ⟨hz, c, h, d⟩ := d
    exact .inr (.inr ⟨_, _, c, rx.str_inv, ry.int_inv, hz, h, q _ _ H (Same.refl H) (.str _) d⟩)
  · exact d.elim
theorem ix_all (hK : X.K = K) : IxR X (rIx K) := hK ▸ ix_seq
/-! ### slices -/
def cutD (xs : List Dt) (lo hi : Option Int) : List Dt := (xs.drop (HT.sIx xs.length 0 lo)).take (HT.sIx xs.length xs.length hi - HT.sIx xs.length 0 lo)
theorem repl_cut {av : Addr → Prop} {H : Hp} {xs : List V} {ds : List Dt} (r : RepL K av H xs ds) (lo hi : Option Int) : RepL K av H (cutV xs lo hi) (cutD ds lo hi) := by
  unfold cutV cutD
  rw [r.l]
  exact (r.drop _).take _
def dSl (x : Dt) (lo hi : Option Int) (Q : Dt → Prop) : Prop := match x with
  | .lst ds => Q (.lst (cutD ds lo hi))
  | .tup ds => Q (.tup (cutD ds lo hi))
  | .str z => z.length ≤ sizeLine ∧ Q (.str (cutS z lo hi))
  | _ => False
def rSlAll (K : PySem.W.Frag) : V → Option Int → Option Int → Hp → VK → Prop := fun x lo hi H Q => (rSlL K x lo hi H Q ∨ rSlA K x lo hi H Q) ∨ rSlS x lo hi H Q
theorem sl_all (hK : X.K = K) : SlR X (rSlAll K) := by
  subst hK
  exact (sl_list.or sl_tupA).or sl_str
theorem rs_all {av : Addr → Prop} {H : Hp} {x : V} {dx : Dt} {lo hi : Option Int} {Q : VK} {Qd : Dt → Prop} (al : Al av H) (rx : Rep K av H x dx) (d : dSl dx lo hi Qd) (q : ∀ v d H', Same H H' → Rep K av H' v d → Qd d → Q v H') : rSlAll K x lo hi H Q := by
  unfold dSl at d
  split at d
  · obtain ⟨a, xs, rfl, hx, lx⟩ := rx.lst_inv
    exact .inl (.inl ⟨a, xs, rfl, hx.sq, fun p hp => q _ _ _ (same_new hp) (rep_newL al hp (repl_cut lx lo hi)) d⟩)
  · obtain ⟨a, xs, rfl, hx, lx⟩ := rx.tup_inv
    refine .inl (.inr ⟨a, xs, rfl, hx.sq, fun e => q _ _ H (Same.refl H) ?_ d, fun _ p hp => q _ _ _ (same_new hp) (rep_newT al hp (repl_cut lx lo hi)) d⟩)
    have e2 : cutV xs lo hi = xs := by
      unfold cutV
      rw [e.1, e.2]
      simp
    have r := repl_cut lx lo hi
    rw [e2] at r
    exact .tup hx r.l r.f
  · exact .inr ⟨_, rx.str_inv, d.1, q _ _ H (Same.refl H) (.str _) d.2⟩
  · exact d.elim
end
abbrev EvO := List Sl → (Option Int → Prop) → Prop
def VO (K : PySem.W.Frag) (te : TO) (ev : EvO) : Prop := ∀ (C : Ctx) (σ : L2.St) (δ : List Sl) (H : Hp) (Q : Option Int → Hp → Prop) (Qd : Option Int → Prop), C.K = K → Sok C H σ δ → ev δ Qd → (∀ o H', Stp C.S H H' → Qd o → Q o H') → te σ H Q
def DO {ι : Type} (K : PySem.W.Frag) (X : ι → Cx) (e : Option Expr) (ev : EvO) : Prop := ∃ te, (∀ i, PO (X i) e te) ∧ VO K te ev
section
variable {ι : Type} {K : PySem.W.Frag} {X : ι → Cx} {z : Bool} {pos p2 : Pos} {a b c e : Expr} {es : List Expr} {ea eb ec : EvE} {et : EvA} {lo hi : Option Expr} {el eh : EvO}
def dNoO : EvO := fun _ Q => Q none
def dSoO (ea : EvE) : EvO := fun δ Q => ea δ fun d => ∃ i, d = .int i ∧ Q (some i)
theorem do_none : DO K X none dNoO := ⟨_, fun _ => po_none, fun C σ δ H Q Qd k s e q => q none H (Stp.refl H) e⟩
theorem do_some (h : DE false K X a ea) : DO K X (some a) (dSoO ea) := by
  obtain ⟨t, p, v⟩ := h
  refine ⟨_, fun i => po_some (p i), fun C σ δ H Q Qd k s e q => ?_⟩
  refine v C σ δ H _ _ k s e fun x d H1 e1 r1 e => ?_
  obtain ⟨i, rfl, e⟩ := e
  exact ⟨i, r1.int_inv, q _ H1 e1 e⟩
def dSlE (ea : EvE) (el eh : EvO) : EvE := fun δ Q => ea δ fun x => el δ fun l => eh δ fun h => dSl x l h Q
theorem de_slice (ha : DE z K X a ea) (hl : DO K X lo el) (hh : DO K X hi eh) (hK : ∀ i, (X i).K = K := by intro _; rfl) : DE z K X (.Subscript a (.Slice lo hi none p2) pos) (dSlE ea el eh) := by
  obtain ⟨ta, pa, va⟩ := ha
  obtain ⟨tl, pl, vl⟩ := hl
  obtain ⟨th, ph, vh⟩ := hh
  refine ⟨_, fun i => pe_slice (sl_all (hK i)) (pa i) (pl i) (ph i), fun C σ δ H Q Qd k s e q => ?_⟩
  refine va C σ δ H _ _ k s e fun x dx H1 e1 r1 e => ?_
  refine vl C σ δ H1 _ _ k (s.step e1) e fun l H2 e2 e => ?_
  refine vh C σ δ H2 _ _ k ((s.step e1).step e2) e fun h H3 e3 e => ?_
  have s3 := ((s.step e1).step e2).step e3
  refine rs_all s3.al ?_ e fun v d H4 e4 r4 qd => q v d H4 (((e1.trans e2).trans e3).trans (Stp.of e4)) r4 qd
  subst k
  exact rep_st ((s.step e1).step e2) e3 (rep_st (s.step e1) e2 r1)
/-- an item of a list that may be an own one -/
def dIxO (i : Nat) (eb : EvE) : EvE := fun δ Q => match δ[i]? with
  | some (.own _ (.l ds)) => eb δ fun d => ∃ j x, d = .int j ∧ atI ds j = some x ∧ Q x
  | some (.val x) => eb δ fun y => dIx x y Q
  | _ => False
theorem de_ixO {i : Nat} {x : Str} {pos2 : Pos} (p : ∀ j, PE (X j) (.Name x pos2) (tVar i)) (hb : DE true K X b eb) (hs : PlainIx b) (hK : ∀ i, (X i).K = K := by intro _; rfl) : DE true K X (.Subscript (.Name x pos2) b pos) (dIxO i eb) := by
  obtain ⟨tb, pb, vb⟩ := hb
  refine ⟨_, fun j => pe_ix (ix_all (hK j)) (p j) (pb j) hs, fun C σ δ H Q Qd k s e q => ?_⟩
  subst k
  unfold dIxO at e
  split at e
  · rename_i a ds h
    obtain ⟨h1, _, h3, xs, h5, h6⟩ := s.lstAt h
    refine ⟨.ref a, h1, vb C σ δ H _ _ rfl s e fun y dy H1 e1 r1 e => ?_⟩
    obtain ⟨j, x, rfl, hx, e⟩ := e
    obtain ⟨_, _, _, ys, h7, h8⟩ := (s.step e1).lstAt h
    obtain ⟨v, hv, rv⟩ := repl_at h8 hx
    exact .inl ⟨a, ys, j, v, rfl, r1.int_inv, SqL.of h7, hv, q v x H1 e1 rv e⟩
  · rename_i d h
    obtain ⟨v, h1, h2⟩ := s.sl i _ h
    refine ⟨v, h1, vb C σ δ H _ _ rfl s e fun y dy H1 e1 r1 e => ?_⟩
    exact ro_ix (Zd C δ) H1 v y d dy Q Qd (s.step e1).alz (rep_step s e1 h2) r1 e fun v d H2 e2 r2 qd => q v d H2 (e1.trans (Stp.of e2)) r2 qd
  · exact e.elim
theorem de_ixA (ha : DE z K X a ea) (hb : DE z K X b eb) (hs : PlainIx b) (hK : ∀ i, (X i).K = K := by intro _; rfl) : DE z K X (.Subscript a b pos) (dOp dIx ea eb) := de_ix (fun i => ix_all (hK i)) ro_ix ha hb hs
theorem de_add (ha : DE z K X a ea) (hb : DE z K X b eb) (hK : ∀ i, (X i).K = K := by intro _; rfl) : DE z K X (.BinOp a .Add b pos) (dOp dAdd ea eb) := de_op (fun i => op_addAll (hK i)) ro_add ha hb
theorem de_mul (ha : DE z K X a ea) (hb : DE z K X b eb) : DE z K X (.BinOp a .Mult b pos) (dOp dMul ea eb) := de_op (fun i => op_mulAll) ro_mul ha hb
theorem de_sub (ha : DE z K X a ea) (hb : DE z K X b eb) : DE z K X (.BinOp a .Sub b pos) (dOp (dI0 fun i j => .int (i - j)) ea eb) := de_op (fun i => op_sub) (ro_dI0 fun _ _ _ _ => .int _) ha hb
theorem de_fdiv (ha : DE z K X a ea) (hb : DE z K X b eb) : DE z K X (.BinOp a .FloorDiv b pos) (dOp (dI CDivW fun i j => .int (i / j)) ea eb) := de_op (fun i => op_fdivW) (ro_dI fun _ _ _ _ => .int _) ha hb
theorem de_mod (ha : DE z K X a ea) (hb : DE z K X b eb) : DE z K X (.BinOp a .Mod b pos) (dOp (dI (fun _ j => 0 < j) fun i j => .int (i % j)) ea eb) := de_op (fun i => op_mod) (ro_dI fun _ _ _ _ => .int _) ha hb
theorem de_pow (ha : DE z K X a ea) (hb : DE z K X b eb) : DE z K X (.BinOp a .Pow b pos) (dOp (dI CPow fun i j => .int (i ^ j.toNat)) ea eb) := de_op (fun i => op_pow) (ro_dI fun _ _ _ _ => .int _) ha hb
/-! comparisons: the rules of an operator -/
structure CmpD {ι : Type} (K : PySem.W.Frag) (X : ι → Cx) (op : CmpOp) (dr : Dt → Dt → (Dt → Prop) → Prop) : Prop where
  ex : ∃ r, (∀ i, OpR (X i) (compareOp op) r) ∧ ROk K r dr
theorem cd_lt : CmpD K X .Lt (dI0 fun i j => .bl (decide (i < j))) := ⟨_, fun _ => op_lt, ro_dI0 fun _ _ _ _ => .bl _⟩
theorem cd_le : CmpD K X .LtE (dI0 fun i j => .bl (decide (i ≤ j))) := ⟨_, fun _ => op_le, ro_dI0 fun _ _ _ _ => .bl _⟩
theorem cd_gt : CmpD K X .Gt (dI0 fun i j => .bl (decide (j < i))) := ⟨_, fun _ => op_gt, ro_dI0 fun _ _ _ _ => .bl _⟩
theorem cd_ge : CmpD K X .GtE (dI0 fun i j => .bl (decide (j ≤ i))) := ⟨_, fun _ => op_ge, ro_dI0 fun _ _ _ _ => .bl _⟩
theorem cd_isN : CmpD K X .Is (dIsN false) := ⟨_, fun _ => op_isN, ro_isN⟩
theorem cd_notN : CmpD K X .IsNot (dIsN true) := ⟨_, fun _ => op_notN, ro_notN⟩
theorem cd_eq (hu : ∀ i, (X i).A.units + 64 < cLine) (hK : ∀ i, (X i).K = K := by intro _; rfl) : CmpD K X .Eq (dEq false) := ⟨_, fun i => op_eqK (hK i) (hu i), ro_eq⟩
theorem cd_ne (hu : ∀ i, (X i).A.units + 64 < cLine) (hK : ∀ i, (X i).K = K := by intro _; rfl) : CmpD K X .NotEq (dEq true) := ⟨_, fun i => op_neK (hK i) (hu i), ro_ne⟩
theorem cd_in (hu : ∀ i, (X i).A.units + 65 < cLine) (hK : ∀ i, (X i).K = K := by intro _; rfl) : CmpD K X .In (dIn false) := ⟨_, fun i => op_inAll (hK i) (hu i), ro_in⟩
theorem cd_notIn (hu : ∀ i, (X i).A.units + 65 < cLine) (hK : ∀ i, (X i).K = K := by intro _; rfl) : CmpD K X .NotIn (dIn true) := ⟨_, fun i => op_notInAll (hK i) (hu i), ro_notIn⟩
theorem de_cmpC {op : CmpOp} {dr : Dt → Dt → (Dt → Prop) → Prop} (c : CmpD K X op dr) (ha : DE z K X a ea) (hb : DE z K X b eb) (hm : behindInMarks op b = false) : DE z K X (.Compare a [op] [b] pos) (dOp dr ea eb) := by
  obtain ⟨r, h1, h2⟩ := c.ex
  exact de_cmp h1 h2 ha hb hm
theorem dt_cmpC {op : CmpOp} {dr : Dt → Dt → (Dt → Prop) → Prop} (c : CmpD K X op dr) (ha : DE false K X a ea) (hb : DE false K X b eb) (hm : behindInMarks op b = false) : DT K X (.Compare a [op] [b] pos) (dTst (dOp dr ea eb)) := by
  obtain ⟨r, h1, h2⟩ := c.ex
  exact dt_cmp h1 h2 ha hb hm
/-- a comparison of things, some of them own, as a value: a bool avoids all -/
theorem de_cmpF {op : CmpOp} {dr : Dt → Dt → (Dt → Prop) → Prop} (c : CmpD K X op dr) (ha : DE false K X a ea) (hb : DE false K X b eb) (hm : behindInMarks op b = false) : DE true K X (.Compare a [op] [b] pos) (fun δ Q => dOp dr ea eb δ fun d => d.flat = true ∧ Q d) := de_flat (de_cmpC c ha hb hm)
/-- a < b < c -/
def dChain (dr dr' : Dt → Dt → (Dt → Prop) → Prop) (ea eb ec : EvE) : EvE := fun δ Q => ea δ fun x => eb δ fun y => dr x y fun w => ∃ k, w = .bl k ∧ if k = true then ec δ fun u => dr' y u Q else Q (.bl false)
theorem ve_chain {r r' : R2} {dr dr' : Dt → Dt → (Dt → Prop) → Prop} {ta tb tc : TE} (h2 : ROk K r dr) (h2' : ROk K r' dr') (va : VE z K ta ea) (vb : VE z K tb eb) (vc : VE z K tc ec) : VE z K (tChain r r' ta tb tc) (dChain dr dr' ea eb ec) := by
  intro C σ δ H Q Qd k s e q
  subst k
  refine va C σ δ H _ _ rfl s e fun x dx H1 e1 r1 e => ?_
  refine vb C σ δ H1 _ _ rfl (s.step e1) e fun y dy H2 e2 r2 e => ?_
  have s2 := (s.step e1).step e2
  refine h2 (Zz z C δ) H2 x y dx dy _ _ s2.al (rep_st (s.step e1) e2 r1) r2 e fun w dw H3 e3 r3 e => ?_
  obtain ⟨k, rfl, e⟩ := e
  have e3' : Stp C.S H2 H3 := Stp.of e3
  have s3 := s2.step e3'
  refine ⟨k, r3.bl_inv, ?_⟩
  cases k
  · exact q _ _ H3 ((e1.trans e2).trans e3') (.bl false) e
  · refine vc C σ δ H3 _ _ rfl s3 e fun u du H4 e4 r4 e => ?_
    have s4 := s3.step e4
    exact h2' (Zz z C δ) H4 y u dy du Q Qd s4.al (rep_st s3 e4 (rep_st s2 e3' r2)) r4 e fun v d H5 e5 r5 qd => q v d H5 ((((e1.trans e2).trans e3').trans e4).trans (Stp.of e5)) r5 qd
theorem de_chainC {op op' : CmpOp} {dr dr' : Dt → Dt → (Dt → Prop) → Prop} (h : CmpD K X op dr) (h' : CmpD K X op' dr') (ha : DE z K X a ea) (hb : DE z K X b eb) (hc : DE z K X c ec) (hm : lastMarks [op, op'] [b, c] = false := by with_unfolding_all rfl) : DE z K X (.Compare a [op, op'] [b, c] pos) (dChain dr dr' ea eb ec) := by
  obtain ⟨r, h1, h2⟩ := h.ex
  obtain ⟨r', h1', h2'⟩ := h'.ex
  obtain ⟨ta, pa, va⟩ := ha
  obtain ⟨tb, pb, vb⟩ := hb
  obtain ⟨tc, pc, vc⟩ := hc
  exact ⟨_, fun i => pe_chain (h1 i) (h1' i) (pa i) (pb i) (pc i) hm, ve_chain h2 h2' va vb vc⟩
theorem dt_chainC {op op' : CmpOp} {dr dr' : Dt → Dt → (Dt → Prop) → Prop} (h : CmpD K X op dr) (h' : CmpD K X op' dr') (ha : DE false K X a ea) (hb : DE false K X b eb) (hc : DE false K X c ec) (hm : lastMarks [op, op'] [b, c] = false := by with_unfolding_all rfl) : DT K X (.Compare a [op, op'] [b, c] pos) (dTst (dChain dr dr' ea eb ec)) := by
  obtain ⟨r, h1, h2⟩ := h.ex
  obtain ⟨r', h1', h2'⟩ := h'.ex
  obtain ⟨ta, pa, va⟩ := ha
  obtain ⟨tb, pb, vb⟩ := hb
  obtain ⟨tc, pc, vc⟩ := hc
  exact ⟨_, fun i => pt_chain (h1 i) (h1' i) (pa i) (pb i) (pc i) hm, vt_tst (ve_chain h2 h2' va vb vc)⟩
end
end Dl
set_option maxHeartbeats 4000000
/-! a, b, .. = a list or a tuple of that length -/
namespace Sq
open PySem PySem.Spec PyProof.Rows L2 Lcn
def gSeq (K : PySem.W.Frag) (n : Nat) (t : TGs) : TG := fun v σ H Q => ∃ a xs, v = .ref a ∧ Sqn K H a xs ∧ xs.length = n ∧ t xs σ H Q
theorem pg_seq {X : Cx} {pos : Pos} {es : List Expr} {k : Nat} {t : TGs} {n : Nat} (hc : X.calm = true) (h : PGs X es t)
    (hn : (assignEach es X.env).length = n := by rfl) (hst : (assignEach es X.env).findIdx? (·.1) = none := by rfl) : PG X (.Tuple es k pos) (gSeq X.K n t) := by
  refine ⟨fun pins s σ H v u Q I r hw => ?_⟩
  obtain ⟨a, xs, e1, hq, hl, hw⟩ := hw
  rcases hq with hq | hq
  · exact (pg_lst (pos := pos) (k := k) hc h hn hst).run pins s σ H v u Q I r ⟨a, xs, e1, hq, hl, hw⟩
  · exact (pg_tup (pos := pos) (k := k) hc h hn hst).run pins s σ H v u Q I r ⟨a, xs, e1, hq, hl, hw⟩
theorem pg_seqK {X : Cx} {K : PySem.W.Frag} {pos : Pos} (hK : X.K = K) {es : List Expr} {k : Nat} {t : TGs} {n : Nat} (hc : X.calm = true) (h : PGs X es t)
    (hn : (assignEach es X.env).length = n := by rfl) (hst : (assignEach es X.env).findIdx? (·.1) = none := by rfl) : PG X (.Tuple es k pos) (gSeq K n t) := hK ▸ pg_seq hc h hn hst
theorem pe_fldK {X : Cx} {K : PySem.W.Frag} (hK : X.K = K) {e : Expr} {f : Str} {pos : Pos} {ta : TE} (he : PE X e ta) (hab : attributeBase e f X.env (eval e X.env) = eval e X.env) : PE X (.Attribute e f pos) (tFld K ta f) := hK ▸ pe_fld he hab
theorem mt_indexK {X : Cx} {K : PySem.W.Frag} (hK : X.K = K) : MtR X "list.index" (rIndex K) := hK ▸ mt_index
theorem pe_bmK {X : Cx} {K : PySem.W.Frag} (hK : X.K = K) {o e : Expr} {es : List Expr} {to : TE} {t : TA} {name : Str} {apos cpos : Pos} {T id : String} {r : V → List V → Hp → VK → Prop} (pa : PlainAttrs T) (slot : Slot T name id) (hty : typeOf (.builtin id) = pure (.type "method_descriptor")) (hm : MtR X id r) (ho : PE X o to) (ha : PA X (e :: es) t)
    (hbase : attributeBase o name X.env (eval o X.env) = eval o X.env := by rfl)
    (hfew : ((backTo cpos (starEach (e :: es) X.env)).all (fun x => !x.1) && (backToKw cpos (keywordEach [] X.env)).all (fun x => x.1.isSome)
      && decide ((e :: es).length + ([] : List Keyword).length + (if ([] : List Keyword).isEmpty then 0 else 1) < 30)) = true := by rfl)
    (hline : (apos.endLine == cpos.line) = true := by rfl) (hs : starEach (e :: es) X.env = (false, eval e X.env) :: starEach es X.env := by rfl) (hplain : (backTo cpos (starEach es X.env)).any (·.1) = false := by rfl) :
    PE X (.Call (.Attribute o name apos) (e :: es) [] cpos) (tBM K T r to t) := hK ▸ pe_bm pa slot hty hm ho ha hbase hfew hline hs hplain
end Sq
set_option maxHeartbeats 1000000
namespace Dl
open PySem PySem.Spec PyProof.Rows L2 Lcn Sq
section
variable {K : PySem.W.Frag} {X : Cx}
/-! ### built-ins by values -/
def dLen (ds : List Dt) (Q : Dt → Prop) : Prop := match ds with
  | [.lst xs] => Q (.int xs.length)
  | [.tup xs] => Q (.int xs.length)
  | [.str z] => z.length ≤ sizeLine ∧ Q (.int z.length)
  | _ => False
def rLenAll (K : PySem.W.Frag) : List V → Hp → VK → Prop := fun xs H Q => (fun xs H Q => ∃ p ys, xs = [V.ref p] ∧ (SqL K H p ys ∨ SqT K H p ys) ∧ Q (.int ys.length) H : List V → Hp → VK → Prop) xs H Q ∨ (fun xs H Q => ∃ z, xs = [V.str z] ∧ z.length ≤ sizeLine ∧ Q (.int z.length) H : List V → Hp → VK → Prop) xs H Q
theorem cr_len (hK : X.K = K) : CallR X (.builtin "len") (rLenAll K) := by
  subst hK
  exact call_len_seq.or call_len_str
theorem repl1 {av : Addr → Prop} {H : Hp} {xs : List V} {d : Dt} (r : RepL K av H xs [d]) : ∃ x, xs = [x] ∧ Rep K av H x d := by
  have := r.l
  match xs, this, r with
  | [x], _, r => exact ⟨x, rfl, r.head.1⟩
theorem rc_len : RcOk K (rLenAll K) dLen := fun av H xs ds Q Qd al r d q => by
  unfold dLen at d
  split at d
  · obtain ⟨x, rfl, rr⟩ := repl1 r
    obtain ⟨a, xs, rfl, hx, lx⟩ := rr.lst_inv
    exact .inl ⟨a, xs, rfl, .inl hx.sq, by rw [lx.l]; exact q _ _ H (Same.refl H) (.int _) d⟩
  · obtain ⟨x, rfl, rr⟩ := repl1 r
    obtain ⟨a, xs, rfl, hx, lx⟩ := rr.tup_inv
    exact .inl ⟨a, xs, rfl, .inr hx.sq, by rw [lx.l]; exact q _ _ H (Same.refl H) (.int _) d⟩
  · obtain ⟨x, rfl, rr⟩ := repl1 r
    exact .inr ⟨_, by rw [rr.str_inv], d.1, q _ _ H (Same.refl H) (.int _) d.2⟩
  · exact d.elim
def dList (ds : List Dt) (Q : Dt → Prop) : Prop := match ds with
  | [.lst xs] => Q (.lst xs)
  | [.tup xs] => Q (.lst xs)
  | _ => False
theorem cr_list (hK : X.K = K) : CallR X (.type "list") (fun xs H Q => ∃ p ys, xs = [.ref p] ∧ (SqL K H p ys ∨ SqT K H p ys) ∧ ∀ l, H l = none → Q (.ref l) (upd H l (.lst ys))) := hK ▸ call_list_of
theorem rc_list : RcOk K (fun xs H Q => ∃ p ys, xs = [.ref p] ∧ (SqL K H p ys ∨ SqT K H p ys) ∧ ∀ l, H l = none → Q (.ref l) (upd H l (.lst ys))) dList := fun av H xs ds Q Qd al r d q => by
  unfold dList at d
  split at d
  · obtain ⟨x, rfl, rr⟩ := repl1 r
    obtain ⟨a, xs, rfl, hx, lx⟩ := rr.lst_inv
    exact ⟨a, xs, rfl, .inl hx.sq, fun l hl => q _ _ _ (same_new hl) (rep_newL al hl lx) d⟩
  · obtain ⟨x, rfl, rr⟩ := repl1 r
    obtain ⟨a, xs, rfl, hx, lx⟩ := rr.tup_inv
    exact ⟨a, xs, rfl, .inr hx.sq, fun l hl => q _ _ _ (same_new hl) (rep_newL al hl lx) d⟩
  · exact d.elim
def dTuple (ds : List Dt) (Q : Dt → Prop) : Prop := match ds with
  | [.lst xs] => Q (.tup xs)
  | [.tup xs] => Q (.tup xs)
  | _ => False
theorem cr_tuple (hK : X.K = K) : CallR X (.type "tuple") (fun xs H Q => ∃ p ys, xs = [.ref p] ∧ ((SqL K H p ys ∧ ∀ l, H l = none → Q (.ref l) (upd H l (.tup ys))) ∨ (SqT K H p ys ∧ Q (.ref p) H))) := hK ▸ call_tuple_of
theorem rc_tuple : RcOk K (fun xs H Q => ∃ p ys, xs = [.ref p] ∧ ((SqL K H p ys ∧ ∀ l, H l = none → Q (.ref l) (upd H l (.tup ys))) ∨ (SqT K H p ys ∧ Q (.ref p) H))) dTuple := fun av H xs ds Q Qd al r d q => by
  unfold dTuple at d
  split at d
  · obtain ⟨x, rfl, rr⟩ := repl1 r
    obtain ⟨a, xs, rfl, hx, lx⟩ := rr.lst_inv
    exact ⟨a, xs, rfl, .inl ⟨hx.sq, fun l hl => q _ _ _ (same_new hl) (rep_newT al hl lx) d⟩⟩
  · obtain ⟨x, rfl, rr⟩ := repl1 r
    have r' := rr
    obtain ⟨a, xs, rfl, hx, lx⟩ := rr.tup_inv
    exact ⟨a, xs, rfl, .inr ⟨hx.sq, q _ _ H (Same.refl H) r' d⟩⟩
  · exact d.elim
def dInt (ds : List Dt) (Q : Dt → Prop) : Prop := match ds with
  | [.int i] => Q (.int i)
  | [.bl b] => Q (.int (if b then 1 else 0))
  | _ => False
theorem rc_int : RcOk K (fun xs H Q => (∃ i, xs = [.int i] ∧ Q (.int i) H) ∨ ∃ k, xs = [.bl k] ∧ Q (.int (if k then 1 else 0)) H) dInt := fun av H xs ds Q Qd al r d q => by
  unfold dInt at d
  split at d
  · obtain ⟨x, rfl, rr⟩ := repl1 r
    exact .inl ⟨_, by rw [rr.int_inv], q _ _ H (Same.refl H) (.int _) d⟩
  · obtain ⟨x, rfl, rr⟩ := repl1 r
    exact .inr ⟨_, by rw [rr.bl_inv], q _ _ H (Same.refl H) (.int _) d⟩
  · exact d.elim
theorem repl_ints {av : Addr → Prop} {H : Hp} : ∀ {xs : List V} {ns : List Int}, RepL K av H xs (ns.map .int) → xs = ns.map V.int
  | [], [], _ => rfl
  | [], _ :: _, r => by have := r.l; simp at this
  | _ :: _, [], r => by have := r.l; simp at this
  | x :: xs, n :: ns, r => by
    rw [List.map_cons] at r
    rw [List.map_cons, r.head.1.int_inv, repl_ints r.head.2]
theorem repl_of_ints {av : Addr → Prop} {H : Hp} : ∀ ns : List Int, RepL K av H (ns.map V.int) (ns.map .int)
  | [] => .nil
  | n :: ns => .cons (.int n) (repl_of_ints ns)
theorem repl_bls {av : Addr → Prop} {H : Hp} : ∀ {xs : List V} {ns : List Bool}, RepL K av H xs (ns.map .bl) → xs = ns.map V.bl
  | [], [], _ => rfl
  | [], _ :: _, r => by have := r.l; simp at this
  | _ :: _, [], r => by have := r.l; simp at this
  | x :: xs, n :: ns, r => by
    rw [List.map_cons] at r
    rw [List.map_cons, r.head.1.bl_inv, repl_bls r.head.2]
def dSum (ds : List Dt) (Q : Dt → Prop) : Prop := ∃ ns : List Int, ds = [.lst (ns.map .int)] ∧ Q (.int ns.sum)
theorem cr_sumK (hc : X.calm = true) (hK : X.K = K) : CallR X (.builtin "sum") (rSum K) := hK ▸ cr_sum hc
theorem rc_sum : RcOk K (rSum K) dSum := fun av H xs ds Q Qd al r d q => by
  obtain ⟨ns, rfl, d⟩ := d
  obtain ⟨x, rfl, rr⟩ := repl1 r
  obtain ⟨a, xs, rfl, hx, lx⟩ := rr.lst_inv
  rw [repl_ints lx] at hx
  exact ⟨a, ns, rfl, hx.sq, q _ _ H (Same.refl H) (.int _) d⟩
def dAny (ds : List Dt) (Q : Dt → Prop) : Prop := ∃ ns : List Bool, ds = [.lst (ns.map .bl)] ∧ Q (.bl (ns.any id))
def dAll (ds : List Dt) (Q : Dt → Prop) : Prop := ∃ ns : List Bool, ds = [.lst (ns.map .bl)] ∧ Q (.bl (ns.all id))
theorem cr_anyK (hc : X.calm = true) (hK : X.K = K) : CallR X (.builtin "any") (rAny K) := hK ▸ cr_any hc
theorem cr_allK2 (hc : X.calm = true) (hK : X.K = K) : CallR X (.builtin "all") (rAll K) := hK ▸ cr_all hc
theorem rc_any : RcOk K (rAny K) dAny := fun av H xs ds Q Qd al r d q => by
  obtain ⟨ns, rfl, d⟩ := d
  obtain ⟨x, rfl, rr⟩ := repl1 r
  obtain ⟨a, xs, rfl, hx, lx⟩ := rr.lst_inv
  rw [repl_bls lx] at hx
  exact ⟨a, ns, rfl, hx.sq, q _ _ H (Same.refl H) (.bl _) d⟩
theorem rc_all : RcOk K (rAll K) dAll := fun av H xs ds Q Qd al r d q => by
  obtain ⟨ns, rfl, d⟩ := d
  obtain ⟨x, rfl, rr⟩ := repl1 r
  obtain ⟨a, xs, rfl, hx, lx⟩ := rr.lst_inv
  rw [repl_bls lx] at hx
  exact ⟨a, ns, rfl, hx.sq, q _ _ H (Same.refl H) (.bl _) d⟩
def dMax (ds : List Dt) (Q : Dt → Prop) : Prop := ∃ ns : List Int, ds = [.lst (ns.map .int)] ∧ 0 < ns.length ∧ ∀ m, m ∈ ns → (∀ y, y ∈ ns → y ≤ m) → Q (.int m)
def dMin (ds : List Dt) (Q : Dt → Prop) : Prop := ∃ ns : List Int, ds = [.lst (ns.map .int)] ∧ 0 < ns.length ∧ ∀ m, m ∈ ns → (∀ y, y ∈ ns → m ≤ y) → Q (.int m)
theorem cr_maxK (hc : X.calm = true) (hK : X.K = K) : CallR X (.builtin "max") (rMax K) := hK ▸ cr_max hc
theorem cr_minK (hc : X.calm = true) (hK : X.K = K) : CallR X (.builtin "min") (rMin K) := hK ▸ cr_min hc
theorem rc_max : RcOk K (rMax K) dMax := fun av H xs ds Q Qd al r d q => by
  obtain ⟨ns, rfl, h, d⟩ := d
  obtain ⟨x, rfl, rr⟩ := repl1 r
  obtain ⟨a, xs, rfl, hx, lx⟩ := rr.lst_inv
  rw [repl_ints lx] at hx
  exact ⟨a, ns, rfl, hx.sq, h, fun m h1 h2 => q _ _ H (Same.refl H) (.int _) (d m h1 h2)⟩
theorem rc_min : RcOk K (rMin K) dMin := fun av H xs ds Q Qd al r d q => by
  obtain ⟨ns, rfl, h, d⟩ := d
  obtain ⟨x, rfl, rr⟩ := repl1 r
  obtain ⟨a, xs, rfl, hx, lx⟩ := rr.lst_inv
  rw [repl_ints lx] at hx
  exact ⟨a, ns, rfl, hx.sq, h, fun m h1 h2 => q _ _ H (Same.refl H) (.int _) (d m h1 h2)⟩
def dMax2 (ds : List Dt) (Q : Dt → Prop) : Prop := match ds with
  | [.int i, .int j] => Q (.int (if j > i then j else i))
  | _ => False
def dMin2 (ds : List Dt) (Q : Dt → Prop) : Prop := match ds with
  | [.int i, .int j] => Q (.int (if j < i then j else i))
  | _ => False
theorem repl2 {av : Addr → Prop} {H : Hp} {xs : List V} {d e : Dt} (r : RepL K av H xs [d, e]) : ∃ x y, xs = [x, y] ∧ Rep K av H x d ∧ Rep K av H y e := by
  have := r.l
  match xs, this, r with
  | [x, y], _, r => exact ⟨x, y, rfl, r.head.1, r.head.2.head.1⟩
theorem rc_max2 : RcOk K (fun xs H Q => ∃ i j, xs = [.int i, .int j] ∧ Q (.int (if j > i then j else i)) H) dMax2 := fun av H xs ds Q Qd al r d q => by
  unfold dMax2 at d
  split at d
  · obtain ⟨x, y, rfl, r1, r2⟩ := repl2 r
    exact ⟨_, _, by rw [r1.int_inv, r2.int_inv], q _ _ H (Same.refl H) (.int _) d⟩
  · exact d.elim
theorem rc_min2 : RcOk K (fun xs H Q => ∃ i j, xs = [.int i, .int j] ∧ Q (.int (if j < i then j else i)) H) dMin2 := fun av H xs ds Q Qd al r d q => by
  unfold dMin2 at d
  split at d
  · obtain ⟨x, y, rfl, r1, r2⟩ := repl2 r
    exact ⟨_, _, by rw [r1.int_inv, r2.int_inv], q _ _ H (Same.refl H) (.int _) d⟩
  · exact d.elim
/-- sorted, of ints -/
def dSortI (ds : List Dt) (Q : Dt → Prop) : Prop := ∃ ns : List Int, ds = [.lst (ns.map .int)] ∧ ∀ ms : List Int, ms.Perm ns → ms.Pairwise (· ≤ ·) → Q (.lst (ms.map .int))
theorem cr_sortI (hK : X.K = K) : CallR X (.builtin "sorted") (rSortedI K) := hK ▸ cr_sortedI
theorem rc_sortI : RcOk K (rSortedI K) dSortI := fun av H xs ds Q Qd al r d q => by
  obtain ⟨ns, rfl, d⟩ := d
  obtain ⟨x, rfl, rr⟩ := repl1 r
  obtain ⟨a, xs, rfl, hx, lx⟩ := rr.lst_inv
  rw [repl_ints lx] at hx
  exact ⟨a, ns, rfl, hx.sq, fun ms p h1 h2 hp => q _ _ _ (same_new hp) (rep_newL al hp (repl_of_ints ms)) (d ms h1 h2)⟩
/-! ### isinstance -/
def tyD : Dt → Option String
  | .non => some "NoneType"
  | .bl _ => some "bool"
  | .int _ => some "int"
  | .str _ => some "str"
  | .lst _ => some "list"
  | .tup _ => some "tuple"
  | .ins _ _ => none
  | .dk _ => some "dict"
  | .dt _ => none
theorem ty_rep {av : Addr → Prop} {H : Hp} {x : V} {d : Dt} {t : String} (r : Rep K av H x d) (h : tyD d = some t) : TyX K H x (.type t) := by
  cases r with
  | non => cases h; exact .base .non
  | bl b => cases h; exact .base (.bl b)
  | int i => cases h; exact .base (.int i)
  | str s => cases h; exact .base (.str s)
  | lst hx l f => cases h; exact .base (.lst hx.2)
  | tup hx l f =>
    cases h
    exact .base (.tup hx.2)
  | ins => cases h
  | dk na hx =>
    cases h
    rcases hx with hx | ⟨o, hx⟩
    · exact .base (.dK hx)
    · exact .fDict hx
  | dt na hx => cases h
end
section
variable {ι : Type} {K : PySem.W.Frag} {X : ι → Cx} {z : Bool} {pos p2 : Pos} {a b c e : Expr} {es : List Expr} {ea eb ec : EvE} {et : EvA}
/-- d's kind is one of Ts, by t -/
def isiB (ts : List String) (d : Dt) : Option Bool := (tyD d).bind fun t => ts.foldr (fun T r => (kitB t T).bind fun b => if b = true then some true else r) (some false)
def dIsi (ts : List String) (ea : EvE) : EvE := fun δ Q => ea δ fun d => ∃ b, isiB ts d = some b ∧ Q (.bl b)
theorem de_isi1 {T : Str} {Ts : String} {p q2 : Pos} (ha : DE false K X a ea) (hT : ∀ i, PE (X i) (.Name T q2) (tC (.ty Ts))) (hg : ∀ i, Gl (X i) "isinstance") (hm : ∀ i, (X i).mg "isinstance" = none)
    (hs : ∀ i, starEach [a, .Name T q2] (X i).env = (false, eval a (X i).env) :: starEach [.Name T q2] (X i).env := by intro _; rfl) (hs2 : ∀ i, starEach [.Name T q2] (X i).env = [(false, eval (.Name T q2) (X i).env)] := by intro _; rfl)
    (hpl : ∀ i, (backTo pos (starEach [.Name T q2] (X i).env)).any (·.1) = false := by intro _; rfl) (hK : ∀ i, (X i).K = K := by intro _; rfl) : DE z K X (.Call (.Name "isinstance" p) [a, .Name T q2] [] pos) (dIsi [Ts] ea) := by
  obtain ⟨ta, pa, va⟩ := ha
  refine ⟨_, fun i => pe_callB (call_isiK (hK i)) (hg i) (hm i) (by decide +kernel) (pa_cons (pa i) (pa_cons (hT i) pa_nil (hs2 i)) (hs i)) (he := hs i) (hpl := hpl i), fun C σ δ H Q Qd k s e q => ?_⟩
  subst k
  refine va C σ δ H _ _ rfl s e fun x d H1 e1 r1 e => ?_
  obtain ⟨b, hb, e⟩ := e
  unfold isiB at hb
  cases ht : tyD d with
  | none => rw [ht] at hb; cases hb
  | some t =>
    rw [ht] at hb
    have hb : ((kitB t Ts).bind fun b => if b = true then some true else some false) = some b := hb
    cases hk : kitB t Ts with
    | none => rw [hk] at hb; cases hb
    | some b' =>
      rw [hk] at hb
      have : b' = b := by cases b' <;> simpa using hb
      subst this
      exact ⟨x, .ty Ts, .type t, .type Ts, b', rfl, .ty Ts, ty_rep r1 ht, kit_ty hk, q _ _ H1 e1 (.bl _) e⟩
/-! ### targets -/
/-- what own lists stay: all but those at is; none is new -/
structure Ow (is : List Nat) (δ δ' : List Sl) : Prop where
  keep : ∀ (j : Nat) (a : Addr) (ds : Oc), j ∉ is → δ[j]? = some (.own a ds) → δ'[j]? = some (.own a ds)
  old : ∀ (j : Nat) (a : Addr) (ds : Oc), δ'[j]? = some (.own a ds) → δ[j]? = some (.own a ds)
theorem Ow.refl (δ : List Sl) : Ow [] δ δ := ⟨fun _ _ _ _ h => h, fun _ _ _ h => h⟩
theorem Ow.trans {is js : List Nat} {δ δ1 δ2 : List Sl} (a : Ow is δ δ1) (b : Ow js δ1 δ2) : Ow (is ++ js) δ δ2 := ⟨fun j x ds n h => b.keep j x ds (fun z => n (List.mem_append_right _ z)) (a.keep j x ds (fun z => n (List.mem_append_left _ z)) h), fun j x ds h => a.old j x ds (b.old j x ds h)⟩
theorem Ow.set {i : Nat} {δ : List Sl} {u : Sl} (hu : ∀ b, ¬ u.at b) : Ow [i] δ (δ.set i u) := ⟨fun j a ds n h => by
  rw [List.getElem?_set_ne (fun z => n (by simp [z]))]
  exact h, fun j a ds h => by
  by_cases hj : i = j
  · subst hj
    rw [List.getElem?_set] at h
    simp at h
    exact absurd (.inl rfl) (h.2 ▸ hu a)
  · rwa [List.getElem?_set_ne hj] at h⟩
/-- no own list at is -/
def noOwn (is : List Nat) (δ : List Sl) : Bool := is.all fun i => match δ[i]? with
  | some (.own _ _) => false
  | _ => true
theorem Ow.ge {C : Ctx} {is : List Nat} {δ δ' : List Sl} (o : Ow is δ δ') (n : noOwn is δ = true) {b : Addr} (h : Zd C δ b) : Zd C δ' b := by
  rcases h with h | ⟨s, m, e⟩
  · exact .inl h
  · cases s with
    | own a ds =>
      obtain ⟨j, hj⟩ := List.mem_iff_getElem?.mp m
      have nj : j ∉ is := fun z => by
        have := List.all_eq_true.mp n j z
        rw [hj] at this
        cases this
      exact .inr ⟨_, List.mem_iff_getElem?.mpr ⟨j, o.keep j a ds nj hj⟩, e⟩
    | _ => exact e.elim
def VG (K : PySem.W.Frag) (g : TG) (gv : Dt → List Sl → (List Sl → Prop) → Prop) (is : List Nat) : Prop := ∀ (C : Ctx) (σ : L2.St) (δ : List Sl) (H : Hp) (v : V) (d : Dt) (Q : L2.St → Hp → Prop) (Qd : List Sl → Prop), C.K = K → Sok C H σ δ → Rep K (Zd C δ) H v d → gv d δ Qd →
  (∀ σ' δ', Sok C H σ' δ' → (∀ vs, (∀ i, i ∈ is → i ∈ vs) → wipe σ' vs = wipe σ vs) → (∀ b, Zd C δ' b → Zd C δ b) → Ow is δ δ' → Qd δ' → Q σ' H) → g v σ H Q
def DG {ι : Type} (K : PySem.W.Frag) (X : ι → Cx) (tg : Expr) (gv : Dt → List Sl → (List Sl → Prop) → Prop) (is : List Nat) : Prop := ∃ g, (∀ i, PG (X i) tg g) ∧ VG K g gv is
def VGs (K : PySem.W.Frag) (g : TGs) (gv : List Dt → List Sl → (List Sl → Prop) → Prop) (is : List Nat) : Prop := ∀ (C : Ctx) (σ : L2.St) (δ : List Sl) (H : Hp) (vs : List V) (ds : List Dt) (Q : L2.St → Hp → Prop) (Qd : List Sl → Prop), C.K = K → Sok C H σ δ → RepL K (Zd C δ) H vs ds → gv ds δ Qd →
  (∀ σ' δ', Sok C H σ' δ' → (∀ vs, (∀ i, i ∈ is → i ∈ vs) → wipe σ' vs = wipe σ vs) → (∀ b, Zd C δ' b → Zd C δ b) → Ow is δ δ' → Qd δ' → Q σ' H) → g vs σ H Q
def DGs {ι : Type} (K : PySem.W.Frag) (X : ι → Cx) (tg : List Expr) (gv : List Dt → List Sl → (List Sl → Prop) → Prop) (is : List Nat) : Prop := ∃ g, (∀ i, PGs (X i) tg g) ∧ VGs K g gv is
theorem wipe_set {σ : L2.St} {i : Nat} {x : Option V} : ∀ {vs : List Nat}, i ∈ vs → wipe (σ.set i x) vs = wipe σ vs
  | v :: vs, h => by
    unfold wipe
    by_cases hv : i ∈ vs
    · rw [wipe_set hv]
    · rcases List.mem_cons.mp h with rfl | h
      · have key : ∀ (ws : List Nat), (wipe (σ.set i x) ws).set i none = (wipe σ ws).set i none := by
          intro ws
          induction ws with
          | nil => unfold wipe; rw [List.set_set]
          | cons w ws ih =>
            unfold wipe
            by_cases hw : i = w
            · subst hw
              rw [ih]
            · rw [List.set_comm _ _ (Ne.symm hw), ih, List.set_comm _ _ hw]
        exact key vs
      · exact absurd h hv
def gvName (i : Nat) : Dt → List Sl → (List Sl → Prop) → Prop := fun d δ Q => Q (δ.set i (.val d))
theorem dg_name {i : Nat} {x : Str} (p : ∀ j, PG (X j) (.Name x pos) (gName i)) : DG K X (.Name x pos) (gvName i) [i] := by
  refine ⟨_, p, fun C σ δ H v d Q Qd k s r e q => ?_⟩
  subst k
  exact q _ _ (s.setV r) (fun vs h => wipe_set (h i (by simp))) (fun b z => (zd_set z).resolve_right fun z => z) (Ow.set fun _ z => z) e
def gvNil : List Dt → List Sl → (List Sl → Prop) → Prop := fun ds δ Q => ds = [] ∧ Q δ
def gvCons (g : Dt → List Sl → (List Sl → Prop) → Prop) (gs : List Dt → List Sl → (List Sl → Prop) → Prop) : List Dt → List Sl → (List Sl → Prop) → Prop := fun ds δ Q => match ds with
  | d :: r => g d δ fun δ' => gs r δ' Q
  | [] => False
theorem dgs_nil : DGs K X [] gvNil [] := by
  refine ⟨_, fun _ => pgs_nil, fun C σ δ H vs ds Q Qd k s r e q => ?_⟩
  obtain ⟨rfl, e⟩ := e
  refine ⟨?_, q σ δ s (fun _ _ => rfl) (fun _ z => z) (Ow.refl δ) e⟩
  have := r.l
  cases vs with
  | nil => rfl
  | cons => simp at this
theorem dgs_cons {g : Dt → List Sl → (List Sl → Prop) → Prop} {gs : List Dt → List Sl → (List Sl → Prop) → Prop} {is js : List Nat} (h1 : DG K X e g is) (h2 : DGs K X es gs js) (hp : ∀ {g : TG} {gs : TGs} i, PG (X i) e g → PGs (X i) es gs → PGs (X i) (e :: es) (gCons g gs) := by intro _ _ _ h1 h2; exact pgs_cons h1 h2) : DGs K X (e :: es) (gvCons g gs) (is ++ js) := by
  obtain ⟨t, p, v⟩ := h1
  obtain ⟨t2, p2, v2⟩ := h2
  refine ⟨_, fun i => hp i (p i) (p2 i), fun C σ δ H vs ds Q Qd k s r e q => ?_⟩
  subst k
  unfold gvCons at e
  match ds, e with
  | d :: ds, e =>
    match vs, r with
    | [], r => have := r.l; simp at this
    | x :: xs, r =>
      refine ⟨x, xs, rfl, v C σ δ H x d _ _ rfl s r.head.1 e fun σ1 δ1 s1 w1 z1 o1 e => ?_⟩
      refine v2 C σ1 δ1 H xs ds _ _ rfl s1 (r.head.2.mono z1) e fun σ2 δ2 s2 w2 z2 o2 e => ?_
      exact q σ2 δ2 s2 (fun vs h => (w2 vs fun i m => h i (List.mem_append_right _ m)).trans (w1 vs fun i m => h i (List.mem_append_left _ m))) (fun b z => z1 b (z2 b z)) (o1.trans o2) e
def gvTup (gs : List Dt → List Sl → (List Sl → Prop) → Prop) (n : Nat) : Dt → List Sl → (List Sl → Prop) → Prop := fun d δ Q => match d with
  | .tup ds => ds.length = n ∧ gs ds δ Q
  | .lst ds => ds.length = n ∧ gs ds δ Q
  | _ => False
theorem dg_tup {gs : List Dt → List Sl → (List Sl → Prop) → Prop} {is : List Nat} {k : Nat} {n : Nat} (h : DGs K X es gs is) (hc : ∀ i, (X i).calm = true := by intro _; rfl) (hn : ∀ i, (assignEach es (X i).env).length = n := by intro _; rfl) (hst : ∀ i, (assignEach es (X i).env).findIdx? (·.1) = none := by intro _; rfl) (hK : ∀ i, (X i).K = K := by intro _; rfl) : DG K X (.Tuple es k pos) (gvTup gs n) is := by
  obtain ⟨t, p, v⟩ := h
  refine ⟨_, fun i => pg_seqK (hK i) (hc i) (p i) (hn i) (hst i), fun C σ δ H x d Q Qd k s r e q => ?_⟩
  subst k
  unfold gvTup at e
  split at e
  · obtain ⟨a, xs, rfl, hx, lx⟩ := r.tup_inv
    exact ⟨a, xs, rfl, .inr hx.sq, by rw [lx.l]; exact e.1, v C σ δ H xs _ _ _ rfl s lx e.2 q⟩
  · obtain ⟨a, xs, rfl, hx, lx⟩ := r.lst_inv
    exact ⟨a, xs, rfl, .inl hx.sq, by rw [lx.l]; exact e.1, v C σ δ H xs _ _ _ rfl s lx e.2 q⟩
  · exact e.elim
end
end Dl
set_option maxHeartbeats 1000000
namespace Dl
open PySem PySem.Spec PyProof.Rows L2 Lcn Sq
/-! ### what is walked -/
structure ItOk (K : PySem.W.Frag) (base : Hp → Prop) (gs : List (V × Dt)) (G : Hp → Prop) (Y : Nat → Hp → V → Hp → Prop) (ds : List Dt) : Prop where
  g : ∀ (av : Addr → Prop) (H : Hp), Al av H → base H → (∀ g, g ∈ gs → Rep K av H g.1 g.2) → G H
  y : ∀ (i : Nat) (d : Dt) (av : Addr → Prop) (H : Hp) (x : V) (H' : Hp), ds[i]? = some d → Al av H → base H → (∀ g, g ∈ gs → Rep K av H g.1 g.2) → Y i H x H' → Same H H' ∧ Rep K av H' x d
def VIat (o : Bool) (K : PySem.W.Frag) (wi : TI) (iv : EvA) (C : Ctx) (σ : L2.St) (δ : List Sl) (H : Hp) : Prop := ∀ (R : It → Hp → Prop) (Qd : List Dt → Prop), C.K = K → Sok C H σ δ → iv δ Qd →
  (∀ (J : It) (n : Nat) (G : Hp → Prop) (Y : Nat → Hp → V → Hp → Prop) (ds : List Dt) (H1 : Hp) (base : Hp → Prop) (gs : List (V × Dt)), Walk J n G Y → ds.length = n → Stp C.S H H1 → (o = false → ∀ H, Stp C.S C.H0 H → base H) → (∀ H', (∀ b u, ¬ ch C.S b → H1 b = some u → H' b = some u) → base H') → (∀ g, g ∈ gs → Rep K (Zd C δ) H1 g.1 g.2) → ItOk K base gs G Y ds → Qd ds → R J H1) → wi σ H R
def VI (o : Bool) (K : PySem.W.Frag) (wi : TI) (iv : EvA) : Prop := ∀ (C : Ctx) (σ : L2.St) (δ : List Sl) (H : Hp), VIat o K wi iv C σ δ H
def DI {ι : Type} (o : Bool) (K : PySem.W.Frag) (X : ι → Cx) (tg iter : Expr) (iv : EvA) : Prop := ∃ wi, (∀ i, PI (X i) tg iter wi) ∧ VI o K wi iv
section
variable {K : PySem.W.Frag} {a : Addr}
theorem walkL {n : Nat} : Walk (Itl K a) n (fun H => ∃ xs, xs.length = n ∧ SqL K H a xs) (fun i H x H' => H' = H ∧ ∀ xs, SqL K H a xs → xs[i]? = some x) :=
  ⟨fun i _ hi ⟨xs, l, q⟩ => ⟨xs, xs[i], q, by simp [l, hi]⟩, fun _ ⟨xs, l, q⟩ => ⟨xs, q, Nat.le_of_eq l⟩, fun _ _ _ _ _ _ y => ⟨y.1, y.2⟩⟩
theorem walkT {n : Nat} : Walk (Itt K a) n (fun H => ∃ xs, xs.length = n ∧ SqT K H a xs) (fun i H x H' => H' = H ∧ ∀ xs, SqT K H a xs → xs[i]? = some x) :=
  ⟨fun i _ hi ⟨xs, l, q⟩ => ⟨xs, xs[i], q, by simp [l, hi]⟩, fun _ ⟨xs, l, q⟩ => ⟨xs, q, Nat.le_of_eq l⟩, fun _ _ _ _ _ _ y => ⟨y.1, y.2⟩⟩
end
def ivSeq (ea : EvE) : EvA := fun δ Q => ea δ fun d => match d with
  | .lst ds => Q ds
  | .tup ds => Q ds
  | _ => False
section
variable {ι : Type} {K : PySem.W.Frag} {X : ι → Cx} {z o : Bool} {pos p2 : Pos} {a b c e tg iter : Expr} {es : List Expr} {ea eb ec : EvE} {et : EvA}
theorem di_seq (ha : DE true K X a ea) (hK : ∀ i, (X i).K = K := by intro _; rfl) : DI o K X tg a (ivSeq ea) := by
  obtain ⟨t, p, v⟩ := ha
  refine ⟨_, fun i => pi_seqK (hK i) (p i), fun C σ δ H R Qd k s e q => ?_⟩
  subst k
  unfold iSeq
  refine v C σ δ H _ _ rfl s e fun x d H1 e1 r e => ?_
  split at e
  · rename_i ds
    have r' := r
    obtain ⟨p, xs, rfl, hx, lx⟩ := r.lst_inv
    refine ⟨p, xs, rfl, .inl ⟨hx.sq, q _ _ _ _ ds H1 (fun _ => True) [(.ref p, .lst ds)] walkL rfl e1 (fun _ _ _ => trivial) (fun _ _ => trivial) (fun g m => ?_) ⟨fun av H al _ h => ?_, fun i d av H x H' hd al _ h y => ?_⟩ e⟩⟩
    · rw [List.mem_singleton] at m
      rw [m]
      exact r'
    · obtain ⟨p', ys, e', hy, ly⟩ := (h _ (List.mem_singleton.mpr rfl)).lst_inv
      cases e'
      exact ⟨ys, ly.l, hy.sq⟩
    · obtain ⟨p', ys, e', hy, ly⟩ := (h _ (List.mem_singleton.mpr rfl)).lst_inv
      cases e'
      obtain ⟨rfl, y⟩ := y
      exact ⟨Same.refl _, ly.f i x d (y ys hy.sq) hd⟩
  · rename_i ds
    have r' := r
    obtain ⟨p, xs, rfl, hx, lx⟩ := r.tup_inv
    refine ⟨p, xs, rfl, .inr ⟨hx.sq, q _ _ _ _ ds H1 (fun _ => True) [(.ref p, .tup ds)] walkT rfl e1 (fun _ _ _ => trivial) (fun _ _ => trivial) (fun g m => ?_) ⟨fun av H al _ h => ?_, fun i d av H x H' hd al _ h y => ?_⟩ e⟩⟩
    · rw [List.mem_singleton] at m
      rw [m]
      exact r'
    · obtain ⟨p', ys, e', hy, ly⟩ := (h _ (List.mem_singleton.mpr rfl)).tup_inv
      cases e'
      exact ⟨ys, ly.l, hy.sq⟩
    · obtain ⟨p', ys, e', hy, ly⟩ := (h _ (List.mem_singleton.mpr rfl)).tup_inv
      cases e'
      obtain ⟨rfl, y⟩ := y
      exact ⟨Same.refl _, ly.f i x d (y ys hy.sq) hd⟩
  · exact e.elim
/-- an own list, or a thing, walked by a comprehension -/
def ivOwn (i : Nat) : EvA := fun δ Q => match δ[i]? with
  | some (.own _ (.l ds)) => Q ds
  | some (.val (.lst ds)) => Q ds
  | some (.val (.tup ds)) => Q ds
  | _ => False
theorem repl_ghost {C : Ctx} {H : Hp} {xs : List V} {ds : List Dt} {Z : Addr → Prop} (r : RepL K Z H xs ds) : ∀ g, g ∈ xs.zip ds → Rep K Z H g.1 g.2 := fun g m => by
  obtain ⟨i, hi⟩ := List.mem_iff_getElem?.mp m
  rw [List.getElem?_zip_eq_some] at hi
  exact r.f i _ _ hi.1 hi.2
theorem di_own {i : Nat} {x : Str} (p : ∀ j, PE (X j) (.Name x pos) (tVar i)) (hK : ∀ i, (X i).K = K := by intro _; rfl) : DI true K X tg (.Name x pos) (ivOwn i) := by
  obtain ⟨w1, p1, v1⟩ := di_seq (o := true) (tg := tg) (de_var (z := true) p) hK
  refine ⟨_, fun i => pi_seqK (hK i) (p i), fun C σ δ H R Qd k s e q => ?_⟩
  subst k
  have ev := e
  unfold ivOwn at e
  unfold iSeq
  split at e
  · rename_i a ds h
    obtain ⟨h1, _, h3, xs, h5, h6⟩ := s.lstAt h
    refine ⟨.ref a, h1, a, xs, rfl, .inl ⟨SqL.of h5, q _ _ _ _ ds H (fun H => H a = some (.lst xs)) (xs.zip ds) (walkL (n := ds.length)) rfl (Stp.refl H) (fun z => nomatch z) (fun H' k => k a _ (fun c => h3 (s.avs a (ch_sa c))) h5) (repl_ghost (C := C) h6) ⟨fun av H al hb h => ⟨xs, h6.l, SqL.of hb⟩, fun j d av H x H' hd al hb h y => ?_⟩ e⟩⟩
    obtain ⟨rfl, y⟩ := y
    have hx := y xs (SqL.of hb)
    refine ⟨Same.refl _, h (x, d) (List.mem_iff_getElem?.mpr ⟨j, ?_⟩)⟩
    rw [List.getElem?_zip_eq_some]
    exact ⟨hx, hd⟩
  · rename_i ds h
    obtain ⟨v, h1, h2⟩ := s.sl i _ h
    obtain ⟨p, xs, rfl, hx, lx⟩ := h2.lst_inv
    refine ⟨.ref p, h1, p, xs, rfl, .inl ⟨hx.sq, q _ _ _ _ ds H (fun _ => True) [(.ref p, .lst ds)] walkL rfl (Stp.refl H) (fun _ _ _ => trivial) (fun _ _ => trivial) (fun g m => ?_) ⟨fun av H al _ h => ?_, fun i d av H x H' hd al _ h y => ?_⟩ e⟩⟩
    · rw [List.mem_singleton] at m
      rw [m]
      exact h2
    · obtain ⟨p', ys, e', hy, ly⟩ := (h _ (List.mem_singleton.mpr rfl)).lst_inv
      cases e'
      exact ⟨ys, ly.l, hy.sq⟩
    · obtain ⟨p', ys, e', hy, ly⟩ := (h _ (List.mem_singleton.mpr rfl)).lst_inv
      cases e'
      obtain ⟨rfl, y⟩ := y
      exact ⟨Same.refl _, ly.f i x d (y ys hy.sq) hd⟩
  · rename_i ds h
    obtain ⟨v, h1, h2⟩ := s.sl i _ h
    obtain ⟨p, xs, rfl, hx, lx⟩ := h2.tup_inv
    refine ⟨.ref p, h1, p, xs, rfl, .inr ⟨hx.sq, q _ _ _ _ ds H (fun _ => True) [(.ref p, .tup ds)] walkT rfl (Stp.refl H) (fun _ _ _ => trivial) (fun _ _ => trivial) (fun g m => ?_) ⟨fun av H al _ h => ?_, fun i d av H x H' hd al _ h y => ?_⟩ e⟩⟩
    · rw [List.mem_singleton] at m
      rw [m]
      exact h2
    · obtain ⟨p', ys, e', hy, ly⟩ := (h _ (List.mem_singleton.mpr rfl)).tup_inv
      cases e'
      exact ⟨ys, ly.l, hy.sq⟩
    · obtain ⟨p', ys, e', hy, ly⟩ := (h _ (List.mem_singleton.mpr rfl)).tup_inv
      cases e'
      obtain ⟨rfl, y⟩ := y
      exact ⟨Same.refl _, ly.f i x d (y ys hy.sq) hd⟩
  · exact e.elim
/-- lo, lo + 1, .. n of them -/
def rngD (lo : Int) (n : Nat) : List Dt := (List.range n).map fun (i : Nat) => Dt.int (lo + (i : Int))
theorem it_rng {lo : Int} {n : Nat} : ItOk K (fun _ => True) [] (fun _ => True) (YFn fun i => .int (lo + i)) (rngD lo n) := by
  refine ⟨fun _ _ _ _ _ => trivial, fun i d av H x H' hd _ _ _ y => ?_⟩
  have e2 : H' = H ∧ x = .int (lo + (i : Int)) := y
  obtain ⟨rfl, rfl⟩ := e2
  unfold rngD at hd
  rw [List.getElem?_map] at hd
  obtain ⟨j, h1, h2⟩ := Option.map_eq_some_iff.mp hd
  have : j = i := by
    have := (List.getElem?_eq_some_iff.mp h1).2
    simpa using this.symm
  subst this
  subst h2
  exact ⟨Same.refl _, .int _⟩
def ivR1 (et : EvA) : EvA := fun δ Q => et δ fun ds => match ds with
  | [.int j] => -(2 ^ 62) ≤ j ∧ j < 2 ^ 62 ∧ Q (rngD 0 j.toNat)
  | _ => False
def ivR2 (et : EvA) : EvA := fun δ Q => et δ fun ds => match ds with
  | [.int i, .int j] => (-(2 ^ 62) ≤ i ∧ i < 2 ^ 62 ∧ -(2 ^ 62) ≤ j ∧ j < 2 ^ 62) ∧ Q (rngD i (j - i).toNat)
  | _ => False
theorem di_range1 {p : Pos} (hg : ∀ i, Gl (X i) "range") (hm : ∀ i, (X i).mg "range" = none) (ha : DA false K X [a] et) (hs : ∀ i, starEach [a] (X i).env = [(false, eval a (X i).env)] := by intro _; rfl) : DI o K X tg (.Call (.Name "range" p) [a] [] pos) (ivR1 et) := by
  obtain ⟨t, pa, v⟩ := ha
  refine ⟨_, fun i => pi_range1 (hg i) (hm i) (pa i) (hs i), fun C σ δ H R Qd k s e q => ?_⟩
  refine v C σ δ H _ _ k s e fun vs ds H1 e1 r e => ?_
  split at e
  · rename_i j
    obtain ⟨x, rfl, rr⟩ := repl1 r
    refine ⟨j, by rw [rr.int_inv], e.1, e.2.1, q _ _ _ _ _ H1 (fun _ => True) [] walk_range (by simp [rngD]) e1 (fun _ _ _ => trivial) (fun _ _ => trivial) (fun g m => nomatch m) it_rng e.2.2⟩
  · exact e.elim
theorem di_range2 {p : Pos} (hg : ∀ i, Gl (X i) "range") (hm : ∀ i, (X i).mg "range" = none) (ha : DA false K X [a, b] et) (hs : ∀ i, starEach [a, b] (X i).env = [(false, eval a (X i).env), (false, eval b (X i).env)] := by intro _; rfl) (hs2 : ∀ i, starEach [b] (X i).env = [(false, eval b (X i).env)] := by intro _; rfl) : DI o K X tg (.Call (.Name "range" p) [a, b] [] pos) (ivR2 et) := by
  obtain ⟨t, pa, v⟩ := ha
  refine ⟨_, fun i => pi_range2 (hg i) (hm i) (pa i) (hs i) (hs2 i), fun C σ δ H R Qd k s e q => ?_⟩
  refine v C σ δ H _ _ k s e fun vs ds H1 e1 r e => ?_
  split at e
  · rename_i i j
    obtain ⟨x, y, rfl, r1, r2⟩ := repl2 r
    refine ⟨i, j, by rw [r1.int_inv, r2.int_inv], e.1, q _ _ _ _ _ H1 (fun _ => True) [] walk_range (by simp [rngD]) e1 (fun _ _ _ => trivial) (fun _ _ => trivial) (fun g m => nomatch m) it_rng e.2⟩
  · exact e.elim
/-- a text, sign by sign -/
def chD (z : Str) : List Dt := z.cps.toList.map fun c => .str ⟨#[c]⟩
def ivStr (ea : EvE) : EvA := fun δ Q => ea δ fun d => match d with
  | .str z => Q (chD z)
  | _ => False
theorem di_str (ha : DE false K X a ea) : DI o K X tg a (ivStr ea) := by
  obtain ⟨t, p, v⟩ := ha
  refine ⟨_, fun i => pi_str (p i), fun C σ δ H R Qd k s e q => ?_⟩
  refine v C σ δ H _ _ k s e fun x d H1 e1 r e => ?_
  split at e
  · rename_i z
    refine ⟨z, r.str_inv, q _ _ _ _ (chD z) H1 (fun _ => True) [] walk_str (by simp [chD]) e1 (fun _ _ _ => trivial) (fun _ _ => trivial) (fun g m => nomatch m) ⟨fun _ _ _ _ _ => trivial, fun i d av H x H' hd _ _ _ y => ?_⟩ e⟩
    have e2 : H' = H ∧ ∃ c, z.cps[i]? = some c ∧ x = .str ⟨#[c]⟩ := y
    obtain ⟨rfl, c, hc, rfl⟩ := e2
    unfold chD at hd
    rw [List.getElem?_map] at hd
    obtain ⟨j, h1, h2⟩ := Option.map_eq_some_iff.mp hd
    have : j = c := by
      rw [Array.getElem?_toList, hc] at h1
      exact (Option.some.inj h1).symm
    subst this
    subst h2
    exact ⟨Same.refl _, .str _⟩
  · exact e.elim
/-! ### pairs: zip of two lists or two tuples, enumerate of a list -/
theorem pair_get {xs ys : List Dt} {i : Nat} {d : Dt} (h : ((xs.zip ys).map fun p => Dt.tup [p.1, p.2])[i]? = some d) : ∃ x y, xs[i]? = some x ∧ ys[i]? = some y ∧ d = .tup [x, y] := by
  rw [List.getElem?_map] at h
  obtain ⟨p, h1, h2⟩ := Option.map_eq_some_iff.mp h
  rw [List.getElem?_zip_eq_some] at h1
  exact ⟨p.1, p.2, h1.1, h1.2, h2.symm⟩
def zipD (xs ys : List Dt) : List Dt := (xs.zip ys).map fun p => .tup [p.1, p.2]
end
end Dl
set_option maxHeartbeats 1000000
namespace Dl
open PySem PySem.Spec PyProof.Rows L2 Lcn Sq
/-! ### new lists -/
abbrev EvN := EvA
def VN (K : PySem.W.Frag) (te : TE) (nv : EvN) : Prop := ∀ (C : Ctx) (σ : L2.St) (δ : List Sl) (H : Hp) (Q : VK) (Qd : List Dt → Prop), C.K = K → Sok C H σ δ → nv δ Qd →
  (∀ (p : Addr) (xs : List V) (ds : List Dt) (H' : Hp), H p = none → Stp C.S H H' → H' p = some (.lst xs) → RepL K (fun b => Zd C δ b ∨ b = p) H' xs ds → Qd ds → Q (.ref p) H') → te σ H Q
def DN {ι : Type} (K : PySem.W.Frag) (X : ι → Cx) (e : Expr) (nv : EvN) : Prop := ∃ te, (∀ i, PE (X i) e te) ∧ VN K te nv
def wipeS (δ : List Sl) : List Nat → List Sl
  | [] => δ
  | v :: vs => (wipeS δ vs).set v .any
section
variable {C : Ctx} {H H' : Hp} {σ : L2.St} {δ : List Sl}
theorem Sok.unset (s : Sok C H σ δ) (i : Nat) : Sok C H (σ.set i none) (δ.set i .any) := by
  have t := s.drop i
  refine ⟨by simp [s.len], fun j u h => ?_, t.uqr, t.inn, t.g, t.st, t.avs, t.ava, t.gh⟩
  by_cases hj : i = j
  · subst hj
    rw [List.getElem?_set] at h
    simp at h
    rw [← h.2]
    trivial
  · rw [List.getElem?_set_ne hj]
    exact t.sl j u h
theorem Sok.wipe (s : Sok C H σ δ) : ∀ vs : List Nat, Sok C H (L2.wipe σ vs) (wipeS δ vs)
  | [] => s
  | v :: vs => (s.wipe vs).unset v
theorem wipe_idem (σ : L2.St) (vs : List Nat) : ∀ ws : List Nat, (∀ w, w ∈ ws → w ∈ vs) → L2.wipe (L2.wipe σ ws) vs = L2.wipe σ vs
  | [], _ => rfl
  | w :: ws, h => by
    show L2.wipe ((L2.wipe σ ws).set w none) vs = _
    rw [wipe_set (h w (by simp)), wipe_idem σ vs ws fun x m => h x (List.mem_cons_of_mem _ m)]
theorem ow_wipe (δ : List Sl) : ∀ vs : List Nat, Ow vs δ (wipeS δ vs)
  | [] => Ow.refl δ
  | v :: vs => ⟨fun j a ds n h => (Ow.set (i := v) (u := .any) fun _ z => z).keep j a ds (fun z => n (by simp at z; simp [z])) ((ow_wipe δ vs).keep j a ds (fun z => n (List.mem_cons_of_mem _ z)) h), fun j a ds h => (ow_wipe δ vs).old j a ds ((Ow.set (i := v) (u := .any) fun _ z => z).old j a ds h)⟩
theorem zd_ow {is : List Nat} {δ δ' : List Sl} (o : Ow is δ δ') {b : Addr} (h : Zd C δ' b) : Zd C δ b := by
  rcases h with h | ⟨s, m, e⟩
  · exact .inl h
  · cases s with
    | own a ds =>
      obtain ⟨j, hj⟩ := List.mem_iff_getElem?.mp m
      exact .inr ⟨_, List.mem_iff_getElem?.mpr ⟨j, o.old j a ds hj⟩, e⟩
    | _ => exact e.elim
theorem Sok.h0 (s : Sok C H σ δ) {D : Addr} (n : H D = none) : C.H0 D = none := by
  cases q : C.H0 D with
  | none => rfl
  | some o =>
    by_cases c : ch C.S D
    · exact absurd (s.avs D (ch_sa c)) (s.ava.na n)
    · rw [s.st.keep D o c q] at n
      cases n
end
/-- the items one by one -/
def dLc (gv : Dt → List Sl → (List Sl → Prop) → Prop) (tv : EvT) (ev : EvE) (vs : List Nat) : List Dt → List Dt → List Sl → (List Dt → Prop) → Prop
  | [], acc, _, Q => Q acc
  | d :: r, acc, δ, Q => gv d (wipeS δ vs) fun δ2 => tv δ2 fun b => if b = true then ev δ2 fun y => dLc gv tv ev vs r (acc ++ [y]) δ Q else dLc gv tv ev vs r acc δ Q
def dLcN (iv : EvA) (gv : Dt → List Sl → (List Sl → Prop) → Prop) (tv : EvT) (ev : EvE) (vs : List Nat) : EvN := fun δ Q => iv δ fun ds => noOwn vs δ = true ∧ ds.length < sizeLine ∧ dLc gv tv ev vs ds [] δ Q
def DTs {ι : Type} (K : PySem.W.Frag) (X : ι → Cx) (es : List Expr) (ev : EvT) : Prop := ∃ te, (∀ i, PTs (X i) es te) ∧ VT K te ev
section
variable {ι : Type} {K : PySem.W.Frag} {X : ι → Cx} {z o : Bool} {pos p2 : Pos} {a b c e tg iter : Expr} {es : List Expr} {ea eb ec : EvE} {et : EvA} {iv : EvA} {gv : Dt → List Sl → (List Sl → Prop) → Prop} {tv : EvT} {ev : EvE}
def dYes : EvT := fun _ Q => Q true
theorem dts_nil : DTs K X [] dYes := ⟨_, fun _ => pts_nil, fun C σ δ H Q Qd k s e q => q true H (Stp.refl H) e⟩
theorem dts_one (h : DT K X c tv) : DTs K X [c] tv := by
  obtain ⟨t, p, v⟩ := h
  exact ⟨t, fun i => pts_one (p i), v⟩
theorem vn_lc_at {wi : TI} {g : TG} {tt : TT} {te : TE} {is vs : List Nat} {C : Ctx} {σ : L2.St} {δ : List Sl} {H : Hp} {Q : VK} {Qd : List Dt → Prop} (hi : VIat o K wi iv C σ δ H) (hg : VG K g gv is) (hv : ∀ i, i ∈ is → i ∈ vs) (ht : VT K tt tv) (he : VE true K te ev) (k : C.K = K) (s : Sok C H σ δ) (e : dLcN iv gv tv ev vs δ Qd)
    (q : ∀ (p : Addr) (xs : List V) (ds : List Dt) (H' : Hp), H p = none → Stp C.S H H' → H' p = some (.lst xs) → RepL K (fun b => Zd C δ b ∨ b = p) H' xs ds → Qd ds → Q (.ref p) H') : tLc wi g tt te vs σ H Q := by
  subst k
  refine hi _ _ rfl s e fun J n G Y ds H1 base gs w hn e1 hb0 hb hgs it e => ?_
  obtain ⟨no, hz, e⟩ := e
  intro D hD
  have s1 := s.step e1
  have nch : ¬ ch C.S D := fun c => (s1.ava.na hD) (s1.avs D (ch_sa c))
  have hD0 : H D = none := by
    cases x : H D with
    | none => rfl
    | some u =>
      rw [e1.keep D u nch x] at hD
      cases hD
  have sP : Sok (C.plus D) (upd H1 D (.lst [])) σ δ := s1.plus hD
  refine lc_it w (fun i Hc => (∀ b u, ¬ ch C.S b → H1 b = some u → Hc b = some u) ∧ Gs C.S Hc ∧ ∃ acc accd, Hc D = some (.lst acc) ∧ RepL C.K (fun b => Zd C δ b ∨ b = D) Hc acc accd ∧ acc.length ≤ i ∧ dLc gv tv ev vs (ds.drop i) accd δ Qd) ?_ ?_ ?_ ?_
  · exact ⟨fun b u _ h => same_new hD b u h, s1.g.dep (fun b u _ h => same_new hD b u h) (fun b c q h => same_new hD b _ h), [], [], upd_same, .nil, Nat.le_refl _, by rw [List.drop_zero]; exact e⟩
  · rintro i Hc _ ⟨kp, gs', acc, accd, hDl, ra, hl, e⟩
    have al : Al (Zd C δ) Hc := fun b zb => by
      by_cases c : ch C.S b
      · exact gs'.dom (ch_sa c)
      · obtain ⟨u, hu, wu⟩ := s1.alz b zb
        exact ⟨u, kp b u c hu, wu⟩
    exact it.g (Zd C δ) Hc al (hb Hc kp) fun g m => (hgs g m).move (fun b u n h => kp b u (fun c => n (zch s1 c)) h) fun _ z => .inl z
  · rintro i x Hc H' hi2 ⟨kp, gs', acc, accd, hDl, ra, hl, e⟩ y
    have hid : i < ds.length := by omega
    have hdr : ds.drop i = ds[i] :: ds.drop (i + 1) := List.drop_eq_getElem_cons hid
    rw [hdr] at e
    have sC : Sok (C.plus D) Hc σ δ := sP.plusStep (fun b u c n h => kp b u c (by rw [upd_ne n] at h; exact h)) gs' (s.h0 hD0) ⟨_, hDl, nt_lst⟩
    have al : Al (fun b => Zd C δ b ∨ b = D) Hc := fun b zb => sC.alz b (zd_plus.mpr zb)
    obtain ⟨sm, rx⟩ := it.y i ds[i] (fun b => Zd C δ b ∨ b = D) Hc x H' (List.getElem?_eq_getElem hid) al (hb Hc kp) (fun g m => (hgs g m).move (fun b u n h => kp b u (fun c => n (zch s1 c)) h) fun b zb => zb.imp id fun (zb : b = D) => by rw [zb]; exact hD) y
    have sB : Sok (C.plus D) H' (L2.wipe σ vs) (wipeS δ vs) := (sC.step (Stp.of sm)).wipe vs
    have oz : ∀ b, Zd (C.plus D) (wipeS δ vs) b → Zd C δ b ∨ b = D := fun b zb => zd_plus.mp (zd_ow (ow_wipe δ vs) zb)
    refine hg (C.plus D) _ _ H' x ds[i] _ _ rfl sB (rx.mono oz) e fun σ2 δ2 s2 w2 z2 o2 e => ⟨?_, ?_⟩
    · rw [w2 vs hv, wipe_idem σ vs vs fun _ m => m]
    · refine ht (C.plus D) σ2 δ2 H' _ _ rfl s2 e fun b H3 e3 e => ?_
      cases b
      · rw [if_neg Bool.false_ne_true] at e ⊢
        have k3 : ∀ b u, ¬ ch C.S b → Hc b = some u → H3 b = some u := fun b u c h => e3.keep b u c (sm b u h)
        exact ⟨fun b u c h => k3 b u c (kp b u c h), (s2.step e3).g, acc, accd, k3 D _ nch hDl, ra.move (fun b u n h => k3 b u (fun c => n (.inl (zch s1 c))) h) fun _ z => .inl z, Nat.le_succ_of_le hl, e⟩
      · rw [if_pos rfl] at e ⊢
        refine he (C.plus D) σ2 δ2 H3 _ _ rfl (s2.step e3) e fun yv yd H4 e4 ry e => ?_
        have k4 : ∀ b u, ¬ ch C.S b → Hc b = some u → H4 b = some u := fun b u c h => e4.keep b u c (e3.keep b u c (sm b u h))
        have d4 := k4 D _ nch hDl
        have ge : ∀ b, Zd C δ b ∨ b = D → Zd (C.plus D) δ2 b := fun b zb => by
          have z1 : Zd (C.plus D) (wipeS δ vs) b := (ow_wipe δ vs).ge no (zd_plus.mpr zb)
          refine o2.ge ?_ z1
          refine List.all_eq_true.mpr fun j mj => ?_
          cases hq : (wipeS δ vs)[j]? with
          | none => rfl
          | some u =>
            cases u with
            | own a es =>
              have h1 := (ow_wipe δ vs).old j a es hq
              have h2 := List.all_eq_true.mp no j (hv j mj)
              rw [h1] at h2
              cases h2
            | _ => rfl
        refine ⟨acc, d4, by omega, fun b u c h => ?_, ?_, acc ++ [yv], accd ++ [yd], upd_same, ?_, by rw [List.length_append]; exact Nat.succ_le_succ hl, e⟩
        · rw [upd_ne (fun (zz : b = D) => by rw [zz, hD] at h; cases h)]
          exact k4 b u c (kp b u c h)
        · have g4 := ((s2.step e3).step e4).g
          exact g4.upd (fun c => (s1.ava.na hD) (s1.avs D c)) fun c q h => by
            rw [d4] at h
            exact nt_lst.2 c q (Option.some.inj h)
        · have r1 : RepL C.K (fun b => Zd C δ b ∨ b = D) H4 (acc ++ [yv]) (accd ++ [yd]) := (ra.move (fun b u n h => k4 b u (fun c => n (.inl (zch s1 c))) h) fun _ z => .inl z).append (.cons (ry.mono ge) .nil)
          exact r1.move (fun b u n h => by rw [upd_ne (fun (zz : b = D) => n (.inr zz))]; exact h) fun _ z => .inl z
  · rintro Hc ⟨kp, gs', acc, accd, hDl, ra, hl, e⟩
    rw [List.drop_eq_nil_of_le (by omega)] at e
    exact q D acc accd Hc hD0 ⟨fun b u c h => kp b u c (e1.keep b u c h), fun _ => gs'⟩ hDl ra e
theorem vn_lc {wi : TI} {g : TG} {tt : TT} {te : TE} {is vs : List Nat} (hi : VI o K wi iv) (hg : VG K g gv is) (hv : ∀ i, i ∈ is → i ∈ vs) (ht : VT K tt tv) (he : VE true K te ev) : VN K (tLc wi g tt te vs) (dLcN iv gv tv ev vs) :=
  fun C σ δ H Q Qd k s e q => vn_lc_at (hi C σ δ H) hg hv ht he k s e q
/-- the family of a comprehension's blocks -/
abbrev Bk (ι : Type) := ι × Shared × Hp × Addr × List (Str × Addr) × List Addr
def bk {ι : Type} (X : ι → Cx) (scope : Scope) : Bk ι → Cx := fun j => (X j.1).blk j.2.1 j.2.2.1 scope (compEnvC scope j.2.2.2.2.1 j.2.2.2.1 (X j.1).env) j.2.2.2.2.2
theorem dn_lc {elt : Expr} {ifs : List Expr} {scope : Scope} {own : List (Str × Nat)} {is : List Nat} (hc : ∀ i, (X i).calm = true) (hN : ∀ i, (X i).N.Nodup) (hi : DI o K X tg iter iv) (ok : ∀ i, BlkOk (X i).N (X i).env.scope scope own)
    (hg : DG K (bk X scope) tg gv is) (ht : DTs K (bk X scope) ifs tv) (he : DE true K (bk X scope) elt ev) (hv : ∀ i, i ∈ is → i ∈ own.map (·.2)) (hs : ∀ i, ∀ x, foldedSetIterable iter (X i).env x = pure x := by intro _ _; rfl) :
    DN K X (.ListComp elt [⟨tg, iter, ifs, 0⟩] scope pos) (dLcN iv gv tv ev (own.map (·.2))) := by
  obtain ⟨wi, pi, vi⟩ := hi
  obtain ⟨g, pg, vg⟩ := hg
  obtain ⟨tt, pt, vt⟩ := ht
  obtain ⟨te, pe, ve⟩ := he
  exact ⟨_, fun i => pe_lc (hc i) (hN i) (pi i) (ok i) (fun s H C cl fp => pg (i, s, H, C, cl, fp)) (fun s H C cl fp => pt (i, s, H, C, cl, fp)) (fun s H C cl fp => pe (i, s, H, C, cl, fp)) (hs i), vn_lc vi vg hv vt ve⟩
theorem ve_n {te : TE} {nv : EvN} (v : VN K te nv) : VE z K te (fun δ Q => nv δ fun ds => Q (.lst ds)) := fun C σ δ H Q Qd k s e q => by
  subst k
  refine v C σ δ H _ _ rfl s e fun p xs ds H' n e1 hp r e => q _ _ H' e1 ?_ e
  have n1 : ¬ Zz z C δ p := s.al.na n
  have m : ∀ b, Zz z C δ b → Zd C δ b ∨ b = p := fun b h => .inl (by cases z; exact .inl h; exact h)
  have r2 := r.mono m
  exact .lst ⟨n1, hp⟩ r2.l r2.f
theorem de_n {nv : EvN} (h : DN K X e nv) : DE z K X e (fun δ Q => nv δ fun ds => Q (.lst ds)) := by
  obtain ⟨te, p, v⟩ := h
  exact ⟨te, p, ve_n v⟩
/-- [a, b, ..] as a new list -/
theorem dn_lst (h : DA true K X es et) : DN K X (.List es pos) (fun δ Q => et δ fun ds => ds.length ≤ sizeLine ∧ Q ds) := by
  obtain ⟨t, p, v⟩ := h
  refine ⟨_, fun i => pe_lst (p i), fun C σ δ H Q Qd k s e q => ?_⟩
  subst k
  refine v C σ δ H _ _ rfl s e fun xs ds H1 e1 r1 e => ⟨by rw [r1.l]; exact e.1, fun p hp => ?_⟩
  have n0 : H p = none := by
    cases x : H p with
    | none => rfl
    | some u =>
      by_cases c : ch C.S p
      · exact absurd (s.avs p (ch_sa c)) ((s.step e1).ava.na hp)
      · rw [e1.keep p u c x] at hp
        cases hp
  refine q p xs ds _ n0 (e1.trans (Stp.new hp)) upd_same (r1.move (fun b u _ h => same_new hp b u h) fun b zb => zb.imp id fun (zb : b = p) => by rw [zb]; exact hp) e.2
end
end Dl
set_option maxHeartbeats 1000000
namespace Dl
open PySem PySem.Spec PyProof.Rows L2 Lcn Sq
/-! ### statements -/
structure DEnds where
  nx : List Sl → Prop
  rt : Dt → Prop
  bk : List Sl → Prop := fun _ => False
  ct : List Sl → Prop := fun _ => False
structure EndsR (C : Ctx) (D : Ends) (Dd : DEnds) : Prop where
  nx : ∀ σ δ H, Sok C H σ δ → Dd.nx δ → D.nx σ H
  rt : ∀ v d H, Stp C.S C.H0 H → Rep C.K C.av H v d → (∀ g, g ∈ C.gh → Rep C.K C.av H g.1 g.2) → Dd.rt d → D.rt v H
  bk : ∀ σ δ H, Sok C H σ δ → Dd.bk δ → D.bk σ H
  ct : ∀ σ δ H, Sok C H σ δ → Dd.ct δ → D.ct σ H
abbrev EvS := DEnds → List Sl → Prop
def VS (K : PySem.W.Frag) (ts : TS) (sv : EvS) : Prop := ∀ (C : Ctx) (σ : L2.St) (δ : List Sl) (H : Hp) (D : Ends) (Dd : DEnds), C.K = K → Sok C H σ δ → sv Dd δ → EndsR C D Dd → ts D σ H
def DS {ι : Type} (K : PySem.W.Frag) (X : ι → Cx) (st : Stmt) (sv : EvS) : Prop := ∃ ts, (∀ i, PS (X i) st ts) ∧ VS K ts sv
def DSs {ι : Type} (K : PySem.W.Frag) (X : ι → Cx) (st : List Stmt) (sv : EvS) : Prop := ∃ ts, (∀ i, PSs (X i) st ts) ∧ VS K ts sv
section
variable {ι : Type} {K : PySem.W.Frag} {X : ι → Cx} {z o : Bool} {pos p2 pos' : Pos} {a b c e tg iter : Expr} {es : List Expr} {ea eb ec : EvE} {et : EvA} {iv : EvA} {gv : Dt → List Sl → (List Sl → Prop) → Prop} {tv : EvT} {ev : EvE} {nv : EvN} {st : Stmt} {rest body els : List Stmt} {sv sw : EvS}
def dSeq (sv sw : EvS) : EvS := fun D δ => sv { D with nx := sw D } δ
theorem dss_nil : DSs K X [] (fun D δ => D.nx δ) := ⟨_, fun _ => pss_nil, fun C σ δ H D Dd k s e q => q.nx σ δ H s e⟩
theorem dss_cons (h1 : DS K X st sv) (h2 : DSs K X rest sw) : DSs K X (st :: rest) (dSeq sv sw) := by
  obtain ⟨t, p, v⟩ := h1
  obtain ⟨t2, p2, v2⟩ := h2
  refine ⟨_, fun i => pss_cons (p i) (p2 i), fun C σ δ H D Dd k s e q => ?_⟩
  exact v C σ δ H _ _ k s e ⟨fun σ δ H s e => v2 C σ δ H D Dd k s e q, q.rt, q.bk, q.ct⟩
theorem dss_one (h1 : DS K X st sv) : DSs K X [st] sv := by
  obtain ⟨t, p, v⟩ := h1
  exact ⟨_, fun i => pss_one (p i), v⟩
/-- an own list is a thing like others from here on -/
def frz (i : Nat) (δ : List Sl) : List Sl := match δ[i]? with
  | some (.own _ c) => δ.set i (.val c.dt)
  | _ => δ
theorem Sok.frz {C : Ctx} {H : Hp} {σ : L2.St} {δ : List Sl} (s : Sok C H σ δ) (i : Nat) : Sok C H σ (frz i δ) := by
  unfold Dl.frz
  split
  · rename_i h
    exact s.freezeA h
  · exact s
theorem dss_frz (i : Nat) (h : DSs K X body sv) : DSs K X body (fun D δ => sv D (frz i δ)) := by
  obtain ⟨t, p, v⟩ := h
  exact ⟨t, p, fun C σ δ H D Dd k s e q => v C σ _ H D Dd k (s.frz i) e q⟩
theorem vs_asgV {te : TE} {i : Nat} (v : VE true K te ev) : VS K (tAsg te (gName i)) (fun D δ => ev δ fun d => D.nx (δ.set i (.val d))) := by
  intro C σ δ H D Dd k s e q
  subst k
  exact v C σ δ H _ _ rfl s e fun x d H1 e1 r e => q.nx _ _ H1 ((s.step e1).setV r) e
theorem vs_asgN {te : TE} {i : Nat} (v : VN K te nv) : VS K (tAsg te (gName i)) (fun D δ => nv δ fun ds => ∀ a, D.nx (δ.set i (.own a (.l ds)))) := by
  intro C σ δ H D Dd k s e q
  subst k
  exact v C σ δ H _ _ rfl s e fun p xs ds H1 n e1 hp r e => q.nx _ _ H1 (s.setO (xs := .lst xs) (ds := .l ds) n e1 hp r) (e p)
theorem ds_set {i : Nat} {x : Str} (hp : ∀ {te : TE} j, PE (X j) e te → PS (X j) (.Assign [.Name x pos'] e pos) (tAsg te (gName i))) (h : DE true K X e ev) : DS K X (.Assign [.Name x pos'] e pos) (fun D δ => ev δ fun d => D.nx (δ.set i (.val d))) := by
  obtain ⟨t, p, v⟩ := h
  exact ⟨_, fun j => hp j (p j), vs_asgV v⟩
theorem ds_own {i : Nat} {x : Str} (hp : ∀ {te : TE} j, PE (X j) e te → PS (X j) (.Assign [.Name x pos'] e pos) (tAsg te (gName i))) (h : DN K X e nv) : DS K X (.Assign [.Name x pos'] e pos) (fun D δ => nv δ fun ds => ∀ a, D.nx (δ.set i (.own a (.l ds)))) := by
  obtain ⟨t, p, v⟩ := h
  exact ⟨_, fun j => hp j (p j), vs_asgN v⟩
/-- name = [..] on one line -/
theorem ds_lcN {i : Nat} {y : Str} {py spos : Pos} {elt : Expr} {ifs : List Expr} {scope : Scope} {own : List (Str × Nat)} {is : List Nat} (hc : ∀ i, (X i).calm = true) (hN : ∀ i, (X i).N.Nodup) (hy : ∀ j, (X j).N[i]? = some y) (hyl : ∀ j, (X j).env.scope.names.lookup y = some .local)
    (hsw : ∀ j, swapsWith (.ListComp elt [⟨tg, iter, ifs, 0⟩] scope pos) (some (.Name y py)) spos.line (X j).env = pure true) (hi : DI o K X tg iter iv) (ok : ∀ i, BlkOk (X i).N (X i).env.scope scope own)
    (hg : DG K (bk X scope) tg gv is) (ht : DTs K (bk X scope) es tv) (he : DE true K (bk X scope) elt ev) (hv : ∀ i, i ∈ is → i ∈ own.map (·.2)) (hes : es = ifs) (hs : ∀ i, ∀ x, foldedSetIterable iter (X i).env x = pure x := by intro _ _; rfl) :
    ∃ te, (∀ j, PS (X j) (.Assign [.Name y py] (.ListComp elt [⟨tg, iter, ifs, 0⟩] scope pos) spos) (tAsg te (gName i))) ∧ VN K te (dLcN iv gv tv ev (own.map (·.2))) := by
  subst hes
  obtain ⟨wi, pi, vi⟩ := hi
  obtain ⟨g, pg, vg⟩ := hg
  obtain ⟨tt, pt, vt⟩ := ht
  obtain ⟨te, pe, ve⟩ := he
  exact ⟨_, fun i => ps_setLc (hc i) (hN i) (hy i) (hyl i) (hsw i) (pi i) (ok i) (fun s H C cl fp => pg (i, s, H, C, cl, fp)) (fun s H C cl fp => pt (i, s, H, C, cl, fp)) (fun s H C cl fp => pe (i, s, H, C, cl, fp)) (hs i), vn_lc vi vg hv vt ve⟩
theorem ds_ofN {i : Nat} (h : ∃ te, (∀ j, PS (X j) st (tAsg te (gName i))) ∧ VN K te nv) : DS K X st (fun D δ => nv δ fun ds => ∀ a, D.nx (δ.set i (.own a (.l ds)))) := by
  obtain ⟨t, p, v⟩ := h
  exact ⟨_, p, vs_asgN v⟩
theorem ds_ofV {i : Nat} (h : ∃ te, (∀ j, PS (X j) st (tAsg te (gName i))) ∧ VN K te nv) : DS K X st (fun D δ => nv δ fun ds => D.nx (δ.set i (.val (.lst ds)))) := by
  obtain ⟨t, p, v⟩ := h
  exact ⟨_, p, vs_asgV (ve_n v)⟩
theorem ds_asg {is : List Nat} (hp : ∀ {te : TE} {g : TG} j, PE (X j) e te → PG (X j) tg g → PS (X j) (.Assign [tg] e pos) (tAsg te g)) (h : DE true K X e ev) (hg : DG K X tg gv is) : DS K X (.Assign [tg] e pos) (fun D δ => ev δ fun d => gv d δ D.nx) := by
  obtain ⟨t, p, v⟩ := h
  obtain ⟨g, pg, vg⟩ := hg
  refine ⟨_, fun j => hp j (p j) (pg j), fun C σ δ H D Dd k s e q => ?_⟩
  subst k
  exact v C σ δ H _ _ rfl s e fun x d H1 e1 r e => vg C σ δ H1 x d _ _ rfl (s.step e1) r e fun σ' δ' s' _ _ _ e => q.nx _ _ _ s' e
theorem ds_par {i j : Nat} {x y : Str} {px py pt : Pos} {kt : Nat} {k2 : Nat} {pt2 : Pos} (hp : ∀ {ta : TA} l, PA (X l) [a, b] ta → PS (X l) (.Assign [.Tuple [.Name x px, .Name y py] kt pt] (.Tuple [a, b] k2 pt2) pos) (tPar i j ta)) (h : DA true K X [a, b] et) : DS K X (.Assign [.Tuple [.Name x px, .Name y py] kt pt] (.Tuple [a, b] k2 pt2) pos) (fun D δ => et δ fun ds => match ds with
    | [d, d'] => D.nx ((δ.set i (.val d)).set j (.val d'))
    | _ => False) := by
  obtain ⟨t, p, v⟩ := h
  refine ⟨_, fun l => hp l (p l), fun C σ δ H D Dd k s e q => ?_⟩
  subst k
  refine v C σ δ H _ _ rfl s e fun vs ds H1 e1 r e => ?_
  split at e
  · obtain ⟨u, w, rfl, r1, r2⟩ := repl2 r
    have s1 := (s.step e1).setV (i := i) r1
    exact ⟨u, w, rfl, q.nx _ _ H1 (s1.setV (r2.mono fun b zb => (zd_set zb).resolve_right fun z => z)) e⟩
  · exact e.elim
def dAug (i : Nat) (f : Int → Int → Int) (ea : EvE) : EvS := fun D δ => match δ[i]? with
  | some (.val (.int m)) => ea δ fun d => match d with
    | .int n => D.nx (δ.set i (.val (.int (f m n))))
    | _ => False
  | _ => False
theorem ds_aug {i : Nat} {x : Str} {op : Operator} {f : Int → Int → Int} (hp : ∀ {te : TE} j, PE (X j) e te → PS (X j) (.AugAssign (.Name x pos') op e pos) (tAug i te (ipI f))) (h : DE true K X e ev) : DS K X (.AugAssign (.Name x pos') op e pos) (dAug i f ev) := by
  obtain ⟨t, p, v⟩ := h
  refine ⟨_, fun j => hp j (p j), fun C σ δ H D Dd k s e q => ?_⟩
  subst k
  unfold dAug at e
  split at e
  · rename_i m h
    obtain ⟨w, h1, h2⟩ := s.sl i _ h
    refine ⟨w, h1, v C σ δ H _ _ rfl s e fun y d H1 e1 r e => ?_⟩
    split at e
    · exact ⟨m, _, h2.int_inv, r.int_inv, q.nx _ _ H1 ((s.step e1).setV (.int _)) e⟩
    · exact e.elim
  · exact e.elim
/-- own.append(e) -/
def dApp (i : Nat) (ea : EvE) : EvS := fun D δ => match δ[i]? with
  | some (.own a (.l ds)) => ea δ fun d => ds.length < sizeLine ∧ D.nx (δ.set i (.own a (.l (ds ++ [d]))))
  | _ => False
theorem ds_app {i : Nat} {x : Str} {px apos cpos : Pos} (hp : ∀ {te : TE} j, PE (X j) e te → PS (X j) (.Expr (.Call (.Attribute (.Name x px) "append" apos) [e] [] cpos) pos) (tDrop (tBM (X j).K "list" rAppend (tVar i) (tCons te tNil)))) (h : DE true K X e ev) (hK : ∀ i, (X i).K = K := by intro _; rfl) : DS K X (.Expr (.Call (.Attribute (.Name x px) "append" apos) [e] [] cpos) pos) (dApp i ev) := by
  obtain ⟨t, p, v⟩ := h
  refine ⟨tDrop (tBM K "list" rAppend (tVar i) (tCons t tNil)), fun j => hK j ▸ hp j (p j), fun C σ δ H D Dd k s e q => ?_⟩
  subst k
  unfold dApp at e
  split at e
  · rename_i a ds h
    obtain ⟨h1, _, h3, xs, h5, h6⟩ := s.lstAt h
    refine ⟨.ref a, h1, .inl ⟨rfl, xs, SqL.of h5⟩, v C σ δ H _ _ rfl s e fun y d H1 e1 r e => ?_⟩
    have s1 := s.step e1
    obtain ⟨_, _, _, ys, h7, h8⟩ := s1.lstAt h
    exact ⟨a, ys, y, rfl, rfl, h7, by rw [h8.l]; exact e.1, q.nx _ _ _ (s1.upO (ys := .lst (ys ++ [y])) (es := .l (ds ++ [d])) h (h8.append (.cons r .nil))) e.2⟩
  · exact e.elim
/-- own[e] = e2 -/
def dPut (i : Nat) (eb ea : EvE) : EvS := fun D δ => ea δ fun d => match δ[i]? with
  | some (.own a (.l ds)) => eb δ fun y => match y with
    | .int k => ∃ j, ixN ds.length k = some j ∧ D.nx (δ.set i (.own a (.l (ds.set j d))))
    | _ => False
  | _ => False
theorem ds_put {i : Nat} {x : Str} {px tpos : Pos} (hp : ∀ {te tb : TE} j, PE (X j) e te → PE (X j) b tb → PS (X j) (.Assign [.Subscript (.Name x px) b tpos] e pos) (tAsg te (gSub (tVar i) tb rSetL))) (h : DE true K X e ea) (hb : DE true K X b eb) : DS K X (.Assign [.Subscript (.Name x px) b tpos] e pos) (dPut i eb ea) := by
  obtain ⟨t, p, v⟩ := h
  obtain ⟨t2, p2, v2⟩ := hb
  refine ⟨_, fun j => hp j (p j) (p2 j), fun C σ δ H D Dd k s e q => ?_⟩
  subst k
  refine v C σ δ H _ _ rfl s e fun y d H1 e1 r e => ?_
  split at e
  · rename_i a ds h
    have s1 := s.step e1
    obtain ⟨h1, _, _, xs, h5, h6⟩ := s1.lstAt h
    refine ⟨.ref a, h1, v2 C σ δ H1 _ _ rfl s1 e fun w d2 H2 e2 r2 e => ?_⟩
    split at e
    · rename_i kk
      obtain ⟨j, hj, e⟩ := e
      have s2 := s1.step e2
      obtain ⟨_, _, _, ys, h7, h8⟩ := s2.lstAt h
      exact ⟨a, ys, kk, j, rfl, r2.int_inv, h7, by rw [h8.l]; exact hj, q.nx _ _ _ (s2.upO (ys := .lst (ys.set j y)) (es := .l (ds.set j d)) h (h8.set (rep_step s1 e2 r) j)) e⟩
    · exact e.elim
  · exact e.elim
def dIf (tv : EvT) (sv sw : EvS) : EvS := fun D δ => tv δ fun b => if b = true then sv D δ else sw D δ
theorem ds_if (hc : DT K X c tv) (h1 : DSs K X body sv) (h2 : DSs K X els sw) : DS K X (.If c body els pos) (dIf tv sv sw) := by
  obtain ⟨t, p, v⟩ := hc
  obtain ⟨t1, p1, v1⟩ := h1
  obtain ⟨t2, p2, v2⟩ := h2
  refine ⟨_, fun i => ps_if (p i) (p1 i) (p2 i), fun C σ δ H D Dd k s e q => ?_⟩
  refine v C σ δ H _ _ k s e fun b H1 e1 e => ?_
  cases b
  · exact v2 C σ δ H1 D Dd k (s.step e1) e q
  · exact v1 C σ δ H1 D Dd k (s.step e1) e q
theorem ds_ret (h : DE false K X e ev) : DS K X (.Return (some e) pos) (fun D δ => ev δ D.rt) := by
  obtain ⟨t, p, v⟩ := h
  refine ⟨_, fun i => ps_ret (p i), fun C σ δ H D Dd k s e q => ?_⟩
  subst k
  exact v C σ δ H _ _ rfl s e fun x d H1 e1 r e => q.rt x d H1 (s.st.trans e1) r (fun g m => ((s.step e1).gh g m).mono fun b z => .inl z) e
theorem ds_retN : DS K X (.Return none pos) (fun D δ => D.rt .non) := ⟨_, fun i => ps_retN, fun C σ δ H D Dd k s e q => q.rt .non .non H s.st .non (fun g m => (s.gh g m).mono fun b z => .inl z) e⟩
theorem ds_expr (h : DE false K X e ev) (hs : ∀ i, swapsWith e none pos.line (X i).env = pure false := by intro _; rfl) : DS K X (.Expr e pos) (fun D δ => ev δ fun _ => D.nx δ) := by
  obtain ⟨t, p, v⟩ := h
  refine ⟨_, fun i => ps_expr (p i) (hs i), fun C σ δ H D Dd k s e q => ?_⟩
  exact v C σ δ H _ _ k s e fun x d H1 e1 r e => q.nx _ _ H1 (s.step e1) e
theorem ds_pass : DS K X (.Pass pos) (fun D δ => D.nx δ) := ⟨_, fun i => ps_pass, fun C σ δ H D Dd k s e q => q.nx _ _ H s e⟩
theorem ds_break : DS K X (.Break pos) (fun D δ => D.bk δ) := ⟨_, fun i => ps_break, fun C σ δ H D Dd k s e q => q.bk _ _ H s e⟩
theorem ds_continue : DS K X (.Continue pos) (fun D δ => D.ct δ) := ⟨_, fun i => ps_continue, fun C σ δ H D Dd k s e q => q.ct _ _ H s e⟩
theorem ds_never : DS K X st (fun _ _ => False) := ⟨_, fun i => ps_never, fun C σ δ H D Dd k s e q => e.elim⟩
/-! ### loops -/
def dForL (gv : Dt → List Sl → (List Sl → Prop) → Prop) (bv : EvS) (D : DEnds) : List Dt → List Sl → Prop
  | [], δ => D.nx δ
  | d :: r, δ => gv d δ fun δ2 => bv { nx := dForL gv bv D r, rt := D.rt, bk := D.nx, ct := dForL gv bv D r } δ2
def dFor (iv : EvA) (gv : Dt → List Sl → (List Sl → Prop) → Prop) (bv : EvS) : EvS := fun D δ => iv δ fun ds => dForL gv bv D ds δ
theorem vs_for_at {is : List Nat} {wi : TI} {g : TG} {tb : TS} {C : Ctx} {σ : L2.St} {δ : List Sl} {H : Hp} {D : Ends} {Dd : DEnds} (vi : VIat false K wi iv C σ δ H) (vg : VG K g gv is) (vb : VS K tb sv) (k : C.K = K) (s : Sok C H σ δ) (e : dFor iv gv sv Dd δ) (q : EndsR C D Dd) : tFor wi g tb D σ H := by
  subst k
  refine vi _ _ rfl s e fun J n G Y ds H1 base gs w hn e1 hb0 hbk hgs it e => ?_
  have hb1 := hb0 rfl
  have s1 : Sok { C with gh := gs ++ C.gh } H1 σ δ := (s.step e1).ghost hgs
  refine for_it w (fun i σ H => ∃ δ, Sok { C with gh := gs ++ C.gh } H σ δ ∧ dForL gv sv Dd (ds.drop i) δ) ⟨δ, s1, by rw [List.drop_zero]; exact e⟩ (fun i σ H _ ⟨δ, s, _⟩ => it.g _ H s.alz (hb1 H s.st) s.unghost.2) (fun i x σ2 H2 H3 hi ⟨δ2, s2, e⟩ y => ?_) (fun σ2 H2 ⟨δ2, s2, e⟩ => ?_)
  · have hid : i < ds.length := by omega
    rw [List.drop_eq_getElem_cons hid] at e
    obtain ⟨sm, rx⟩ := it.y i ds[i] _ H2 x H3 (List.getElem?_eq_getElem hid) s2.alz (hb1 H2 s2.st) s2.unghost.2 y
    have s3 := s2.step (Stp.of sm)
    refine vg { C with gh := gs ++ C.gh } σ2 δ2 H3 x ds[i] _ _ rfl s3 rx e fun σ4 δ4 s4 _ _ _ e => ?_
    exact vb { C with gh := gs ++ C.gh } σ4 δ4 H3 _ _ rfl s4 e ⟨fun σ δ H s e => ⟨δ, s, e⟩, fun v d H e r gh => q.rt v d H e r fun g m => gh g (List.mem_append_right _ m), fun σ δ H s e => q.nx σ δ H s.unghost.1 e, fun σ δ H s e => ⟨δ, s, e⟩⟩
  · rw [List.drop_eq_nil_of_le (by omega)] at e
    exact q.nx σ2 δ2 H2 s2.unghost.1 e
theorem ds_for {is : List Nat} (hc : ∀ i, (X i).calm = true) (hi : DI false K X tg iter iv) (hg : DG K X tg gv is) (hb : DSs K X body sv) (hpo : ∀ i, PassesOwn (model (X i).prog (X i).w) (X i).A (X i).env (X i).xe) (hs : ∀ i, ∀ x, foldedSetIterable iter (X i).env x = pure x := by intro _ _; rfl) : DS K X (.For tg iter body [] pos) (dFor iv gv sv) := by
  obtain ⟨wi, pi, vi⟩ := hi
  obtain ⟨g, pg, vg⟩ := hg
  obtain ⟨tb, pb, vb⟩ := hb
  exact ⟨_, fun i => ps_for (hpo i) (hc i) (pi i) (pg i) (pb i) (hs i), fun C σ δ H D Dd k s e q => vs_for_at (vi C σ δ H) vg vb k s e q⟩
def dWhile (tv : EvT) (bv : EvS) : EvS := fun D δ => ∃ W : Nat → List Sl → Prop, (∃ m, W m δ) ∧ ∀ m δ, W m δ → tv δ fun b => if b = true then bv { nx := fun δ' => ∃ m', m' < m ∧ W m' δ', rt := D.rt, bk := D.nx, ct := fun δ' => ∃ m', m' < m ∧ W m' δ' } δ else D.nx δ
theorem ds_while (hc : DT K X c tv) (hb : DSs K X body sv) (hpo : ∀ i, PassesOwn (model (X i).prog (X i).w) (X i).A (X i).env (X i).xe) : DS K X (.While c body [] pos) (dWhile tv sv) := by
  obtain ⟨t, p, v⟩ := hc
  obtain ⟨tb, pb, vb⟩ := hb
  refine ⟨_, fun i => ps_while (hpo i) (p i) (pb i), fun C σ δ H D Dd k s e q => ?_⟩
  obtain ⟨W, ⟨m0, w0⟩, e⟩ := e
  refine ⟨fun m σ H => ∃ δ, Sok C H σ δ ∧ W m δ, ⟨m0, δ, s, w0⟩, ?_⟩
  rintro m σ H ⟨δ, s, w⟩
  refine v C σ δ H _ _ k s (e m δ w) fun b H1 e1 e => ?_
  cases b
  · exact q.nx σ δ H1 (s.step e1) e
  · refine ⟨fun σ' H' => ∃ m', m' < m ∧ ∃ δ', Sok C H' σ' δ' ∧ W m' δ', fun σ' H' ⟨m', hm, δ', s', w'⟩ => ⟨m', hm, δ', s', w'⟩, ?_⟩
    exact vb C σ δ H1 _ _ k (s.step e1) e ⟨fun σ δ H s ⟨m', hm, w'⟩ => ⟨m', hm, δ, s, w'⟩, q.rt, q.nx, fun σ δ H s ⟨m', hm, w'⟩ => ⟨m', hm, δ, s, w'⟩⟩
end
/-! ### defs: promises over data -/
def ArgOk (S : Sc) (K : PySem.W.Frag) (av : Addr → Prop) (H : Hp) (v : V) : Sl → Prop
  | .val d => Rep K av H v d
  | .src => ∃ z, S = some z ∧ v = .ref z.1
  | .srt T => ∃ z, S = some z ∧ v = .ref z.1 ∧ z.2.2.2 = T
  | _ => False
structure ArgsOk (S : Sc) (K : PySem.W.Frag) (av : Addr → Prop) (H : Hp) (vs : List V) (δ : List Sl) : Prop where
  l : vs.length = δ.length
  f : ∀ (i : Nat) (v : V) (s : Sl), vs[i]? = some v → δ[i]? = some s → ArgOk S K av H v s
abbrev Spc := List Sl → (Dt → Prop) → Prop
def dsp (K : PySem.W.Frag) (n : Nat) (sp : Spc) : Sp := fun vs H Q _ => ∃ (S : Sc) (av : Addr → Prop) (δ : List Sl) (Qd : Dt → Prop), (∀ b, sa S b → av b) ∧ Al av H ∧ Gs S H ∧ ArgsOk S K av H vs δ ∧ δ.length = n ∧ sp δ Qd ∧ ∀ v d H', Stp S H H' → Rep K av H' v d → Qd d → Q v H'
theorem start_at {N : List Str} {vs : List V} {i : Nat} : i < vs.length → (L2.start N vs)[i]? = (vs[i]?).map some := fun h => by
  unfold L2.start
  rw [List.getElem?_append_left (by simpa using h), List.getElem?_map]
/-- the state at a def's entry -/
def st0 (N : List Str) (δ : List Sl) : List Sl := δ ++ List.replicate (N.length - δ.length) .any
theorem sok_start {K : PySem.W.Frag} {S : Sc} {av : Addr → Prop} {H : Hp} {N : List Str} {vs : List V} {δ : List Sl} (h1 : ∀ b, sa S b → av b) (h2 : Al av H) (h3 : Gs S H) (a : ArgsOk S K av H vs δ) : Sok ⟨K, S, av, H, []⟩ H (L2.start N vs) (st0 N δ) := by
  have noo : ∀ (i : Nat) (a' : Addr) (ds : Oc), (st0 N δ)[i]? ≠ some (.own a' ds) := fun i a' ds h => by
    unfold st0 at h
    rcases Nat.lt_or_ge i δ.length with lt | ge
    · rw [List.getElem?_append_left lt] at h
      have hv : vs[i]? = some (vs[i]'(by rw [a.l]; exact lt)) := List.getElem?_eq_getElem _
      exact a.f i _ _ hv h
    · rw [List.getElem?_append_right ge, List.getElem?_replicate] at h
      split at h
      · cases h
      · cases h
  have hz : ∀ b, Zd ⟨K, S, av, H, []⟩ (st0 N δ) b → av b := fun b z => z.elim id fun ⟨s, m, e⟩ => by
    cases s with
    | own a' ds =>
      obtain ⟨i, hi⟩ := List.mem_iff_getElem?.mp m
      exact absurd hi (noo i a' ds)
    | _ => exact e.elim
  refine ⟨?_, fun i s h => ?_, fun i j u t b g1 g2 f1 f2 => ?_, fun i a' c h => absurd h (noo i a' c), h3, Stp.refl H, h1, h2, fun p m => nomatch m⟩
  · unfold L2.start st0
    rw [List.length_append, List.length_append, List.length_map, List.length_replicate, List.length_replicate, a.l]
  · have h' := h
    unfold st0 at h
    rcases Nat.lt_or_ge i δ.length with lt | ge
    · rw [List.getElem?_append_left lt] at h
      have lv : i < vs.length := by rw [a.l]; exact lt
      have hv : vs[i]? = some vs[i] := List.getElem?_eq_getElem lv
      have q := a.f i _ s hv h
      rw [start_at lv, hv]
      cases s with
      | any => exact q.elim
      | val d => exact ⟨_, rfl, Rep.mono (av := av) q hz⟩
      | own a' ds => exact q.elim
      | src =>
        obtain ⟨z, e1, e2⟩ := q
        exact ⟨z, e1, by rw [Option.map_some, e2]⟩
      | srt T =>
        obtain ⟨z, e1, e2, e3⟩ := q
        exact ⟨z, e1, by rw [Option.map_some, e2], e3⟩
    · rw [List.getElem?_append_right ge, List.getElem?_replicate] at h
      split at h
      · cases h
        trivial
      · cases h
  · cases u with
    | own a' ds => exact absurd g1 (noo i a' ds)
    | _ => exact f1.elim
section
variable {P : Program} {w : World} {K : PySem.W.Frag} {mg : Str → Option Value} {base : Heap}
theorem fn_d {x qual : Str} {params : Arguments} {body : List Stmt} {scope : Scope} {dvs : List V} {kws : List (Str × V)} {f : Addr} {fd : FuncData} {N ps : List Str} {k : Nat} {sp : Spc} {sv : EvS} (F : FunD K x qual params body scope dvs kws f fd) (S : FnScope N ps scope)
    (hbody : ∀ (cdv : Value) (A : Around) (outer : List Env) (s : Shared) (H : Hp) (E : XK), Room k (A.deeper (PyProof.Rows.envOfC qual scope s.heap.objs.size f cdv)) → DSs K (fun _ : Unit => (cxOf CX0 P w K mg base N qual scope f cdv A outer s H E).nox) body sv)
    (hsp : ∀ (δ : List Sl) (Qd : Dt → Prop), δ.length = ps.length → sp δ Qd → sv { nx := fun _ => Qd .non, rt := Qd } (st0 N δ)) : FnOk P w K mg base CX0 (k + 1) f fd ps (dsp K ps.length sp) := by
  refine F.ok S (fun vs H Q E h => ?_) fun cdv A outer s H vs Q E hr h => ?_
  · obtain ⟨S, av, δ, Qd, _, _, _, a, l, _⟩ := h
    rw [a.l, l]
  · obtain ⟨S, av, δ, Qd, h1, h2, h3, a, l, hs, q⟩ := h
    obtain ⟨ts, p, v⟩ := hbody cdv A outer s H E hr
    refine ⟨ts, (p ()).nox, v ⟨K, S, av, H, []⟩ _ _ H _ _ rfl (sok_start h1 h2 h3 a) (hsp δ Qd l hs) ⟨fun σ δ H' s e => q .non .non H' s.st .non e, fun x d H' e r _ qd => q x d H' e r qd, fun _ _ _ _ e => e.elim, fun _ _ _ _ e => e.elim⟩⟩
end
/-! ### calls of defs -/
abbrev EvL := List Sl → (Sl → Prop) → Prop
abbrev EvLs := List Sl → (List Sl → Prop) → Prop
def VLs (z : Bool) (K : PySem.W.Frag) (te : TA) (ev : EvLs) : Prop := ∀ (C : Ctx) (σ : L2.St) (δ : List Sl) (H : Hp) (Q : List V → Hp → Prop) (Qd : List Sl → Prop), C.K = K → Sok C H σ δ → ev δ Qd → (∀ vs ss H', Stp C.S H H' → ArgsOk C.S K (Zz z C δ) H' vs ss → Qd ss → Q vs H') → te σ H Q
def DLs {ι : Type} (z : Bool) (K : PySem.W.Frag) (X : ι → Cx) (es : List Expr) (ev : EvLs) : Prop := ∃ te, (∀ i, PA (X i) es te) ∧ VLs z K te ev
section
variable {ι : Type} {K : PySem.W.Frag} {X : ι → Cx} {z : Bool} {pos : Pos} {e : Expr} {es : List Expr} {ea : EvE} {et : EvLs}
theorem args_cons {S : Sc} {av : Addr → Prop} {H : Hp} {v : V} {s : Sl} {vs : List V} {ss : List Sl} (h : ArgOk S K av H v s) (t : ArgsOk S K av H vs ss) : ArgsOk S K av H (v :: vs) (s :: ss) := ⟨by rw [List.length_cons, List.length_cons, t.l], fun i x u h1 h2 => by
  cases i with
  | zero => cases h1; cases h2; exact h
  | succ j => exact t.f j x u h1 h2⟩
theorem dl_nil : DLs z K X [] (fun _ Q => Q []) := ⟨_, fun _ => pa_nil, fun C σ δ H Q Qd k s e q => q [] [] H (Stp.refl H) ⟨rfl, fun i v s h => by cases i <;> cases h⟩ e⟩
theorem dl_val (ha : DE z K X e ea) (hr : DLs z K X es et) (hs : ∀ i, starEach (e :: es) (X i).env = (false, eval e (X i).env) :: starEach es (X i).env := by intro _; rfl) : DLs z K X (e :: es) (fun δ Q => ea δ fun d => et δ fun ss => Q (.val d :: ss)) := by
  obtain ⟨t, p, v⟩ := ha
  obtain ⟨t2, p2, v2⟩ := hr
  refine ⟨_, fun i => pa_cons (p i) (p2 i) (hs i), fun C σ δ H Q Qd k s e q => ?_⟩
  subst k
  refine v C σ δ H _ _ rfl s e fun x d H1 e1 r1 e => ?_
  refine v2 C σ δ H1 _ _ rfl (s.step e1) e fun vs ds H2 e2 r2 e => q _ _ H2 (e1.trans e2) (args_cons (s := .val d) (rep_st (s.step e1) e2 r1) r2) e
def dSrcA (i : Nat) (et : EvLs) : EvLs := fun δ Q => match δ[i]? with
  | some .src => et δ fun ss => Q (.src :: ss)
  | some (.srt T) => et δ fun ss => Q (.src :: ss) ∨ Q (.srt T :: ss)
  | _ => False
theorem dl_src {i : Nat} {x : Str} {p3 : Pos} (p : ∀ j, PE (X j) (.Name x p3) (tVar i)) (hr : DLs z K X es et) (hs : ∀ i, starEach (.Name x p3 :: es) (X i).env = (false, eval (.Name x p3) (X i).env) :: starEach es (X i).env := by intro _; rfl) : DLs z K X (.Name x p3 :: es) (dSrcA i et) := by
  obtain ⟨t2, p2, v2⟩ := hr
  refine ⟨_, fun j => pa_cons (p j) (p2 j) (hs j), fun C σ δ H Q Qd k s e q => ?_⟩
  subst k
  unfold dSrcA at e
  split at e
  · rename_i h
    obtain ⟨z, h1, h2⟩ := s.sl i _ h
    refine ⟨.ref z.1, h2, v2 C σ δ H _ _ rfl s e fun vs ds H2 e2 r2 e => q _ _ H2 e2 (args_cons (s := .src) ⟨z, h1, rfl⟩ r2) e⟩
  · rename_i T h
    obtain ⟨z, h1, h2, h3⟩ := s.sl i _ h
    refine ⟨.ref z.1, h2, v2 C σ δ H _ _ rfl s e fun vs ds H2 e2 r2 e => ?_⟩
    rcases e with e | e
    · exact q _ _ H2 e2 (args_cons (s := .src) ⟨z, h1, rfl⟩ r2) e
    · exact q _ _ H2 e2 (args_cons (s := .srt T) ⟨z, h1, rfl, h3⟩ r2) e
  · exact e.elim
theorem de_call {x : Str} {p : Pos} {n : Nat} {sp : Spc} (hp : ∀ {t : TA} i, PA (X i) (e :: es) t → PE (X i) (.Call (.Name x p) (e :: es) [] pos) (tCall (dsp K n sp) [] E0 t)) (ha : DLs z K X (e :: es) et) : DE z K X (.Call (.Name x p) (e :: es) [] pos) (fun δ Q => et δ fun ss => ss.length = n ∧ sp ss Q) := by
  obtain ⟨t, pa, v⟩ := ha
  refine ⟨_, fun i => hp i (pa i), fun C σ δ H Q Qd k s e q => ?_⟩
  subst k
  refine v C σ δ H _ _ rfl s e fun vs ss H1 e1 r e => ?_
  have s1 := s.step e1
  refine ⟨C.S, Zz z C δ, ss, Qd, fun b hb => ?_, s1.al, s1.g, ?_, e.1, e.2, fun v d H2 e2 r2 qd => q v d H2 (e1.trans e2) r2 qd⟩
  · cases z
    · exact s.avs b hb
    · exact .inl (s.avs b hb)
  · rw [List.append_nil]
    exact r
end
end Dl
set_option maxHeartbeats 4000000
/-! zip(x, y), each a list or a tuple -/
namespace Zm
open PySem PySem.Spec PyProof.Rows L2 Sq
/-- k: a list; else a tuple -/
def sqK (k : Bool) (K : PySem.W.Frag) (H : Hp) (a : Addr) (xs : List V) : Prop := match k with
  | true => SqL K H a xs
  | false => SqT K H a xs
def itK (k : Bool) (h : Heap) (it l : Addr) (i : Nat) : Prop := match k with
  | true => h.IsListIter it l i
  | false => h.IsTupleIter it l i
def isK (k : Bool) (h : Heap) (l : Addr) (its : Array Value) : Prop := match k with
  | true => h.IsList l its
  | false => h.IsTuple l its
theorem itK.at' {k : Bool} {h h' : Heap} {it l : Addr} {i : Nat} (x : itK k h it l i) (e : ∀ o, h.get? it = some o → h'.get? it = some o) : itK k h' it l i := by
  cases k
  · exact Heap.IsTupleIter.at x e
  · exact Heap.IsListIter.at x e
theorem itK.obj {k : Bool} {h : Heap} {it l : Addr} {i : Nat} (x : itK k h it l i) : ∃ o, h.get? it = some o ∧ ∀ v, o.data ≠ .cell v := by
  cases k
  · obtain ⟨o, e, _, d⟩ := x
    exact ⟨o, e, fun v q => by rw [d] at q; cases q⟩
  · obtain ⟨o, e, _, d⟩ := x
    exact ⟨o, e, fun v q => by rw [d] at q; cases q⟩
theorem isK.lt {k : Bool} {h : Heap} {l : Addr} {its : Array Value} (x : isK k h l its) : l < h.objs.size := by
  cases k
  · obtain ⟨o, e, _⟩ := x
    exact Heap.lt_size e
  · obtain ⟨o, e, _⟩ := x
    exact Heap.lt_size e
theorem drawK {prog : Program} {w : World} {A : Around} (hh : A.handled = none) (k : Bool) (it l : Addr) (hne : l ≠ it) (its : Array Value) :
    PySem.Draws prog w A it [it, l] its.size (fun i v => its[i]? = some v) (fun i h => itK k h it l i ∧ isK k h l its) := by
  cases k
  · exact PySem.Draws.tuple hh it l hne its
  · exact PySem.Draws.list hh it l hne its
theorem seqK {X : Cx} {pins : List (Addr × Obj)} {σ : L2.St} {H : Hp} {s : Shared} {k : Bool} {a : Addr} {xs : List V} (I : Inv X pins σ H s) (h : sqK k X.K H a xs) : ∃ its : List Value, Vals xs its ∧ isK k s.heap a its.toArray := by
  cases k
  · obtain ⟨its, r, p, _⟩ := I.tuple h
    exact ⟨its, r, p⟩
  · obtain ⟨its, r, p, _⟩ := I.list h
    exact ⟨its, r, p.isList⟩
theorem injK {X : Cx} {pins : List (Addr × Obj)} {σ : L2.St} {H : Hp} {s : Shared} {k : Bool} {a : Addr} {xs ys : List V} (I : Inv X pins σ H s) (h : sqK k X.K H a xs) (h' : sqK k X.K H a ys) : xs = ys := by
  cases k
  · exact I.tuple_inj h h'
  · exact I.list_inj h h'
/-- what is at a and b, side by side in new pairs -/
def Itm (K : PySem.W.Frag) (j k : Bool) (a b : Addr) : It :=
  ⟨fun i H => ∃ (xs ys : List V), sqK j K H a xs ∧ sqK k K H b ys ∧ i < xs.length ∧ i < ys.length,
    fun i H v H' => ∃ T x y, v = .ref T ∧ H T = none ∧ H' = upd H T (.tup [x, y]) ∧ (∀ xs, sqK j K H a xs → xs[i]? = some x) ∧ ∀ ys, sqK k K H b ys → ys[i]? = some y,
    fun i H => ∃ xs ys : List V, sqK j K H a xs ∧ sqK k K H b ys ∧ i ≤ xs.length ∧ i ≤ ys.length ∧ (i = xs.length ∨ i = ys.length)⟩
def Ap (z TI TO i1 i2 : Addr) : Prop := TI ≠ z ∧ TO ≠ z ∧ TI ≠ TO ∧ TI ≠ i1 ∧ TI ≠ i2 ∧ i1 ≠ z ∧ i2 ≠ z ∧ i1 ≠ TO ∧ i2 ≠ TO ∧ i1 ≠ i2
section
variable {P : Program} {w : World} {K : PySem.W.Frag} {elts : List Expr} {kk : Nat} {tpos : Pos} {j k : Bool} {a b z TI TO i1 i2 : Addr}
def Tn (j k : Bool) (a b z TI TO i1 i2 : Addr) (i : Nat) (h : Heap) : Prop := IsZip h z TI TO .none ∧ IsTupOf2 h TI (.ref i1) (.ref i2) ∧ (∃ x y, IsTupOf2 h TO x y) ∧ itK j h i1 a i ∧ itK k h i2 b i
theorem sepOf (D : Ap z TI TO i1 i2) {l1 l2 : Addr} (a1 : l1 ∉ [z, TI, TO, i1, i2]) (a2 : l2 ∉ [z, TI, TO, i1, i2]) : ZipSep2 z TI TO i1 i2 [i1, l1] [i2, l2] := by
  obtain ⟨d1, d2, d3, d4, d5, d6, d7, d8, d9, d10⟩ := D
  simp only [List.mem_cons, List.not_mem_nil, or_false, not_or] at a1 a2
  obtain ⟨b1, b2, b3, b4, b5⟩ := a1
  obtain ⟨c1, c2, c3, c4, c5⟩ := a2
  refine ⟨d1, d2, d3, d4, by simp, ?_, ?_, d5, by simp, ?_, ?_, ?_, ?_⟩ <;> simp only [List.mem_cons, List.not_mem_nil, or_false, not_or]
  · exact ⟨Ne.symm d6, Ne.symm b1⟩
  · exact ⟨Ne.symm d8, Ne.symm b3⟩
  · exact ⟨Ne.symm d7, Ne.symm c1⟩
  · exact ⟨Ne.symm d9, Ne.symm c3⟩
  · exact ⟨d10, Ne.symm c4⟩
  · exact ⟨Ne.symm d10, Ne.symm b5⟩
/-- a tracked or written container is none of the iterator's objects -/
theorem notFp {X : Cx} {pins : List (Addr × Obj)} {σ : L2.St} {H : Hp} {s : Shared} {a : Addr} {xs : List V} (I : Inv X pins σ H s) (h : sqK k X.K H a xs) {fp : List Addr} (hf : ∀ c ∈ fp, FpOk X pins H c) : a ∉ fp := fun m => by
  obtain ⟨n0, _, _, young, _⟩ := hf a m
  have old : ∀ o, X.K.lookup a = some o → False := fun o e => by
    have e1 : X.base.get? a = some o := I.mod.kin a o e
    rcases young with y | y
    · exact I.ok.noex a o e1 y
    · exact absurd (Nat.lt_of_lt_of_le (Heap.lt_size e1) (Nat.le_trans I.ok.bsz y)) (Nat.lt_irrefl _)
  cases k
  · rcases h with (h | ⟨o, h⟩) | ⟨o, _, _, h, _⟩
    · rw [n0] at h; cases h
    · rw [n0] at h; cases h
    · exact old o h
  · rcases h with (h | ⟨o, h⟩) | ⟨o, _, _, h, _⟩
    · rw [n0] at h; cases h
    · rw [n0] at h; cases h
    · exact old o h
theorem turnM (D : Ap z TI TO i1 i2) : Turn P w K (.Tuple elts kk tpos) (Itm K j k a b) [z, TI, TO, i1, i2] z (Tn j k a b z TI TO i1 i2) where
  mem := by simp
  obj := fun i h st c hc => by
    obtain ⟨hz, hTI, ⟨x, y, hTO⟩, h1, h2⟩ := st
    simp only [List.mem_cons, List.not_mem_nil, or_false] at hc
    rcases hc with rfl | rfl | rfl | rfl | rfl
    · exact ⟨_, hz, fun v q => nomatch q⟩
    · exact ⟨_, hTI, fun v q => nomatch q⟩
    · exact ⟨_, hTO, fun v q => nomatch q⟩
    · exact h1.obj
    · exact h2.obj
  keep := fun i h h' st e => by
    obtain ⟨hz, hTI, ⟨x, y, hTO⟩, h1, h2⟩ := st
    exact ⟨e _ (by simp) _ hz, e _ (by simp) _ hTI, ⟨x, y, e _ (by simp) _ hTO⟩, h1.at' fun o q => e _ (by simp) o q, h2.at' fun o q => e _ (by simp) o q⟩
  item := by
    intro X hP hw hK hc i pins s σ H E I hf st hg
    subst hP hw hK
    obtain ⟨hz, hTI, ⟨x0, y0, hTO⟩, h1, h2⟩ := st
    obtain ⟨xs, ys, hqx, hqy, lx, ly⟩ := hg
    obtain ⟨its, rv, p1⟩ := seqK I hqx
    obtain ⟨its2, rv2, p2⟩ := seqK I hqy
    have l1 := rv.length
    have l2 := rv2.length
    have n1 := notFp I hqx hf
    have n2 := notFp I hqy hf
    have D' := D
    obtain ⟨d1, d2, d3, d4, d5, d6, d7, d8, d9, d10⟩ := D
    have hh : X.A.in1.handled = none := I.ok.hd hc
    have hzl : z < s.heap.objs.size := Heap.lt_size hz
    have ne1 : a ≠ i1 := fun e => n1 (by rw [e]; simp)
    have ne2 : b ≠ i2 := fun e => n2 (by rw [e]; simp)
    refine wpAny_pyNext_zipD2_item (sepOf D' n1 n2) (drawK hh j i1 a ne1 its.toArray) (drawK hh k i2 b ne2 its2.toArray) hz hTI hTO ⟨h1, p1⟩ ⟨h2, p2⟩ (by simp; omega) (by simp; omega) fun u u2 h' tk hu hu2 z' TO' s1' s2' hT hsz hk => ?_
    refine ⟨_, rfl, wpAny_letOwnedTupleGo_zip (s := { s with heap := h', toks := tk }) z' fun h'' z'' sb => ?_⟩
    have hx : xs[i]? = some xs[i] := List.getElem?_eq_getElem lx
    have hy : ys[i]? = some ys[i] := List.getElem?_eq_getElem ly
    obtain ⟨v1, e1, r1⟩ := rv.get hx
    obtain ⟨v2, e2, r2⟩ := rv2.get hy
    have q1 : v1 = u := by
      have : its[i]? = some u := by simpa using hu
      rw [e1] at this
      exact Option.some.inj this
    have q2 : v2 = u2 := by
      have : its2[i]? = some u2 := by simpa using hu2
      rw [e2] at this
      exact Option.some.inj this
    subst q1 q2
    have hT2 : h''.get? s.heap.objs.size = some { cls := .type "tuple", data := .seq #[v1, v2] } := (sb.2 _ (Nat.ne_of_gt hzl)).trans hT
    have made : ObjOk X.prog X.w (upd H s.heap.objs.size (.tup [xs[i], ys[i]])) h'' s.heap.objs.size (.tup [xs[i], ys[i]]) := ⟨by show 2 ≤ sizeLine; decide, [v1, v2], .cons r1 (.cons r2 .nil), ⟨_, hT2, rfl, _, rfl⟩⟩
    have stays : ∀ c o, c ∉ [z, TI, TO, i1, i2] → s.heap.get? c = some o → h''.get? c = some o := fun c o m e => by
      simp only [List.mem_cons, List.not_mem_nil, or_false, not_or] at m
      obtain ⟨m1, _, m3, m4, m5⟩ := m
      exact (sb.2 c m1).trans (hk c o m1 m3 m4 m5 e)
    have I1 := I.turnedNew (t' := tk) (ch := [z, TI, TO, i1, i2]) stays hf (Nat.le_refl _) made
    refine ⟨.ref s.heap.objs.size, _, I1, rfl, ⟨_, _, _, rfl, I.hok.fresh (Nat.le_refl _), rfl, fun l hl => ?_, fun l hl => ?_⟩, ⟨z'', (sb.2 _ d1).trans (hk _ _ d1 d3 d4 d5 hTI), ⟨v1, v2, (sb.2 _ d2).trans TO'⟩, s1'.1.at' fun o q => (sb.2 _ d6).trans q, s2'.1.at' fun o q => (sb.2 _ d7).trans q⟩, fun c hcm => ?_⟩
    · rw [injK I hl hqx]
      exact hx
    · rw [injK I hl hqy]
      exact hy
    · have lt : c < s.heap.objs.size := by
        have hcm' := hcm
        simp only [List.mem_cons, List.not_mem_nil, or_false] at hcm'
        rcases hcm' with q | q | q | q | q
        · rw [q]; exact hzl
        · rw [q]; exact Heap.lt_size hTI
        · rw [q]; exact Heap.lt_size hTO
        · rw [q]; obtain ⟨_, e, _⟩ := h1.obj; exact Heap.lt_size e
        · rw [q]; obtain ⟨_, e, _⟩ := h2.obj; exact Heap.lt_size e
      rw [upd_ne (Nat.ne_of_lt lt)]
      exact (hf c hcm).1
  done := by
    intro X hP hw hK hc i pins s σ H E I hf st hg
    subst hP hw hK
    obtain ⟨hz, hTI, ⟨x0, y0, hTO⟩, h1, h2⟩ := st
    obtain ⟨xs, ys, hqx, hqy, lx, ly, le⟩ := hg
    obtain ⟨its, rv, p1⟩ := seqK I hqx
    obtain ⟨its2, rv2, p2⟩ := seqK I hqy
    have l1 := rv.length
    have l2 := rv2.length
    have n1 := notFp I hqx hf
    have n2 := notFp I hqy hf
    have hh : X.A.in1.handled = none := I.ok.hd hc
    have ne1 : a ≠ i1 := fun e => n1 (by rw [e]; simp)
    have ne2 : b ≠ i2 := fun e => n2 (by rw [e]; simp)
    refine wpAny_pyNext_zipD2_end (sepOf D n1 n2) (drawK hh j i1 a ne1 its.toArray) (drawK hh k i2 b ne2 its2.toArray) hz hTI hTO ⟨h1, p1⟩ ⟨h2, p2⟩ (by simp; omega) (by simp; omega) (by simp; omega) fun h' tk hk => ⟨rfl, I.turnedL (t' := tk) (ch := [z, TI, TO, i1, i2]) (fun c o m e => ?_) hf⟩
    simp only [List.mem_cons, List.not_mem_nil, or_false, not_or] at m
    obtain ⟨m1, _, m3, m4, m5⟩ := m
    exact hk c o m1 m3 m4 m5 e
  self := fun A i s Q E st h => wpAny_pyIter_zip st.1 h
end
def iZipM (K : PySem.W.Frag) (ta : TA) : TI := fun σ H R => ta σ H fun vs H1 => ∃ a b j k xs ys, vs = [.ref a, .ref b] ∧ sqK j K H1 a xs ∧ sqK k K H1 b ys ∧ R (Itm K j k a b) H1
theorem beginK (k : Bool) (l : Addr) (its : Array Value) : ∃ o, Begins (.ref l) o (fun h => isK k h l its) ∧ ∀ h it, h.get? it = some o → itK k h it l 0 := by
  cases k
  · exact ⟨_, begins_tuple l its, fun h it e => ⟨_, e, rfl, rfl⟩⟩
  · exact ⟨_, begins_list l its, fun h it e => ⟨_, e, rfl, rfl⟩⟩
theorem pi_zipM {X : Cx} {e e2 : Expr} {ta : TA} {p pos tpos : Pos} {elts : List Expr} {kk : Nat} (hg : Gl X "zip") (hm : X.mg "zip" = none) (ha : PA X [e, e2] ta)
    (hs : starEach [e, e2] X.env = (false, eval e X.env) :: starEach [e2] X.env := by rfl) (hpl : (backTo pos (starEach [e2] X.env)).any (·.1) = false := by rfl) :
    PI X (.Tuple elts kk tpos) (.Call (.Name "zip" p) [e, e2] [] pos) (iZipM X.K ta) := by
  refine ⟨fun pins s σ H R I h => ?_⟩
  refine Call_ (ld_blt I hg hm PyProof.Rows.boot_zip (PyProof.Rows.callWith_type1 (thn (ha.run pos pins s σ H _ I h) fun us s1 ⟨vs, H1, I1, r1, q1⟩ => ?_) hs hpl))
  obtain ⟨a, b, j, k, xs, ys, rfl, hx, hy, q⟩ := q1
  cases r1 with
  | cons r rr =>
    cases rr with
    | cons r' rr =>
      cases rr
      cases r
      cases r'
      obtain ⟨its, _, p1⟩ := seqK I1 hx
      obtain ⟨its2, _, p2⟩ := seqK I1 hy
      obtain ⟨o1, B1, g1⟩ := beginK j a its.toArray
      obtain ⟨o2, B2, g2⟩ := beginK k b its2.toArray
      have N : ∀ n, FpOk X pins H1 (s1.heap.objs.size + n) := fun n => I1.fpOk (Nat.le_add_right _ _) (I1.hok.fresh (Nat.le_add_right _ _))
      refine zip_begins2 B1 B2 p1 p2 fun h' hz hTI hTO e1 e2 hsz hk => wpAny_pyIter_zip hz ?_
      have I2 : Inv X pins σ H1 { s1 with heap := h' } := I1.kept (t' := s1.toks) hk
      have ap : Ap (s1.heap.objs.size + 4) (s1.heap.objs.size + 2) (s1.heap.objs.size + 3) s1.heap.objs.size (s1.heap.objs.size + 1) := by
        unfold Ap
        refine ⟨?_, ?_, ?_, ?_, ?_, ?_, ?_, ?_, ?_, ?_⟩ <;> (intro z; have z' : (_ : Nat) = _ := z; omega)
      refine ⟨s1.heap.objs.size + 4, [s1.heap.objs.size + 4, s1.heap.objs.size + 2, s1.heap.objs.size + 3, s1.heap.objs.size, s1.heap.objs.size + 1], _, _, H1, rfl, I2, turnM (j := j) (k := k) (a := a) (b := b) ap, ⟨hz, hTI, ⟨_, _, hTO⟩, g1 _ _ e1, g2 _ _ e2⟩, fun c m => ?_, q⟩
      simp only [List.mem_cons, List.not_mem_nil, or_false] at m
      rcases m with rfl | rfl | rfl | rfl | rfl
      · exact N 4
      · exact N 2
      · exact N 3
      · exact N 0
      · exact N 1
theorem pi_zipMK {X : Cx} {K : PySem.W.Frag} (hK : X.K = K) {e e2 : Expr} {ta : TA} {p pos tpos : Pos} {elts : List Expr} {kk : Nat} (hg : Gl X "zip") (hm : X.mg "zip" = none) (ha : PA X [e, e2] ta)
    (hs : starEach [e, e2] X.env = (false, eval e X.env) :: starEach [e2] X.env := by rfl) (hpl : (backTo pos (starEach [e2] X.env)).any (·.1) = false := by rfl) :
    PI X (.Tuple elts kk tpos) (.Call (.Name "zip" p) [e, e2] [] pos) (iZipM K ta) := hK ▸ pi_zipM hg hm ha hs hpl
end Zm
set_option maxHeartbeats 1000000
namespace Dl
open PySem PySem.Spec PyProof.Rows L2 Lcn Sq
theorem ru64 {k : Nat} {A : Around} (hr : Room k A) : A.units + 64 < cLine := by have := hr.un; omega
theorem ru65 {k : Nat} {A : Around} (hr : Room k A) : A.units + 65 < cLine := by have := hr.un; omega
section
variable {ι : Type} {K : PySem.W.Frag} {X : ι → Cx} {z o : Bool} {pos p2 : Pos} {a b c e tg iter : Expr} {es : List Expr} {ea eb ec : EvE} {et : EvA}
/-- the things of a list or a tuple -/
def itemsD : Dt → Option (List Dt)
  | .lst ds => some ds
  | .tup ds => some ds
  | _ => none
theorem rep_items {av : Addr → Prop} {H : Hp} {v : V} {d : Dt} {ds : List Dt} (r : Rep K av H v d) (h : itemsD d = some ds) : ∃ k a xs, v = .ref a ∧ Zm.sqK k K H a xs ∧ RepL K av H xs ds ∧ (k = true ↔ d = .lst ds) := by
  cases d with
  | lst es =>
    cases h
    obtain ⟨a, xs, rfl, hx, lx⟩ := r.lst_inv
    exact ⟨true, a, xs, rfl, hx.sq, lx, by simp⟩
  | tup es =>
    cases h
    obtain ⟨a, xs, rfl, hx, lx⟩ := r.tup_inv
    exact ⟨false, a, xs, rfl, hx.sq, lx, by simp⟩
  | _ => cases h
theorem rep_itemsAt {av : Addr → Prop} {H : Hp} {a : Addr} {d : Dt} {ds : List Dt} {k : Bool} (r : Rep K av H (.ref a) d) (h : itemsD d = some ds) (hk : k = true ↔ d = .lst ds) : ∃ xs, Zm.sqK k K H a xs ∧ RepL K av H xs ds := by
  obtain ⟨k', a', xs, e, h1, h2, h3⟩ := rep_items r h
  cases e
  have : k = k' := by
    cases k <;> cases k' <;> simp_all
  subst this
  exact ⟨xs, h1, h2⟩
def pairD (xs ys : List Dt) : List Dt := (xs.zip ys).map fun p => .tup [p.1, p.2]
def ivZip (et : EvA) : EvA := fun δ Q => et δ fun ds => match ds with
  | [x, y] => ∃ xs ys, itemsD x = some xs ∧ itemsD y = some ys ∧ Q (pairD xs ys)
  | _ => False
theorem walkM {j k : Bool} {a b : Addr} {m n : Nat} : Walk (Zm.Itm K j k a b) (min m n) (fun H => ∃ xs ys, xs.length = m ∧ ys.length = n ∧ Zm.sqK j K H a xs ∧ Zm.sqK k K H b ys) (fun i H v H' => ∃ T x y, v = .ref T ∧ H T = none ∧ H' = upd H T (.tup [x, y]) ∧ (∀ xs, Zm.sqK j K H a xs → xs[i]? = some x) ∧ ∀ ys, Zm.sqK k K H b ys → ys[i]? = some y) :=
  ⟨fun i H hi ⟨xs, ys, l1, l2, h1, h2⟩ => ⟨xs, ys, h1, h2, by omega, by omega⟩, fun H ⟨xs, ys, l1, l2, h1, h2⟩ => ⟨xs, ys, h1, h2, by omega, by omega, by omega⟩, fun _ _ _ _ _ _ y => y⟩
theorem di_zip {elts : List Expr} {kk : Nat} {tpos p : Pos} (hg : ∀ i, Gl (X i) "zip") (hm : ∀ i, (X i).mg "zip" = none) (ha : DA true K X [a, b] et) (hs : ∀ i, starEach [a, b] (X i).env = (false, eval a (X i).env) :: starEach [b] (X i).env := by intro _; rfl) (hpl : ∀ i, (backTo pos (starEach [b] (X i).env)).any (·.1) = false := by intro _; rfl) (hK : ∀ i, (X i).K = K := by intro _; rfl) :
    DI o K X (.Tuple elts kk tpos) (.Call (.Name "zip" p) [a, b] [] pos) (ivZip et) := by
  obtain ⟨t, pa, v⟩ := ha
  refine ⟨_, fun i => Zm.pi_zipMK (hK i) (hg i) (hm i) (pa i) (hs i) (hpl i), fun C σ δ H R Qd k s e q => ?_⟩
  subst k
  refine v C σ δ H _ _ rfl s e fun vs ds H1 e1 r e => ?_
  split at e
  · rename_i x y
    obtain ⟨us, ws, hx, hy, e⟩ := e
    obtain ⟨vx, vy, rfl, rx, ry⟩ := repl2 r
    obtain ⟨j, a1, xs, rfl, g1, l1, k1⟩ := rep_items rx hx
    obtain ⟨k, a2, ys, rfl, g2, l2, k2⟩ := rep_items ry hy
    refine ⟨a1, a2, j, k, xs, ys, rfl, g1, g2, q _ _ _ _ (pairD us ws) H1 (fun _ => True) [(.ref a1, x), (.ref a2, y)] (walkM (m := us.length) (n := ws.length)) (by simp [pairD]) e1 (fun _ _ _ => trivial) (fun _ _ => trivial) (fun g m => ?_) ⟨fun av H al _ h => ?_, fun i d av H x' H' hd al _ h y' => ?_⟩ e⟩
    · rcases List.mem_cons.mp m with rfl | m
      · exact rx
      · rw [List.mem_singleton] at m
        rw [m]
        exact ry
    · obtain ⟨xs', g1', l1'⟩ := rep_itemsAt (h (.ref a1, x) (by simp)) hx k1
      obtain ⟨ys', g2', l2'⟩ := rep_itemsAt (h (.ref a2, y) (by simp)) hy k2
      exact ⟨xs', ys', l1'.l, l2'.l, g1', g2'⟩
    · obtain ⟨xs', g1', l1'⟩ := rep_itemsAt (h (.ref a1, x) (by simp)) hx k1
      obtain ⟨ys', g2', l2'⟩ := rep_itemsAt (h (.ref a2, y) (by simp)) hy k2
      obtain ⟨T, p, q', rfl, hT, rfl, e1', e2'⟩ := y'
      obtain ⟨d1, d2, hd1, hd2, rfl⟩ := pair_get hd
      exact ⟨same_new hT, rep_newT al hT (.cons (l1'.f i p d1 (e1' xs' g1') hd1) (.cons (l2'.f i q' d2 (e2' ys' g2') hd2) .nil))⟩
  · exact e.elim
/-- list(range(..)), tuple(range(..)) -/
def dRg1 (g : List Dt → Dt) (ea : EvE) : EvE := fun δ Q => ea δ fun d => match d with
  | .int n => -(2 ^ 62) ≤ n ∧ n < 2 ^ 62 ∧ n.toNat ≤ sizeLine ∧ Q (g (rngD 0 n.toNat))
  | _ => False
def dRg2 (g : List Dt → Dt) (ea eb : EvE) : EvE := fun δ Q => ea δ fun d => eb δ fun d' => match d, d' with
  | .int m, .int n => (-(2 ^ 62) ≤ m ∧ m < 2 ^ 62 ∧ -(2 ^ 62) ≤ n ∧ n < 2 ^ 62 ∧ (n - m).toNat ≤ sizeLine) ∧ Q (g (rngD m (n - m).toNat))
  | _, _ => False
end
end Dl
set_option maxHeartbeats 1000000
/-! reasoning over data -/
namespace Dl
open PySem PySem.Spec PyProof.Rows L2 Lcn Sq
theorem big1000 : (1000 : Nat) < sizeLine := by decide
theorem k1000 {n : Nat} (h : n < 1000) : n < sizeLine := Nat.lt_trans h big1000
theorem le1000 {n : Nat} (h : n ≤ 1000) : n ≤ sizeLine := Nat.le_trans h (Nat.le_of_lt big1000)
section
variable {α : Type} {gv : Dt → List Sl → (List Sl → Prop) → Prop} {tv : EvT} {ev : EvE} {vs : List Nat} {δ : List Sl} {Q : List Dt → Prop} {g : α → Dt}
/-- a comprehension whose turns are told -/
theorem lc_fm (p : α → Bool) (f : α → Dt) : ∀ (xs : List α) (acc : List Dt), (∀ x, x ∈ xs → ∀ (Q : Dt → Prop) (R : Prop), (p x = true → Q (f x)) → (p x = false → R) → gv (g x) (wipeS δ vs) fun δ2 => tv δ2 fun b => if b = true then ev δ2 Q else R) → Q (acc ++ (xs.filter p).map f) → dLc gv tv ev vs (xs.map g) acc δ Q
  | [], acc, _, q => by
    rw [List.filter_nil, List.map_nil, List.append_nil] at q
    exact q
  | x :: xs, acc, hs, q => by
    rw [List.map_cons]
    refine hs x (List.mem_cons_self ..) _ _ (fun e => ?_) (fun e => ?_)
    · refine lc_fm p f xs _ (fun y m => hs y (List.mem_cons_of_mem _ m)) ?_
      rw [List.filter_cons, if_pos e, List.map_cons] at q
      rw [List.append_assoc]
      exact q
    · refine lc_fm p f xs _ (fun y m => hs y (List.mem_cons_of_mem _ m)) ?_
      rw [List.filter_cons, if_neg (by rw [e]; exact Bool.false_ne_true)] at q
      exact q
theorem lc_map (f : α → Dt) (xs : List α) (hs : ∀ x, x ∈ xs → ∀ (Q : Dt → Prop), Q (f x) → gv (g x) (wipeS δ vs) fun δ2 => ev δ2 Q) (q : Q (xs.map f)) : dLc gv dYes ev vs (xs.map g) [] δ Q :=
  lc_fm (fun _ => true) f xs [] (fun x m Q R h _ => hs x m Q (h rfl)) (by rw [List.filter_eq_self.mpr fun _ _ => rfl]; exact q)
/-- a comprehension whose turns give some thing -/
theorem lc_some {β : Type} (h : β → Dt) (P : α → β → Prop) : ∀ (xs : List α) (acc : List Dt), (∀ x, x ∈ xs → ∀ (Q : Dt → Prop), (∀ z, P x z → Q (h z)) → gv (g x) (wipeS δ vs) fun δ2 => ev δ2 Q) → (∀ zs : List β, zs.length = xs.length → (∀ (i : Nat) (x : α) (z : β), xs[i]? = some x → zs[i]? = some z → P x z) → Q (acc ++ zs.map h)) → dLc gv dYes ev vs (xs.map g) acc δ Q
  | [], acc, _, q => by
    have := q [] rfl (fun i x z h => by cases i <;> cases h)
    rw [List.map_nil, List.append_nil] at this
    exact this
  | x :: xs, acc, hs, q => by
    rw [List.map_cons]
    refine hs x (List.mem_cons_self ..) _ fun z pz => ?_
    refine lc_some h P xs _ (fun y m => hs y (List.mem_cons_of_mem _ m)) fun zs l f => ?_
    have := q (z :: zs) (by rw [List.length_cons, List.length_cons, l]) (fun i y u h1 h2 => by
      cases i with
      | zero => cases h1; cases h2; exact pz
      | succ j => exact f j y u h1 h2)
    rw [List.map_cons] at this
    rw [List.append_assoc]
    exact this
/-- .. each of one kind -/
theorem lc_all {β : Type} (h : β → Dt) (P : β → Prop) (xs : List α) (hs : ∀ x, x ∈ xs → ∀ (Q : Dt → Prop), (∀ z, P z → Q (h z)) → gv (g x) (wipeS δ vs) fun δ2 => ev δ2 Q) (q : ∀ zs : List β, zs.length = xs.length → (∀ z, z ∈ zs → P z) → Q (zs.map h)) : dLc gv dYes ev vs (xs.map g) [] δ Q :=
  lc_some h (fun _ z => P z) xs [] hs fun zs l f => q zs l fun z m => by
    obtain ⟨i, hi⟩ := List.mem_iff_getElem?.mp m
    have : i < xs.length := by
      have := (List.getElem?_eq_some_iff.mp hi).1
      omega
    exact f i xs[i] z (List.getElem?_eq_getElem this) hi
/-! loops -/
variable {bv : EvS} {D : DEnds}
theorem for_inv {ds : List Dt} (I : Nat → List Sl → Prop) (h0 : I 0 δ) (hs : ∀ (i : Nat) (d : Dt) (δ : List Sl) (N : List Sl → Prop), ds[i]? = some d → I i δ → (∀ δ', I (i + 1) δ' → N δ') → gv d δ fun δ2 => bv { nx := N, rt := D.rt, bk := D.nx, ct := N } δ2) (hd : ∀ δ, I ds.length δ → D.nx δ) : dForL gv bv D ds δ := by
  have key : ∀ (r pre : List Dt) (δ : List Sl), pre ++ r = ds → I pre.length δ → dForL gv bv D r δ := by
    intro r
    induction r with
    | nil =>
      intro pre δ e h
      rw [List.append_nil] at e
      rw [← e] at hd
      exact hd δ h
    | cons d r ih =>
      intro pre δ e h
      refine hs pre.length d δ _ ?_ h fun δ' h' => ih (pre ++ [d]) δ' (by rw [List.append_assoc]; exact e) (by rw [List.length_append]; exact h')
      rw [← e, List.getElem?_append_right (Nat.le_refl _), Nat.sub_self]
      rfl
  exact key ds [] δ rfl h0
end
section
variable {α : Type} {gv : Dt → List Sl → (List Sl → Prop) → Prop} {bv : EvS} {D : DEnds} {g : α → Dt}
/-- a loop that leaves the def at the first thing of a kind -/
theorem for_find (I : List Sl → Prop) (p : α → Bool) (r : α → Dt) : ∀ (xs : List α) (δ : List Sl), I δ →
    (∀ x, x ∈ xs → ∀ (δ : List Sl) (N : List Sl → Prop), I δ → (p x = true → D.rt (r x)) → (p x = false → ∀ δ', I δ' → N δ') → gv (g x) δ fun δ2 => bv { nx := N, rt := D.rt, bk := D.nx, ct := N } δ2) →
    (∀ x, xs.find? p = some x → D.rt (r x)) → (xs.find? p = none → ∀ δ, I δ → D.nx δ) → dForL gv bv D (xs.map g) δ
  | [], δ, h, _, _, q => q rfl δ h
  | x :: xs, δ, h, hs, q1, q2 => by
    rw [List.map_cons]
    refine hs x (List.mem_cons_self ..) δ _ h (fun e => q1 x (by rw [List.find?_cons, e])) fun e δ' h' => ?_
    refine for_find I p r xs δ' h' (fun y m => hs y (List.mem_cons_of_mem _ m)) (fun y ey => q1 y ?_) fun en => q2 ?_
    · rw [List.find?_cons, e]
      exact ey
    · rw [List.find?_cons, e]
      exact en
/-- .. at the first thing that gives one -/
theorem for_some {β : Type} (I : List Sl → Prop) (p : α → Option β) (r : β → Dt) : ∀ (xs : List α) (δ : List Sl), I δ →
    (∀ x, x ∈ xs → ∀ (δ : List Sl) (N : List Sl → Prop), I δ → (∀ y, p x = some y → D.rt (r y)) → (p x = none → ∀ δ', I δ' → N δ') → gv (g x) δ fun δ2 => bv { nx := N, rt := D.rt, bk := D.nx, ct := N } δ2) →
    (∀ y, xs.findSome? p = some y → D.rt (r y)) → (xs.findSome? p = none → ∀ δ, I δ → D.nx δ) → dForL gv bv D (xs.map g) δ
  | [], δ, h, _, _, q => q rfl δ h
  | x :: xs, δ, h, hs, q1, q2 => by
    rw [List.map_cons]
    refine hs x (List.mem_cons_self ..) δ _ h (fun y e => q1 y (by rw [List.findSome?_cons, e])) fun e δ' h' => ?_
    refine for_some I p r xs δ' h' (fun y m => hs y (List.mem_cons_of_mem _ m)) (fun y ey => q1 y ?_) fun en => q2 ?_
    · rw [List.findSome?_cons, e]
      exact ey
    · rw [List.findSome?_cons, e]
      exact en
end
theorem rngD_get {lo : Int} {n i : Nat} {d : Dt} (h : (rngD lo n)[i]? = some d) : i < n ∧ d = .int (lo + (i : Int)) := by
  unfold rngD at h
  rw [List.getElem?_map] at h
  obtain ⟨j, h1, h2⟩ := Option.map_eq_some_iff.mp h
  have hi : i < (List.range n).length := (List.getElem?_eq_some_iff.mp h1).1
  have : j = i := by
    have := (List.getElem?_eq_some_iff.mp h1).2
    simpa using this.symm
  subst this
  exact ⟨by simpa using hi, h2.symm⟩
theorem rngD_len {lo : Int} {n : Nat} : (rngD lo n).length = n := by simp [rngD]
theorem atI_map {α β : Type} {f : α → β} {xs : List α} {i : Int} {x : α} (h : atI xs i = some x) : atI (xs.map f) i = some (f x) := by
  unfold atI at h ⊢
  rw [List.length_map]
  cases e : ixN xs.length i with
  | none => rw [e] at h; cases h
  | some j =>
    rw [e] at h
    have h : xs[j]? = some x := h
    show (xs.map f)[j]? = some (f x)
    rw [List.getElem?_map, h]
    rfl
theorem atI_lt {α : Type} {xs : List α} {i : Int} (h0 : 0 ≤ i) (h1 : i < xs.length) : atI xs i = some (xs[i.toNat]'(by omega)) := by
  obtain ⟨j, rfl⟩ : ∃ j : Nat, i = (j : Int) := ⟨i.toNat, by omega⟩
  exact atI_nat (by
    have : (j : Int).toNat = j := by omega
    simp [this])
theorem pairD_map {α β : Type} {f : α → Dt} {g : β → Dt} (xs : List α) (ys : List β) : pairD (xs.map f) (ys.map g) = (xs.zip ys).map fun p => .tup [f p.1, g p.2] := by
  unfold pairD
  rw [List.zip_map, List.map_map]
  rfl
/-! equality of plain data -/
mutual
theorem eqv_same : ∀ d : Dt, okD d = true → eqD d d = true
  | d, h => SeqAt.eqv_refl (py d) (lay_py d h)
end
end Dl
set_option maxHeartbeats 1000000
/-! own dicts -/
namespace Dl
open PySem PySem.Spec PyProof.Rows L2 Lcn Sq
def kyD : Dt → Option Key
  | .int i => some (.inl i)
  | .str s => some (.inr s)
  | _ => none
def kysD : List Dt → Option (List Key)
  | [] => some []
  | d :: r => (kyD d).bind fun k => (kysD r).map fun ks => k :: ks
section
variable {κ : Type} [DecidableEq κ]
def valD (es : List (κ × Dt)) (k : κ) : Option Dt := (es.find? fun e => decide (e.1 = k)).map (·.2)
def putD (es : List (κ × Dt)) (k : κ) (d : Dt) : List (κ × Dt) := if (es.any fun e => decide (e.1 = k)) = true then es.map (fun e => if e.1 = k then (e.1, d) else e) else es ++ [(k, d)]
variable {K : PySem.W.Frag} {av : Addr → Prop} {H : Hp}
/-- entries one by one -/
def RepE (K : PySem.W.Frag) (av : Addr → Prop) (H : Hp) (kvs : List (κ × V)) (es : List (κ × Dt)) : Prop := kvs.map Prod.fst = es.map Prod.fst ∧ RepL K av H (kvs.map Prod.snd) (es.map Prod.snd)
theorem repE_cons {p : κ × V} {e : κ × Dt} {kvs : List (κ × V)} {es : List (κ × Dt)} (h : RepE K av H (p :: kvs) (e :: es)) : p.1 = e.1 ∧ Rep K av H p.2 e.2 ∧ RepE K av H kvs es := by
  obtain ⟨h1, h2⟩ := h
  rw [List.map_cons, List.map_cons] at h1 h2
  injection h1 with h1 h3
  exact ⟨h1, h2.head.1, h3, h2.head.2⟩
theorem repE_mk {p : κ × V} {e : κ × Dt} {kvs : List (κ × V)} {es : List (κ × Dt)} (h : p.1 = e.1) (r : Rep K av H p.2 e.2) (t : RepE K av H kvs es) : RepE K av H (p :: kvs) (e :: es) :=
  ⟨by rw [List.map_cons, List.map_cons, h, t.1], by rw [List.map_cons, List.map_cons]; exact .cons r t.2⟩
theorem repE_nil : RepE K av H ([] : List (κ × V)) [] := ⟨rfl, .nil⟩
theorem repE_val (k : κ) : ∀ {kvs : List (κ × V)} {es : List (κ × Dt)}, RepE K av H kvs es → (valD es k = none ∧ valV kvs k = none) ∨ ∃ d v, valD es k = some d ∧ valV kvs k = some v ∧ Rep K av H v d
  | [], [], _ => .inl ⟨rfl, rfl⟩
  | [], _ :: _, h => by have := h.1; simp at this
  | _ :: _, [], h => by have := h.1; simp at this
  | p :: kvs, e :: es, h => by
    obtain ⟨h1, h2, h3⟩ := repE_cons h
    by_cases he : e.1 = k
    · refine .inr ⟨e.2, p.2, ?_, ?_, h2⟩
      · simp [valD, List.find?_cons, he]
      · simp [valV, List.find?_cons, h1, he]
    · rcases repE_val k h3 with ⟨a, b⟩ | ⟨d, v, a, b, c⟩
      · refine .inl ⟨?_, ?_⟩
        · simpa [valD, List.find?_cons, he] using a
        · simpa [valV, List.find?_cons, h1, he] using b
      · refine .inr ⟨d, v, ?_, ?_, c⟩
        · simpa [valD, List.find?_cons, he] using a
        · simpa [valV, List.find?_cons, h1, he] using b
theorem repE_any (k : κ) : ∀ {kvs : List (κ × V)} {es : List (κ × Dt)}, RepE K av H kvs es → (kvs.any fun e => decide (e.1 = k)) = es.any fun e => decide (e.1 = k)
  | [], [], _ => rfl
  | [], _ :: _, h => by have := h.1; simp at this
  | _ :: _, [], h => by have := h.1; simp at this
  | p :: kvs, e :: es, h => by
    obtain ⟨h1, h2, h3⟩ := repE_cons h
    rw [List.any_cons, List.any_cons, repE_any k h3, h1]
theorem repE_map (k : κ) {v : V} {d : Dt} (r : Rep K av H v d) : ∀ {kvs : List (κ × V)} {es : List (κ × Dt)}, RepE K av H kvs es → RepE K av H (kvs.map fun e => if e.1 = k then (e.1, v) else e) (es.map fun e => if e.1 = k then (e.1, d) else e)
  | [], [], h => h
  | [], _ :: _, h => by have := h.1; simp at this
  | _ :: _, [], h => by have := h.1; simp at this
  | p :: kvs, e :: es, h => by
    obtain ⟨h1, h2, h3⟩ := repE_cons h
    rw [List.map_cons, List.map_cons]
    refine repE_mk ?_ ?_ (repE_map k r h3)
    · rw [h1]
      split <;> simp [h1]
    · rw [h1]
      split
      · exact r
      · exact h2
theorem repE_snoc {k : κ} {v : V} {d : Dt} (r : Rep K av H v d) {kvs : List (κ × V)} {es : List (κ × Dt)} (h : RepE K av H kvs es) : RepE K av H (kvs ++ [(k, v)]) (es ++ [(k, d)]) := by
  refine ⟨by simp [h.1], ?_⟩
  rw [List.map_append, List.map_append]
  exact h.2.append (.cons r .nil)
theorem repE_put {k : κ} {v : V} {d : Dt} (r : Rep K av H v d) {kvs : List (κ × V)} {es : List (κ × Dt)} (h : RepE K av H kvs es) : RepE K av H (putK kvs k v) (putD es k d) := by
  unfold putK putD
  rw [repE_any k h]
  split
  · exact repE_map k r h
  · exact repE_snoc r h
theorem repE_len {kvs : List (κ × V)} {es : List (κ × Dt)} (h : RepE K av H kvs es) : kvs.length = es.length := by
  have := congrArg List.length h.1
  simpa using this
theorem putD_new {es : List (κ × Dt)} {k : κ} {d : Dt} (h : ∀ e, e ∈ es → e.1 ≠ k) : putD es k d = es ++ [(k, d)] := by
  unfold putD
  rw [if_neg]
  intro z
  obtain ⟨e, m, q⟩ := List.any_eq_true.mp z
  exact h e m (of_decide_eq_true q)
theorem valD_none {es : List (κ × Dt)} {k : κ} : valD es k = none ↔ ∀ e, e ∈ es → e.1 ≠ k := by
  unfold valD
  rw [Option.map_eq_none_iff, List.find?_eq_none]
  simp
end
/-- a look into an own dict; a store -/
def lookO : Oc → Dt → Option (Option Dt)
  | .t es, .tup ks => (kysD ks).map (valD es)
  | .k es, d => (kyD d).map (valD es)
  | _, _ => none
def putO : Oc → Dt → Dt → Option Oc
  | .t es, .tup ks, d => (kysD ks).map fun k => .t (putD es k d)
  | .k es, y, d => (kyD y).map fun k => .k (putD es k d)
  | _, _, _ => none
def lenO : Oc → Nat
  | .t es => es.length
  | .k es => es.length
  | .l ds => ds.length
  | .i _ es => es.length
  | .kl es => es.length
  | .tl es => es.length
theorem putO_inn {c c' : Oc} {y d : Dt} (h : putO c y d = some c') : c'.inn = [] := by
  unfold putO at h
  split at h
  · obtain ⟨k, _, rfl⟩ := Option.map_eq_some_iff.mp h
    rfl
  · obtain ⟨k, _, rfl⟩ := Option.map_eq_some_iff.mp h
    rfl
  · cases h
section
variable {K : PySem.W.Frag} {av : Addr → Prop} {H : Hp}
theorem rep_ky {v : V} {d : Dt} {k : Key} (r : Rep K av H v d) (h : kyD d = some k) : v = kV k := by
  cases r with
  | int i => cases h; rfl
  | str s => cases h; rfl
  | _ => cases h
theorem rep_kys : ∀ {xs : List V} {ds : List Dt} {k : List Key}, RepL K av H xs ds → kysD ds = some k → xs = k.map kV
  | [], [], k, _, h => by cases h; rfl
  | [], _ :: _, _, r, _ => by have := r.l; simp at this
  | _ :: _, [], _, r, _ => by have := r.l; simp at this
  | x :: xs, d :: ds, k, r, h => by
    unfold kysD at h
    cases hk : kyD d with
    | none => rw [hk] at h; cases h
    | some k0 =>
      rw [hk] at h
      cases hr : kysD ds with
      | none => rw [hr] at h; cases h
      | some kr =>
        rw [hr] at h
        cases h
        rw [List.map_cons, ← rep_ky r.head.1 hk, ← rep_kys r.head.2 hr]
/-- what a look finds -/
def Fnd (K : PySem.W.Frag) (av : Addr → Prop) (H : Hp) (o : Option V) : Option Dt → Prop
  | none => o = none
  | some d => ∃ v, o = some v ∧ Rep K av H v d
theorem look_ok {a : Addr} {u : HO} {c : Oc} {y : V} {dy : Dt} {r : Option Dt} (hu : Rd H a u) (hc : ORep K av H u c) (hy : Rep K av H y dy) (h : lookO c dy = some r) : ∃ o, DGet H a y o ∧ Fnd K av H o r := by
  cases c with
  | l ds => cases dy <;> cases h
  | i _ _ => cases dy <;> cases h
  | kl _ => cases dy <;> cases h
  | tl _ => cases dy <;> cases h
  | t es =>
    obtain ⟨kvs, rfl, e1, e2⟩ := hc.dt
    cases dy with
    | tup ks =>
      obtain ⟨b, xs, rfl, hb, lx⟩ := hy.tup_inv
      have h : (kysD ks).map (valD es) = some r := h
      cases hk : kysD ks with
      | none => rw [hk] at h; cases h
      | some k =>
        rw [hk] at h
        cases h
        have hb2 := hb.2
        rw [rep_kys lx hk] at hb2
        refine ⟨_, .inr ⟨kvs, k, b, hu, rfl, hb2, rfl⟩, ?_⟩
        rcases repE_val k (⟨e1, e2⟩ : RepE K av H kvs es) with ⟨p, q⟩ | ⟨d, v, p, q, r⟩
        · rw [p, q]
          exact rfl
        · rw [p, q]
          exact ⟨v, rfl, r⟩
    | _ => cases h
  | k es =>
    obtain ⟨kvs, rfl, e1, e2⟩ := hc.dk
    have h' : (kyD dy).map (valD es) = some r := by cases dy <;> exact h
    cases hk : kyD dy with
    | none => rw [hk] at h'; cases h'
    | some k =>
      rw [hk] at h'
      cases h'
      rw [rep_ky hy hk]
      refine ⟨_, .inl ⟨kvs, k, hu, rfl, rfl⟩, ?_⟩
      rcases repE_val k (⟨e1, e2⟩ : RepE K av H kvs es) with ⟨p, q⟩ | ⟨d, v, p, q, r⟩
      · rw [p, q]
        exact rfl
      · rw [p, q]
        exact ⟨v, rfl, r⟩
theorem put_ok {a : Addr} {u : HO} {c c' : Oc} {y v : V} {dy d : Dt} (hu : H a = some u) (hc : ORep K av H u c) (hy : Rep K av H y dy) (hv : Rep K av H v d) (h : putO c dy d = some c') (hl : lenO c < sizeLine) : ∃ u', DPut H a y v (upd H a u') ∧ ORep K av H u' c' := by
  cases c with
  | l ds => cases dy <;> cases h
  | i _ _ => cases dy <;> cases h
  | kl _ => cases dy <;> cases h
  | tl _ => cases dy <;> cases h
  | t es =>
    obtain ⟨kvs, rfl, e1, e2⟩ := hc.dt
    cases dy with
    | tup ks =>
      obtain ⟨b, xs, rfl, hb, lx⟩ := hy.tup_inv
      have h : ((kysD ks).map fun k => Oc.t (putD es k d)) = some c' := h
      cases hk : kysD ks with
      | none => rw [hk] at h; cases h
      | some k =>
        rw [hk] at h
        cases h
        have hb2 := hb.2
        rw [rep_kys lx hk] at hb2
        exact ⟨_, DPut.t hu hb2 (by rw [repE_len (⟨e1, e2⟩ : RepE K av H kvs es)]; exact hl), repE_put hv (⟨e1, e2⟩ : RepE K av H kvs es)⟩
    | _ => cases h
  | k es =>
    obtain ⟨kvs, rfl, e1, e2⟩ := hc.dk
    have h' : (kyD dy).map (fun k => Oc.k (putD es k d)) = some c' := by cases dy <;> exact h
    cases hk : kyD dy with
    | none => rw [hk] at h'; cases h'
    | some k =>
      rw [hk] at h'
      cases h'
      rw [rep_ky hy hk]
      exact ⟨_, DPut.k hu (by rw [repE_len (⟨e1, e2⟩ : RepE K av H kvs es)]; exact hl), repE_put hv (⟨e1, e2⟩ : RepE K av H kvs es)⟩
end
section
variable {ι : Type} {K : PySem.W.Frag} {X : ι → Cx} {z : Bool} {pos pos' p2 : Pos} {a b c e f : Expr} {ea eb : EvE}
theorem Sok.ownAt {C : Ctx} {H : Hp} {σ : L2.St} {δ : List Sl} (s : Sok C H σ δ) {i : Nat} {a : Addr} {c : Oc} (h : δ[i]? = some (.own a c)) : σ[i]? = some (some (.ref a)) ∧ ∃ u, H a = some u ∧ ORep C.K (Zd C δ) H u c := by
  obtain ⟨h1, _, _, u, h5, h6⟩ := s.sl i _ h
  exact ⟨h1, u, h5, h6⟩
/-- name = {} -/
theorem ds_dnew {i : Nat} {x : Str} (t : Bool) (hp : ∀ {te : TE} j, PE (X j) e te → PS (X j) (.Assign [.Name x pos'] e pos) (tAsg te (gName i))) (he : ∀ j, PE (X j) e (if t = true then tDNewT else tDNewK)) : DS K X (.Assign [.Name x pos'] e pos) (fun D δ => ∀ a, D.nx (δ.set i (.own a (if t = true then .t [] else .k [])))) := by
  refine ⟨_, fun j => hp j (he j), fun C σ δ H D Dd k s e q => ?_⟩
  subst k
  cases t
  · exact fun p hp => q.nx _ _ _ (s.setO (xs := .dK []) (ds := .k []) hp (Stp.new hp) upd_same ⟨rfl, .nil⟩) (e p)
  · exact fun p hp => q.nx _ _ _ (s.setO (xs := .dT []) (ds := .t []) hp (Stp.new hp) upd_same ⟨rfl, .nil⟩) (e p)
def dDIn (neg : Bool) (i : Nat) (ea : EvE) : EvE := fun δ Q => ea δ fun y => match δ[i]? with
  | some (.own _ c) => ∃ r, lookO c y = some r ∧ Q (.bl (if neg then !r.isSome else r.isSome))
  | _ => False
theorem fnd_some {av : Addr → Prop} {H : Hp} {o : Option V} {r : Option Dt} (h : Fnd K av H o r) : o.isSome = r.isSome := by
  cases r with
  | none => rw [show o = none from h]; rfl
  | some d =>
    obtain ⟨v, rfl, _⟩ := h
    rfl
theorem ve_din {ty : TE} {i : Nat} (v : VE true K ty ea) : VE z K (tDIn ty (tVar i)) (dDIn false i ea) := by
  intro C σ δ H Q Qd k s e q
  subst k
  refine v C σ δ H _ _ rfl s e fun y dy H1 e1 r1 e => ?_
  split at e
  · rename_i a c h
    obtain ⟨r, hr, e⟩ := e
    obtain ⟨h1, u, h5, h6⟩ := (s.step e1).ownAt h
    obtain ⟨o, g, fn⟩ := look_ok (.inl h5) h6 r1 hr
    exact ⟨.ref a, h1, a, o, rfl, g, q _ _ H1 e1 (.bl _) (by rw [fnd_some fn]; exact e)⟩
  · exact e.elim
theorem ve_dnotin {ty : TE} {i : Nat} (v : VE true K ty ea) : VE z K (tDNotIn ty (tVar i)) (dDIn true i ea) := by
  intro C σ δ H Q Qd k s e q
  subst k
  refine v C σ δ H _ _ rfl s e fun y dy H1 e1 r1 e => ?_
  split at e
  · rename_i a c h
    obtain ⟨r, hr, e⟩ := e
    obtain ⟨h1, u, h5, h6⟩ := (s.step e1).ownAt h
    obtain ⟨o, g, fn⟩ := look_ok (.inl h5) h6 r1 hr
    exact ⟨.ref a, h1, a, o, rfl, g, q _ _ H1 e1 (.bl _) (by rw [fnd_some fn]; exact e)⟩
  · exact e.elim
theorem dt_din {i : Nat} {x : Str} (p : ∀ j, PE (X j) (.Name x p2) (tVar i)) (ha : DE true K X a ea) (hu : ∀ j, (X j).A.units + 1 < cLine) : DT K X (.Compare a [.In] [.Name x p2] pos) (dTst (dDIn false i ea)) := by
  obtain ⟨t, pa, v⟩ := ha
  exact ⟨_, fun j => pt_cmp (pc_din (hu j) (pa j) (p j)) (by rfl), vt_b (ve_din (z := false) v)⟩
theorem dt_dnotin {i : Nat} {x : Str} (p : ∀ j, PE (X j) (.Name x p2) (tVar i)) (ha : DE true K X a ea) (hu : ∀ j, (X j).A.units + 1 < cLine) : DT K X (.Compare a [.NotIn] [.Name x p2] pos) (dTst (dDIn true i ea)) := by
  obtain ⟨t, pa, v⟩ := ha
  exact ⟨_, fun j => pt_cmp (pc_dnotin (hu j) (pa j) (p j)) (by rfl), vt_b (ve_dnotin (z := false) v)⟩
theorem de_din {i : Nat} {x : Str} (p : ∀ j, PE (X j) (.Name x p2) (tVar i)) (ha : DE true K X a ea) (hu : ∀ j, (X j).A.units + 1 < cLine) : DE z K X (.Compare a [.In] [.Name x p2] pos) (dDIn false i ea) := by
  obtain ⟨t, pa, v⟩ := ha
  exact ⟨_, fun j => pe_cmp (pc_din (hu j) (pa j) (p j)) (by rfl), ve_din v⟩
theorem de_dnotin {i : Nat} {x : Str} (p : ∀ j, PE (X j) (.Name x p2) (tVar i)) (ha : DE true K X a ea) (hu : ∀ j, (X j).A.units + 1 < cLine) : DE z K X (.Compare a [.NotIn] [.Name x p2] pos) (dDIn true i ea) := by
  obtain ⟨t, pa, v⟩ := ha
  exact ⟨_, fun j => pe_cmp (pc_dnotin (hu j) (pa j) (p j)) (by rfl), ve_dnotin v⟩
/-- d[y] -/
def dDGet (i : Nat) (ea : EvE) : EvE := fun δ Q => match δ[i]? with
  | some (.own _ c) => ea δ fun y => ∃ d, lookO c y = some (some d) ∧ Q d
  | _ => False
theorem de_dget {i : Nat} {x : Str} (p : ∀ j, PE (X j) (.Name x p2) (tVar i)) (ha : DE true K X a ea) (hs : NoSl a) (hu : ∀ j, (X j).A.units + 1 < cLine) : DE true K X (.Subscript (.Name x p2) a pos) (dDGet i ea) := by
  obtain ⟨t, pa, v⟩ := ha
  refine ⟨_, fun j => pe_dget (hu j) (p j) (pa j) hs, fun C σ δ H Q Qd k s e q => ?_⟩
  subst k
  unfold dDGet at e
  split at e
  · rename_i a c h
    refine ⟨.ref a, (s.ownAt h).1, v C σ δ H _ _ rfl s e fun y dy H1 e1 r1 e => ?_⟩
    obtain ⟨d, hr, e⟩ := e
    obtain ⟨h1, u, h5, h6⟩ := (s.step e1).ownAt h
    obtain ⟨o, g, w, rfl, rw'⟩ := look_ok (.inl h5) h6 r1 hr
    exact ⟨a, w, rfl, g, q _ _ H1 e1 rw' e⟩
  · exact e.elim
/-- d[y] = v -/
def dDPut (i : Nat) (eb ea : EvE) : EvS := fun D δ => ea δ fun d => match δ[i]? with
  | some (.own a c) => eb δ fun y => ∃ c', putO c y d = some c' ∧ lenO c < sizeLine ∧ D.nx (δ.set i (.own a c'))
  | _ => False
theorem ds_dput {i : Nat} {x : Str} (p : ∀ j, PE (X j) (.Name x p2) (tVar i)) (hv : DE true K X e ea) (hb : DE true K X b eb) (hu : ∀ j, (X j).A.units + 1 < cLine) (hs : ∀ j, swapsWith e (some (.Subscript (.Name x p2) b pos')) pos.line (X j).env = pure false := by intro _; rfl) : DS K X (.Assign [.Subscript (.Name x p2) b pos'] e pos) (dDPut i eb ea) := by
  obtain ⟨t, pa, v⟩ := hv
  obtain ⟨t2, pb, v2⟩ := hb
  refine ⟨_, fun j => ps_dput (hu j) (p j) (pb j) (pa j) (hs j), fun C σ δ H D Dd k s e q => ?_⟩
  subst k
  refine v C σ δ H _ _ rfl s e fun w d H1 e1 r1 e => ?_
  split at e
  · rename_i a c h
    have s1 := s.step e1
    refine ⟨.ref a, (s1.ownAt h).1, v2 C σ δ H1 _ _ rfl s1 e fun y dy H2 e2 r2 e => ?_⟩
    obtain ⟨c', hc, hl, e⟩ := e
    have s2 := s1.step e2
    obtain ⟨h1, u, h5, h6⟩ := s2.ownAt h
    obtain ⟨u', dp, rp⟩ := put_ok h5 h6 r2 (rep_step s1 e2 r1) hc hl
    exact ⟨a, _, rfl, dp, q.nx _ _ _ (s2.upO h rp (putO_inn hc)) e⟩
  · exact e.elim
/-- d.get(y, x) -/
def dDGet2 (i : Nat) (ea eb : EvE) : EvE := fun δ Q => match δ[i]? with
  | some (.own _ c) => ea δ fun y => eb δ fun w => ∃ r, lookO c y = some r ∧ Q (r.getD w)
  | _ => False
end
end Dl
set_option maxHeartbeats 1000000
/-! max(x, default=i), of ints; a range by steps -/
namespace Dl
open PySem PySem.Spec PyProof.Rows L2 Lcn Sq
def maxOr (ns : List Int) (i : Int) : Int := match ns with
  | [] => i
  | n :: r => r.foldl max n
def rMaxDef (K : PySem.W.Frag) : List V → List V → Hp → VK → Prop := fun vs zs H Q => ∃ a k ns i, vs = [.ref a] ∧ Zm.sqK k K H a (ns.map V.int) ∧ zs = [.int i] ∧ Q (.int (maxOr ns i)) H
theorem dp_ints {K : PySem.W.Frag} {H : Hp} : ∀ ns : List Int, DpAll K H (ns.map V.int) (ns.map PyData.int)
  | [] => .nil
  | n :: ns => .cons (.int n) (dp_ints ns)
theorem alike_ints (ns : List Int) : PySem.W.AlikeAll (ns.map PyData.int) := by
  refine ⟨fun x hx y hy => ?_, fun x hx => ?_⟩
  · obtain ⟨i, _, rfl⟩ := List.mem_map.mp hx
    obtain ⟨j, _, rfl⟩ := List.mem_map.mp hy
    rfl
  · obtain ⟨i, _, rfl⟩ := List.mem_map.mp hx
    exact fun z => nomatch z
theorem depth_ints : ∀ ns : List Int, PyData.depthAll (ns.map PyData.int) = 0
  | [] => by simp [PyData.depthAll]
  | n :: ns => by
    rw [List.map_cons, PyData.depthAll, depth_ints ns]
    simp [PyData.depth]
theorem max_fin {h' : Heap} {ns : List Int} {its : List Value} {n : Int} {r : List Int} {i : Nat} {v : Value} {bs : List Addr} (e : ns = n :: r) (rv : Vals (ns.map V.int) its) (hv : its.toArray[i]? = some v) (hr : Reads h' v (PySem.W.maxD (.int n) (r.map .int)) bs) : RelV (.int (maxOr ns 0)) v := by
  rw [PySem.W.maxD_ints] at hr
  have hv' : its[i]? = some v := by simpa using hv
  have : ∃ k t, v = .int k t := by
    have hi : i < its.length := (List.getElem?_eq_some_iff.mp hv').1
    have hl := rv.length
    have hx : (ns.map V.int)[i]? = some (V.int (ns[i]'(by rw [List.length_map] at hl; omega))) := by
      have : i < ns.length := by rw [List.length_map] at hl; omega
      simp [List.getElem?_map, this]
    obtain ⟨u, e1, r1⟩ := rv.get hx
    rw [hv'] at e1
    cases e1
    obtain ⟨t, rfl⟩ := r1
    exact ⟨_, t, rfl⟩
  obtain ⟨k, t, rfl⟩ := this
  cases hr
  subst e
  exact ⟨t, rfl⟩
theorem cr_maxDef {X : Cx} {K : PySem.W.Frag} (hc : X.calm = true) (hK : X.K = K) (hu : X.A.units + 1 < cLine) : CallRK X (.builtin "max") ["default"] (rMaxDef K) := by
  intro pins s σ H xs zs us ws Q I rx rz h
  subst hK
  obtain ⟨a, k, ns, i, rfl, hq, rfl, q⟩ := h
  rw [Vals.ref1 rx]
  cases rz with
  | cons r1 r2 =>
    cases r2
    obtain ⟨t, rfl⟩ := r1
    have fin : ∀ h' tk v, (∀ b o, s.heap.get? b = some o → h'.get? b = some o) → RelV (.int (maxOr ns i)) v → EP X pins σ Q v { s with heap := h', toks := tk } := fun h' tk v k r => ⟨_, H, I.kept (t' := tk) k, r, q⟩
    have same : ∀ y ys, ns.map PyData.int = y :: ys → ∃ n r, ns = n :: r ∧ y = .int n ∧ ys = r.map .int := fun y ys e => by
      cases ns with
      | nil => cases e
      | cons n r =>
        cases e
        exact ⟨n, r, rfl, rfl, rfl⟩
    have mo : ∀ n r, ns = n :: r → maxOr ns i = maxOr ns 0 := fun n r e => by rw [e]; rfl
    cases k
    · obtain ⟨its, rv, p, _⟩ := I.tuple hq
      obtain ⟨as, hr⟩ := Dp.readsAll I (ns.map .int) (ns.map V.int) its (dp_ints ns) rv
      refine PySem.W.max_tuple_default (vs := its.toArray) (xs := ns.map .int) (I.ok.hd hc) p hr (alike_ints ns) (by rw [depth_ints]; omega) (fun e h' tk k => fin h' tk _ k ?_) (fun y ys j v h' tk bs e hv hr k => fin h' tk v k ?_)
      · cases ns with
        | nil => exact ⟨t, rfl⟩
        | cons => cases e
      · obtain ⟨n, r, e1, rfl, rfl⟩ := same y ys e
        rw [mo n r e1]
        exact max_fin e1 rv hv hr
    · obtain ⟨its, rv, p, _⟩ := I.list hq
      obtain ⟨as, hr⟩ := Dp.readsAll I (ns.map .int) (ns.map V.int) its (dp_ints ns) rv
      refine PySem.W.max_list_default (vs := its.toArray) (xs := ns.map .int) (I.ok.hd hc) p.isList hr (alike_ints ns) (by rw [depth_ints]; omega) (fun e h' tk k => fin h' tk _ k ?_) (fun y ys j v h' tk bs e hv hr k => fin h' tk v k ?_)
      · cases ns with
        | nil => exact ⟨t, rfl⟩
        | cons => cases e
      · obtain ⟨n, r, e1, rfl, rfl⟩ := same y ys e
        rw [mo n r e1]
        exact max_fin e1 rv hv hr
section
variable {ι : Type} {K : PySem.W.Frag} {X : ι → Cx} {z o : Bool} {pos p2 kpos : Pos} {a b c e tg iter : Expr} {es : List Expr} {ea eb ec : EvE} {et : EvA}
def dMaxDef (ea eb : EvE) : EvE := fun δ Q => ea δ fun x => eb δ fun y => ∃ ns i, itemsD x = some (ns.map .int) ∧ y = .int i ∧ Q (.int (maxOr ns i))
theorem de_maxDef {p : Pos} {nm : Option Str} (ha : DE z K X a ea) (hb : DE z K X b eb) (hg : ∀ i, Gl (X i) "max") (hm : ∀ i, (X i).mg "max" = none) (hu : ∀ i, (X i).A.units + 1 < cLine) (hc : ∀ i, (X i).calm = true := by intro _; rfl) (hK : ∀ i, (X i).K = K := by intro _; rfl)
    (hs : ∀ i, starEach [a] (X i).env = (false, eval a (X i).env) :: starEach [] (X i).env := by intro _; rfl) (he : ∀ i, backTo pos (starEach [a] (X i).env) = (false, eval a (X i).env) :: backTo pos (starEach [] (X i).env) := by intro _; rfl) (hpl : ∀ i, (backTo pos (starEach [a] (X i).env)).any (·.1) = false := by intro _; rfl)
    (hall : ∀ i, (backToKw pos (keywordEach [⟨nm, b, kpos⟩] (X i).env)).all (·.1.isSome) = true := by intro _; rfl) (hnone : ∀ i, (backToKw pos (keywordEach [⟨nm, b, kpos⟩] (X i).env)).any (·.1.isNone) = false := by intro _; rfl) (hks : ∀ i, (backToKw pos (keywordEach [⟨nm, b, kpos⟩] (X i).env)).filterMap (·.1) = [("default" : Str)] := by intro _; rfl) :
    DE z K X (.Call (.Name "max" p) [a] [⟨nm, b, kpos⟩] pos) (dMaxDef ea eb) := by
  obtain ⟨ta, pa, va⟩ := ha
  obtain ⟨tb, pb, vb⟩ := hb
  refine ⟨_, fun i => pe_callBK (cr_maxDef (hc i) (hK i) (hu i)) (hg i) (hm i) (by decide +kernel) (pa_cons (pa i) pa_nil (hs i)) (pk_cons (pb i) pk_nil) (he := he i) (hpl := hpl i) (hall := hall i) (hnone := hnone i) (hks := hks i), fun C σ δ H Q Qd k s e q => ?_⟩
  subst k
  refine va C σ δ H _ _ rfl s e fun x dx H1 e1 r1 e => ?_
  refine vb C σ δ H1 _ _ rfl (s.step e1) e fun y dy H2 e2 r2 e => ?_
  obtain ⟨ns, i, hx, rfl, e⟩ := e
  obtain ⟨kk, a', xs, rfl, g1, l1, k1⟩ := rep_items (rep_st (s.step e1) e2 r1) hx
  rw [repl_ints l1] at g1
  exact ⟨a', kk, ns, i, rfl, g1, by rw [r2.int_inv], q _ _ H2 (e1.trans e2) (.int _) e⟩
/-- range(i, j, c) -/
def rngC (lo c : Int) (n : Nat) : List Dt := (List.range n).map fun (i : Nat) => Dt.int (lo + (i : Int) * c)
def ivR3 (et : EvA) : EvA := fun δ Q => et δ fun ds => match ds with
  | [.int i, .int j, .int c] => ∃ n, RgC i j c n ∧ Q (rngC i c n)
  | _ => False
theorem di_range3 {p : Pos} (hg : ∀ i, Gl (X i) "range") (hm : ∀ i, (X i).mg "range" = none) (ha : DA false K X [a, b, c] et) (hs : ∀ i, starEach [a, b, c] (X i).env = (false, eval a (X i).env) :: starEach [b, c] (X i).env := by intro _; rfl) (hpl : ∀ i, (backTo pos (starEach [b, c] (X i).env)).any (·.1) = false := by intro _; rfl) : DI o K X tg (.Call (.Name "range" p) [a, b, c] [] pos) (ivR3 et) := by
  obtain ⟨t, pa, v⟩ := ha
  refine ⟨_, fun i => pi_range3 (hg i) (hm i) (pa i) (hs i) (hpl i), fun C σ δ H R Qd k s e q => ?_⟩
  refine v C σ δ H _ _ k s e fun vs ds H1 e1 r e => ?_
  split at e
  · rename_i i j c
    obtain ⟨n, hr, e⟩ := e
    have hl := r.l
    match vs, hl, r with
    | [x, y, w], _, r =>
      refine ⟨i, j, c, n, by rw [r.head.1.int_inv, r.head.2.head.1.int_inv, r.head.2.head.2.head.1.int_inv], hr, q _ _ _ _ (rngC i c n) H1 (fun _ => True) [] walk_rangeC (by simp [rngC]) e1 (fun _ _ _ => trivial) (fun _ _ => trivial) (fun g m => nomatch m) ⟨fun _ _ _ _ _ => trivial, fun l d av H x H' hd _ _ _ y => ?_⟩ e⟩
      have e2 : H' = H ∧ x = .int (i + (l : Int) * c) := y
      obtain ⟨rfl, rfl⟩ := e2
      unfold rngC at hd
      rw [List.getElem?_map] at hd
      obtain ⟨j', h1, h2⟩ := Option.map_eq_some_iff.mp hd
      have : j' = l := by
        have := (List.getElem?_eq_some_iff.mp h1).2
        simpa using this.symm
      subst this
      subst h2
      exact ⟨Same.refl _, .int _⟩
  · exact e.elim
end
end Dl
set_option maxHeartbeats 1000000
/-! generators over data -/
namespace Dl
open PySem PySem.Spec PyProof.Rows L2 Lcn Sq
structure DGEnds where
  nx : List Dt → List Sl → Prop
  rt : List Dt → Dt → Prop
  bk : List Dt → List Sl → Prop := fun _ _ => False
  ct : List Dt → List Sl → Prop := fun _ _ => False
structure GEndsR (C : Ctx) (D : GEnds) (Dd : DGEnds) : Prop where
  nx : ∀ ys yd σ δ H, Sok C H σ δ → RepL C.K (Zd C δ) H ys yd → Dd.nx yd δ → D.nx ys σ H
  rt : ∀ ys yd v d H, Stp C.S C.H0 H → Rep C.K C.av H v d → RepL C.K C.av H ys yd → Dd.rt yd d → D.rt ys v H
  bk : ∀ ys yd σ δ H, Sok C H σ δ → RepL C.K (Zd C δ) H ys yd → Dd.bk yd δ → D.bk ys σ H
  ct : ∀ ys yd σ δ H, Sok C H σ δ → RepL C.K (Zd C δ) H ys yd → Dd.ct yd δ → D.ct ys σ H
abbrev EvG := DGEnds → List Dt → List Sl → Prop
def VGn (K : PySem.W.Frag) (t : TGn) (ev : EvG) : Prop := ∀ (C : Ctx) (σ : L2.St) (δ : List Sl) (H : Hp) (ys : List V) (yd : List Dt) (D : GEnds) (Dd : DGEnds), C.K = K → Sok C H σ δ → RepL C.K (Zd C δ) H ys yd → ev Dd yd δ → GEndsR C D Dd → t D ys σ H
def DGn {ι : Type} (K : PySem.W.Frag) (X : ι → Cx) (st : Stmt) (ev : EvG) : Prop := ∃ t, (∀ i, GS (X i) st t) ∧ VGn K t ev
def DGns {ι : Type} (K : PySem.W.Frag) (X : ι → Cx) (st : List Stmt) (ev : EvG) : Prop := ∃ t, (∀ i, GSs (X i) st t) ∧ VGn K t ev
theorem ghost_repl {K : PySem.W.Frag} {av : Addr → Prop} {H : Hp} {ys : List V} {yd : List Dt} (l : ys.length = yd.length) (h : ∀ g, g ∈ ys.zip yd → Rep K av H g.1 g.2) : RepL K av H ys yd := ⟨l, fun i x d h1 h2 => h (x, d) (List.mem_iff_getElem?.mpr ⟨i, by rw [List.getElem?_zip_eq_some]; exact ⟨h1, h2⟩⟩)⟩
section
variable {ι : Type} {K : PySem.W.Frag} {X : ι → Cx} {z o : Bool} {pos p2 yp : Pos} {c e : Expr} {es : List Expr} {ea : EvE} {tv : EvT} {st : Stmt} {rest body : List Stmt} {sv : EvS} {gv gw : EvG}
theorem dgn_plain (h : DS K X st sv) : DGn K X st (fun D yd δ => sv { nx := D.nx yd, rt := D.rt yd, bk := D.bk yd, ct := D.ct yd } δ) := by
  obtain ⟨t, p, v⟩ := h
  refine ⟨_, fun i => gs_ps (p i), fun C σ δ H ys yd D Dd k s r e q => ?_⟩
  have l := r.l
  have s2 : Sok { C with gh := ys.zip yd ++ C.gh } H σ δ := s.ghost (repl_ghost (C := C) r)
  refine v { C with gh := ys.zip yd ++ C.gh } σ δ H _ _ k s2 e ⟨fun σ δ H s e => ?_, fun v d H st r gh e => ?_, fun σ δ H s e => ?_, fun σ δ H s e => ?_⟩
  · exact q.nx ys yd σ δ H s.unghost.1 (ghost_repl l s.unghost.2) e
  · exact q.rt ys yd v d H st r (ghost_repl l fun g m => gh g (List.mem_append_left _ m)) e
  · exact q.bk ys yd σ δ H s.unghost.1 (ghost_repl l s.unghost.2) e
  · exact q.ct ys yd σ δ H s.unghost.1 (ghost_repl l s.unghost.2) e
theorem dgns_nil : DGns K X [] (fun D yd δ => D.nx yd δ) := ⟨_, fun _ => gss_nil, fun C σ δ H ys yd D Dd k s r e q => q.nx ys yd σ δ H s r e⟩
def dgSeq (gv gw : EvG) : EvG := fun D yd δ => gv { D with nx := gw D } yd δ
theorem dgns_cons (h1 : DGn K X st gv) (h2 : DGns K X rest gw) : DGns K X (st :: rest) (dgSeq gv gw) := by
  obtain ⟨t, p, v⟩ := h1
  obtain ⟨t2, p2, v2⟩ := h2
  refine ⟨_, fun i => gss_cons (p i) (p2 i), fun C σ δ H ys yd D Dd k s r e q => ?_⟩
  exact v C σ δ H ys yd _ _ k s r e ⟨fun ys yd σ δ H s r e => v2 C σ δ H ys yd D Dd k s r e q, q.rt, q.bk, q.ct⟩
theorem dgn_yield (h : DE true K X e ea) (hco : ∀ i, (X i).env.scope.isCoroutine = false := by intro _; rfl) (hi : ∀ i, interactive (X i).env = false := by intro _; rfl) : DGn K X (.Expr (.Yield (some e) yp) pos) (fun D yd δ => yd.length < sizeLine ∧ ea δ fun d => D.nx (yd ++ [d]) δ) := by
  obtain ⟨t, p, v⟩ := h
  refine ⟨_, fun i => gs_yield (p i) (hco i) (hi i), fun C σ δ H ys yd D Dd k s r e q => ⟨by rw [r.l]; exact e.1, ?_⟩⟩
  subst k
  refine v C σ δ H _ _ rfl s e.2 fun x d H1 e1 rx e => q.nx _ _ σ δ H1 (s.step e1) (RepL.append ?_ (.cons rx .nil)) e
  exact ⟨r.l, fun i x d h1 h2 => rep_step s e1 (r.f i x d h1 h2)⟩
def dgWhile (tv : EvT) (gv : EvG) : EvG := fun D yd δ => ∃ W : Nat → List Dt → List Sl → Prop, (∃ m, W m yd δ) ∧ ∀ m yd δ, W m yd δ → tv δ fun b => if b = true then gv { nx := fun yd' δ' => ∃ m', m' < m ∧ W m' yd' δ', rt := D.rt, bk := D.nx, ct := fun yd' δ' => ∃ m', m' < m ∧ W m' yd' δ' } yd δ else D.nx yd δ
theorem dgn_while (hc : DT K X c tv) (hb : DGns K X body gv) (hpo : ∀ i, PassesOwn (model (X i).prog (X i).w) (X i).A (X i).env (X i).xe) : DGn K X (.While c body [] pos) (dgWhile tv gv) := by
  obtain ⟨t, p, v⟩ := hc
  obtain ⟨tb, pb, vb⟩ := hb
  refine ⟨_, fun i => gs_while (hpo i) (p i) (pb i), fun C σ δ H ys yd D Dd k s r e q => ?_⟩
  subst k
  obtain ⟨W, ⟨m0, w0⟩, e⟩ := e
  refine ⟨fun m ys σ H => ∃ yd δ, Sok C H σ δ ∧ RepL C.K (Zd C δ) H ys yd ∧ W m yd δ, ⟨m0, yd, δ, s, r, w0⟩, ?_⟩
  rintro m ys σ H ⟨yd, δ, s, r, w⟩
  refine v C σ δ H _ _ rfl s (e m yd δ w) fun b H1 e1 e => ?_
  have r1 : RepL C.K (Zd C δ) H1 ys yd := ⟨r.l, fun i x d h1 h2 => rep_step s e1 (r.f i x d h1 h2)⟩
  cases b
  · exact q.nx ys yd σ δ H1 (s.step e1) r1 e
  · refine ⟨fun ys' σ' H' => ∃ m', m' < m ∧ ∃ yd' δ', Sok C H' σ' δ' ∧ RepL C.K (Zd C δ') H' ys' yd' ∧ W m' yd' δ', fun ys' σ' H' ⟨m', hm, yd', δ', s', r', w'⟩ => ⟨m', hm, yd', δ', s', r', w'⟩, ?_⟩
    exact vb C σ δ H1 ys yd _ _ rfl (s.step e1) r1 e ⟨fun ys yd σ δ H s r ⟨m', hm, w'⟩ => ⟨m', hm, yd, δ, s, r, w'⟩, q.rt, q.nx, fun ys yd σ δ H s r ⟨m', hm, w'⟩ => ⟨m', hm, yd, δ, s, r, w'⟩⟩
end
abbrev SpcG := List Sl → (List Dt → Prop) → Prop
def dspG (K : PySem.W.Frag) (n : Nat) (sp : SpcG) : SpG := fun vs H Q _ => ∃ (S : Sc) (av : Addr → Prop) (δ : List Sl) (Qd : List Dt → Prop), (∀ b, sa S b → av b) ∧ Al av H ∧ Gs S H ∧ ArgsOk S K av H vs δ ∧ δ.length = n ∧ sp δ Qd ∧ ∀ ys yd H', Stp S H H' → RepL K av H' ys yd → Qd yd → Q ys H'
section
variable {P : Program} {w : World} {K : PySem.W.Frag} {mg : Str → Option Value} {base : Heap}
theorem gfn_d {x qual : Str} {params : Arguments} {body : List Stmt} {scope : Scope} {dvs : List V} {kws : List (Str × V)} {f : Addr} {fd : FuncData} {N ps : List Str} {k : Nat} {sp : SpcG} {sv : EvG} (F : FunD K x qual params body scope dvs kws f fd) (S : GScope N ps scope)
    (hbody : ∀ (cdv : Value) (A : Around) (outer : List Env) (s : Shared) (H : Hp) (E : XK) (pn : List (Addr × Obj)), Room k (A.deeper (PyProof.Rows.envOfC qual scope s.heap.objs.size f cdv)) → DGns K (fun _ : Unit => gcxOf P w K mg base N qual scope f cdv A outer s H E pn) body sv)
    (hsp : ∀ (δ : List Sl) (Qd : List Dt → Prop), δ.length = ps.length → sp δ Qd → sv { nx := fun yd _ => Qd yd, rt := fun yd d => d = .non ∧ Qd yd } [] (st0 N δ)) : GFn P w K mg base (k + 1) f fd ps (dspG K ps.length sp) := by
  obtain ⟨oc, od, dV, kV, doc, pm, an, cdv, ct, osl, rfl, lk, hcd, _, _⟩ := F.ex
  refine gfn_of lk hcd S (fun vs H Q E h => ?_) fun A outer s H vs Q E pn hr h => ?_
  · obtain ⟨S, av, δ, Qd, _, _, _, a, l, _⟩ := h
    rw [a.l, l]
  · obtain ⟨S, av, δ, Qd, h1, h2, h3, a, l, hs, q⟩ := h
    obtain ⟨ts, p, v⟩ := hbody cdv A outer s H E pn hr
    refine ⟨ts, p (), v ⟨K, S, av, H, []⟩ _ _ H [] [] _ _ rfl (sok_start h1 h2 h3 a) .nil (hsp δ Qd l hs) ⟨fun ys yd σ δ H' s r e => q ys yd H' s.st (r.mono fun b z => .inl z) e, fun ys yd v d H' e rv r e2 => ?_, fun _ _ _ _ _ _ _ e => e.elim, fun _ _ _ _ _ _ _ e => e.elim⟩⟩
    obtain ⟨rfl, e2⟩ := e2
    exact ⟨rv.non_inv, q ys yd H' e r e2⟩
end
section
variable {ι : Type} {K : PySem.W.Frag} {X : ι → Cx} {z : Bool} {pos pos2 : Pos} {e : Expr} {es : List Expr} {et : EvLs}
theorem none_back {C : Ctx} {H H' : Hp} {σ : L2.St} {δ : List Sl} (s : Sok C H σ δ) (e : Stp C.S H H') {p : Addr} (n : H' p = none) : H p = none := by
  cases x : H p with
  | none => rfl
  | some u =>
    by_cases c : ch C.S p
    · exact absurd (s.avs p (ch_sa c)) ((s.step e).ava.na n)
    · rw [e.keep p u c x] at n
      cases n
/-- list(g(..)), g a generator -/
theorem dn_listG {x nm : Str} {p p3 : Pos} {n : Nat} {sp : SpcG} (hp : ∀ {t : TA} i, PA (X i) (e :: es) t → PE (X i) (.Call (.Name nm p3) [.Call (.Name x p) (e :: es) [] pos] [] pos2) (tListG (tCallG (dspG K n sp) [] (fun _ _ _ => False) t))) (ha : DLs true K X (e :: es) et) : DN K X (.Call (.Name nm p3) [.Call (.Name x p) (e :: es) [] pos] [] pos2) (fun δ Q => et δ fun ss => ss.length = n ∧ sp ss Q) := by
  obtain ⟨t, pa, v⟩ := ha
  refine ⟨_, fun i => hp i (pa i), fun C σ δ H Q Qd k s e q => ?_⟩
  subst k
  refine v C σ δ H _ _ rfl s e fun vs ss H1 e1 r e => ?_
  have s1 := s.step e1
  refine ⟨C.S, Zd C δ, ss, Qd, fun b hb => .inl (s.avs b hb), s1.alz, s1.g, ?_, e.1, e.2, fun ys yd H2 e2 r2 qd pp hp2 => ?_⟩
  · rw [List.append_nil]
    exact r
  · have e12 := e1.trans e2
    exact q pp ys yd _ (none_back s e12 hp2) (e12.trans (Stp.new hp2)) upd_same (r2.move (fun b u _ h => same_new hp2 b u h) fun b zb => zb.imp id fun (zb : b = pp) => by rw [zb]; exact hp2) qd
theorem noStop0 {K : PySem.W.Frag} : NoStop K (fun _ _ _ => False) := fun _ _ _ h => h.elim
theorem passesF {X : Cx} : Passes (L2.CX X.prog X.w) X (fun _ _ _ => False) := fun _ _ _ _ _ _ _ c => by
  obtain ⟨_, _, _, _, _, _, _, _, _, _, _, _, h⟩ := c
  exact h.elim
end
end Dl
set_option maxHeartbeats 4000000
/-! t * 0, t * 1: the other ways of a tuple taken so many times -/
namespace Tm
open PySem PySem.Spec PyProof.Rows L2
/-- taken once: itself -/
theorem once_tuple (l : Addr) (its : Array Value) (n : Nat) (dd : Option Addr) (sl : Array (Option Value)) (u : Tok) :
    Meets (Builtin.«tuple.__mul__» ⟨[.ref l, .int 1 u], []⟩) (fun _ R s => s.heap.get? l = some { cls := .type "tuple", dict := dd, data := .seq its n, slots := sl } ∧ R (.ok (.ret (Value.ref l))) s) :=
  .of_wp fun prog w A R s h => by
    obtain ⟨hp, g, d, tk, os⟩ := s
    obtain ⟨hl, h⟩ := h
    have f1 := AutoSeq1.idx_int
    have hs : (its.isEmpty || (1 : Int) == 1) = true := by simp
    wp_walk using wpAny_loadPart' hl
    repeat (first
      | (refine wpAny_ite_false (by decide) ?_; wp_walk using wpAny_loadPart' hl)
      | (refine wpAny_ite_true hs ?_; wp_walk using wpAny_loadPart' hl))
    exact ⟨_, rfl, h⟩
/-- taken no time: a new empty one -/
theorem none_tuple (l : Addr) (its : Array Value) (n : Nat) (dd : Option Addr) (sl : Array (Option Value)) (u : Tok) (hi : its.isEmpty = false) :
    Meets (Builtin.«tuple.__mul__» ⟨[.ref l, .int 0 u], []⟩) (fun _ R s => s.heap.get? l = some { cls := .type "tuple", dict := dd, data := .seq its n, slots := sl } ∧ R (.ok (.ret (Value.ref s.heap.objs.size))) { s with heap := s.heap.push { cls := Value.type "tuple", data := Data.seq #[] }, toks := s.toks }) :=
  .of_wp fun prog w A R s h => by
    obtain ⟨hp, g, d, tk, os⟩ := s
    obtain ⟨hl, h⟩ := h
    have f1 := AutoSeq1.idx_int
    have hs : (its.isEmpty || (0 : Int) == 1) = false := by rw [hi]; rfl
    wp_walk using wpAny_loadPart' hl
    exact ⟨_, rfl, h⟩
/-- once, or no time: rR -/
def rFew (K : PySem.W.Frag) : R2 := fun x y H Q => ∃ l xs, x = .ref l ∧ SqT K H l xs ∧ ((y = .int 1 ∧ Q (.ref l) H) ∨ (y = .int 0 ∧ xs ≠ [] ∧ ∀ p, H p = none → Q (.ref p) (upd H p (.tup []))))
theorem road {X : Cx} {s : Shared} {l : Addr} {its : Array Value} {n : Nat} {dd : Option Addr} {sl : Array (Option Value)} {k : Int} {t : Tok} {Q : Value → Shared → Prop}
    (ho : s.heap.get? l = some { cls := .type "tuple", dict := dd, data := .seq its n, slots := sl })
    (hw : wpAny (model X.prog X.w) X.A (call (.builtin "tuple.__mul__") [.ref l, .int k t]) Q X.xe s) : wpAny (model X.prog X.w) X.A (binaryOp .Mult (.ref l) (.int k t)) Q X.xe s := by
  have ty : s.TypeIs (.ref l) "tuple" := ⟨_, ho, rfl⟩
  have nofill := noFill_tuple_mul
  refine wpAny_binaryOp_repeat_ref (T := "tuple") (by decide) ty (fun s' => typeIs_int s' k t) nofill F.fills_int_mul F.slot_int_rmul repeat_tuple F.slot_int_index.lookup ?_
  exact call_meets F.slot_int_rmul (typeIs_int s k t) F.entry_int_rmul (F.args_int_rmul_2 _ _) (int_rmul_tuple k t l its n dd sl) ⟨ho, rfl, ty, hw⟩
theorem op_few {X : Cx} : OpR X (binaryOp .Mult) (rFew X.K) := by
  intro pins s σ H x y v u Q I rx ry h
  obtain ⟨l, xs, rfl, hT, h⟩ := h
  cases rx
  obtain ⟨its, r, ⟨⟨cls, dd, data, sl⟩, ho, hc, n, hd⟩, hs⟩ := I.tuple hT
  dsimp only at hc hd
  subst hc hd
  rcases h with ⟨rfl, q⟩ | ⟨rfl, ne, q⟩
  · obtain ⟨t, rfl⟩ := ry
    refine road ho (call_meets F.slot_tuple_mul ⟨_, ho, rfl⟩ F.entry_tuple_mul (F.args_tuple_mul_2 _ _) (once_tuple l its.toArray n dd sl t) ⟨ho, ?_⟩)
    exact ⟨.ref l, H, I, rfl, q⟩
  · obtain ⟨t, rfl⟩ := ry
    have hi : its.toArray.isEmpty = false := by
      have hl := r.length
      cases its with
      | nil => exact absurd (List.eq_nil_of_length_eq_zero hl) ne
      | cons a b => rfl
    refine road ho (call_meets F.slot_tuple_mul ⟨_, ho, rfl⟩ F.entry_tuple_mul (F.args_tuple_mul_2 _ _) (none_tuple l its.toArray n dd sl t hi) ⟨ho, ?_⟩)
    refine ⟨.ref s.heap.objs.size, _, I.laid (t' := s.toks) (o := .tup []) (fun b ob q => Heap.get?_push_of_some _ q) (Nat.le_refl _) ?_, rfl, q _ (I.hok.fresh (Nat.le_refl _))⟩
    exact ⟨Nat.zero_le _, [], .nil, IsTup.new _ _⟩
end Tm
set_option maxHeartbeats 4000000
/-! enumerate(t), t a tuple -/
namespace En
open PySem PySem.Spec PyProof.Rows L2 Sq
open AutoSeq1 (wpAny_loadPart')
section
variable {prog : Program} {w : World} {A : Around} {E : Value → Shared → Prop} {s : Shared}
/-- one step of the tuple's own walk -/
theorem next_t {it t : Addr} {i : Nat} {items : Array Value} {x : Value} {Q : Value → Shared → Prop} (hit : s.heap.IsTupleIter it t i) (ht : s.heap.IsTuple t items) (hx : items[i]? = some x)
    (hQ : ∀ h', h'.IsTupleIter it t (i + 1) → Heap.SameBut it s.heap h' → Q x { s with heap := h' }) : wpAny (model prog w) A (Builtin.SmallTypes.nextOf (.ref it)) Q E s := by
  obtain ⟨o, ho, hc, hd⟩ := id hit
  obtain ⟨ol, hol, _, nl, hdl⟩ := ht
  unfold Builtin.SmallTypes.nextOf
  refine wpAny_bind (wpAny_callSpecial?_slot (name := Str.ofString "__next__") hit.typeIs F.slot_tuple_iterator_next (wpAny_call_entry F.slot_tuple_iterator_next hit.typeIs F.entry_tuple_iterator_next ?_ (F.args_tuple_iterator_next_1 _)))
  show wpAny _ _ (field (.ref it) 0 >>= _) _ _ s
  refine wpAny_bind (wpAny_field ho hd (x := .ref t) rfl ?_)
  show wpAny _ _ (if (Value.ref t == Value.none) = true then _ else _) _ _ s
  rw [if_neg (show ¬ ((Value.ref t == Value.none) = true) from Bool.false_ne_true)]
  show wpAny _ _ (field (.ref it) 1 >>= _) _ _ s
  refine wpAny_bind (wpAny_field ho hd (x := .int i 0) rfl ?_)
  show wpAny _ _ (seqItems? (.ref t) >>= _) _ _ s
  refine wpAny_bind (wpAny_seqItems hol hdl ?_)
  simp only [Int.toNat_natCast, hx]
  refine wpAny_bind (wpAny_setField ho hd (by simp) (wpAny_pure ⟨x, rfl, wpAny_pure (hQ _ ?_ (Heap.SameBut.update ..))⟩))
  exact ⟨_, Heap.get?_update_self _ ho (Obj.isFreed_of_fields (Obj.data_mapFields hd _)), (Obj.cls_mapFields ..).trans hc, by
    rw [Obj.data_mapFields hd]; simp [rawInt]⟩
theorem next_t_end {it t : Addr} {i : Nat} {items : Array Value} {Q : Value → Shared → Prop} (hh : A.handled = none) (hit : s.heap.IsTupleIter it t i) (ht : s.heap.IsTuple t items) (hx : items[i]? = none)
    (hE : ∀ h' e, Heap.ExtBut it s.heap h' → (∃ o, h'.get? e = some o ∧ o.cls = .type "StopIteration") → E (.ref e) { s with heap := h' }) : wpAny (model prog w) A (Builtin.SmallTypes.nextOf (.ref it)) Q E s := by
  obtain ⟨o, ho, hc, hd⟩ := id hit
  obtain ⟨ol, hol, _, nl, hdl⟩ := ht
  unfold Builtin.SmallTypes.nextOf
  refine wpAny_bind (wpAny_callSpecial?_slot (name := Str.ofString "__next__") hit.typeIs F.slot_tuple_iterator_next (wpAny_call_entry F.slot_tuple_iterator_next hit.typeIs F.entry_tuple_iterator_next ?_ (F.args_tuple_iterator_next_1 _)))
  show wpAny _ _ (field (.ref it) 0 >>= _) _ _ s
  refine wpAny_bind (wpAny_field ho hd (x := .ref t) rfl ?_)
  show wpAny _ _ (if (Value.ref t == Value.none) = true then _ else _) _ _ s
  rw [if_neg (show ¬ ((Value.ref t == Value.none) = true) from Bool.false_ne_true)]
  show wpAny _ _ (field (.ref it) 1 >>= _) _ _ s
  refine wpAny_bind (wpAny_field ho hd (x := .int i 0) rfl ?_)
  show wpAny _ _ (seqItems? (.ref t) >>= _) _ _ s
  refine wpAny_bind (wpAny_seqItems hol hdl ?_)
  simp only [Int.toNat_natCast, hx]
  refine wpAny_bind (wpAny_rule (wpAny_bind (wpAny_setField ho hd (by simp) ?_)))
  show wpAny _ _ (newExc (.type "StopIteration") [] >>= _) _ _ _
  refine wpAny_bind ?_
  simp only [newExc, newTuple]
  refine wpAny_bind (wpAny_newObj_type ?_ (by size_fits))
  refine wpAny_bind (m := firstArgMember _ _) (wpAny_of_eq (a := Value.none) (by first | rfl | (simp only [firstArgMember]; rfl)) ?_)
  refine wpAny_newObj_type ?_ (by size_fits)
  simp only [raiseNew]
  refine wpAny_bind (wpAny_handled ?_)
  first | rw [show A.in1.handled = none from hh] | rw [hh]
  refine wpAny_bind (wpAny_pure (wpAny_throw ?_))
  exact hE _ _ (((Heap.SameBut.update ..).extBut.push _).push _) ⟨_, Heap.get?_push_size _ rfl, rfl⟩
/-- one step of the enumeration, whatever is walked within: N gives its item and keeps P, a fact that other records don't touch -/
theorem enum_step {e it : Addr} {i : Nat} {x old : Value} {P : Heap → Prop} {Q : Value → Shared → Prop} (he : IsEnum s.heap e it i old) (hne : e ≠ it) (pk : ∀ h h', (∀ o, h.get? it = some o → h'.get? it = some o) → P h → P h')
    (N : ∀ (A : Around) (Q : Value → Shared → Prop), (∀ h', P h' → Heap.SameBut it s.heap h' → Q x { s with heap := h' }) → wpAny (model prog w) A (Builtin.SmallTypes.nextOf (.ref it)) Q E s)
    (hQ : ∀ h', IsEnumOut h' e it ((i : Int) + 1) x s.heap.objs.size → P h' → h'.get? s.heap.objs.size = some { cls := .type "tuple", data := .seq #[.int i s.toks, x] } → h'.objs.size = s.heap.objs.size + 1 →
      (∀ b o, b ≠ e → b ≠ it → s.heap.get? b = some o → h'.get? b = some o) → Q (.ref s.heap.objs.size) { s with heap := h', toks := s.toks + 1 }) :
    wpAny (model prog w) A (Builtin.«enumerate.__next__» ⟨[.ref e], []⟩) (fun fin s' => ∃ v, fin = .done (.ret v) ∧ Q v s') E s := by
  obtain ⟨hp, g, d, tk, os⟩ := s
  have apart : ∀ {h h' : Heap}, Heap.SameBut e h h' → P h → P h' := fun sb p => pk _ _ (fun o q => (sb.2 it (Ne.symm hne)).trans q) p
  have el := Heap.lt_size he
  show wpAny _ _ (field (.ref e) 2 >>= _) _ _ _
  refine wpAny_bind (wpAny_field he rfl (x := .ref it) rfl (wpAny_bind (N _ _ fun h1 p1 sb1 => ?_)))
  have e1 : IsEnum h1 e it i old := (sb1.2 e hne).trans he
  show wpAny _ _ (field (.ref e) 3 >>= _) _ _ ⟨h1, g, d, tk, os⟩
  refine wpAny_bind (wpAny_field e1 rfl (x := rawInt i) rfl ?_)
  show wpAny _ _ (field (.ref e) 4 >>= _) _ _ ⟨h1, g, d, tk, os⟩
  refine wpAny_bind (wpAny_field e1 rfl (x := .none) rfl ?_)
  show wpAny _ _ (mkInt i >>= _) _ _ ⟨h1, g, d, tk, os⟩
  refine wpAny_bind (wpAny_mkInt ?_)
  show wpAny _ _ (setField (.ref e) 3 (rawInt ((i : Int) + 1)) >>= _) _ _ ⟨h1, g, d, tk + 1, os⟩
  refine wpAny_bind (wpAny_setField_rec e1 (by simp) fun h2 e2 sb2 => ?_)
  replace e2 : IsEnum h2 e it ((i : Int) + 1) old := e2
  show wpAny _ _ (setField (.ref e) 4 .none >>= _) _ _ ⟨h2, g, d, tk + 1, os⟩
  refine wpAny_bind (wpAny_setField_rec e2 (by simp) fun h3 e3 sb3 => ?_)
  replace e3 : IsEnum h3 e it ((i : Int) + 1) old := e3
  replace sb1 : Heap.SameBut it hp h1 := sb1
  replace sb2 : Heap.SameBut e h1 h2 := sb2
  replace sb3 : Heap.SameBut e h2 h3 := sb3
  have z : h3.objs.size = hp.objs.size := by rw [sb3.1, sb2.1, sb1.1]
  show wpAny _ _ (newTuple [.int i tk, x] >>= _) _ _ ⟨h3, g, d, tk + 1, os⟩
  refine wpAny_bind (wpAny_newTuple ?_)
  have p4 : P (h3.push { cls := .type "tuple", data := .seq #[.int i tk, x] }) := pk _ _ (fun o q => Heap.get?_push_of_some _ q) (apart sb3 (apart sb2 p1))
  have e4 : IsEnum (h3.push { cls := .type "tuple", data := .seq #[.int i tk, x] }) e it ((i : Int) + 1) old := Heap.get?_push_of_some _ e3
  have t4 : (h3.push { cls := .type "tuple", data := .seq #[.int i tk, x] }).get? hp.objs.size = some { cls := .type "tuple", data := .seq #[.int i tk, x] } := by rw [← z]; exact Heap.get?_push_size _ rfl
  have z4 : (h3.push { cls := .type "tuple", data := .seq #[.int i tk, x] }).objs.size = hp.objs.size + 1 := by rw [Heap.size_push, z]
  have k4 : ∀ b o, b ≠ e → b ≠ it → hp.get? b = some o → (h3.push { cls := .type "tuple", data := .seq #[.int i tk, x] }).get? b = some o := fun b o be bi q => Heap.get?_push_of_some _ (sb3.extBut b o be (sb2.extBut b o be (sb1.extBut b o bi q)))
  generalize h3.push { cls := .type "tuple", data := .seq #[.int i tk, x] } = h4 at p4 e4 t4 z4 k4
  rw [z]
  clear z sb1 sb2 sb3 e1 e2 e3 p1
  show wpAny _ _ (Builtin.SmallTypes.ownedTupleIsFree (.ref e) >>= _) _ _ ⟨h4, g, d, tk + 1, os⟩
  refine wpAny_bind ?_
  unfold Builtin.SmallTypes.ownedTupleIsFree
  refine wpAny_bind (wpAny_field e4 rfl (x := .none) rfl (wpAny_pure ?_))
  simp only [if_true]
  refine wpAny_bind (wpAny_rule (wpAny_bind (wpAny_field e4 rfl (x := old) rfl (wpAny_bind (wpAny_setField_rec e4 (by simp) fun h5 e5 sb5 => ?_)))))
  replace e5 : IsEnum h5 e it ((i : Int) + 1) x := e5
  show wpAny _ _ (Builtin.SmallTypes.ownedTupleHandOut (.ref e) (.ref hp.objs.size) >>= _) _ _ ⟨h5, g, d, tk + 1, os⟩
  refine wpAny_bind ?_
  unfold Builtin.SmallTypes.ownedTupleHandOut
  refine wpAny_bind (wpAny_setField_rec e5 (by simp) fun h6 e6 sb6 => ?_)
  replace e6 : IsEnumOut h6 e it ((i : Int) + 1) x hp.objs.size := e6
  refine wpAny_setField_rec e6 (by simp) fun h7 e7 sb7 => ?_
  replace e7 : IsEnumOut h7 e it ((i : Int) + 1) x hp.objs.size := e7
  replace sb5 : Heap.SameBut e h4 h5 := sb5
  replace sb6 : Heap.SameBut e h5 h6 := sb6
  replace sb7 : Heap.SameBut e h6 h7 := sb7
  have ne4 : hp.objs.size ≠ e := Nat.ne_of_gt el
  refine wpAny_bind (wpAny_letGo (wpAny_pure ⟨_, rfl, hQ h7 e7 (apart sb7 (apart sb6 (apart sb5 p4))) (sb7.extBut _ _ ne4 (sb6.extBut _ _ ne4 (sb5.extBut _ _ ne4 t4))) ?_ fun b o be bi q => sb7.extBut b o be (sb6.extBut b o be (sb5.extBut b o be (k4 b o be bi q)))⟩))
  rw [sb7.1, sb6.1, sb5.1, z4]
theorem enum_t_item {e it t : Addr} {i : Nat} {items : Array Value} {x old : Value} {Q : Option Value → Shared → Prop} (he : IsEnum s.heap e it i old) (hit : s.heap.IsTupleIter it t i) (ht : s.heap.IsTuple t items) (hx : items[i]? = some x) (hne : e ≠ it)
    (hQ : ∀ h', IsEnumOut h' e it ((i : Int) + 1) x s.heap.objs.size → h'.IsTupleIter it t (i + 1) → h'.get? s.heap.objs.size = some { cls := .type "tuple", data := .seq #[.int i s.toks, x] } → h'.objs.size = s.heap.objs.size + 1 →
      (∀ b o, b ≠ e → b ≠ it → s.heap.get? b = some o → h'.get? b = some o) → Q (some (.ref s.heap.objs.size)) { s with heap := h', toks := s.toks + 1 }) : wpAny (model prog w) A (pyNext (.ref e)) Q E s := by
  have hT : s.TypeIs (.ref e) "enumerate" := ⟨_, he, rfl⟩
  unfold pyNext
  refine wpAny_bind (wpAny_attempt (wpAny_callSpecial?_slot (name := Str.ofString "__next__") hT F.slot_enumerate_next (wpAny_call_entry F.slot_enumerate_next hT F.entry_enumerate_next ?_ (F.args_enumerate_next_1 _))))
  refine enum_step (P := fun h => h.IsTupleIter it t (i + 1)) he hne (fun h h' k p => ?_) (fun A Q q => next_t hit ht hx q) fun h' a b c d k => wpAny_pure (hQ h' a b c d k)
  obtain ⟨o, ho, r⟩ := p
  exact ⟨o, k o ho, r⟩
theorem enum_t_end {e it t : Addr} {i : Nat} {items : Array Value} {old : Value} {Q : Option Value → Shared → Prop} (hh : A.handled = none) (he : IsEnum s.heap e it i old) (hit : s.heap.IsTupleIter it t i) (ht : s.heap.IsTuple t items) (hx : items[i]? = none)
    (hQ : ∀ h', Heap.ExtBut it s.heap h' → Q none { s with heap := h' }) : wpAny (model prog w) A (pyNext (.ref e)) Q E s := by
  have hT : s.TypeIs (.ref e) "enumerate" := ⟨_, he, rfl⟩
  unfold pyNext
  refine wpAny_bind (wpAny_attempt (wpAny_callSpecial?_slot (name := Str.ofString "__next__") hT F.slot_enumerate_next (wpAny_call_entry F.slot_enumerate_next hT F.entry_enumerate_next ?_ (F.args_enumerate_next_1 _))))
  show wpAny _ _ (field (.ref e) 2 >>= _) _ _ _
  refine wpAny_bind (wpAny_field he rfl (x := .ref it) rfl (wpAny_bind (next_t_end hh hit ht hx fun h' x he' hx' => ?_)))
  obtain ⟨o, ho, hc⟩ := hx'
  exact wpAny_bind (wpAny_isInstance (T := "StopIteration") (b := true) ⟨o, ho, hc⟩ isSubtype_stop (wpAny_pure (hQ _ he')))
end
theorem new_t (t : Addr) (items : Array Value) (n : Nat) (dct : Option Addr) (sl : Array (Option Value)) :
    Meets (Builtin.«enumerate.__new__» ⟨[.type "enumerate", .ref t], []⟩) (fun _ R s => s.heap.get? t = some ⟨.type "tuple", dct, .seq items n, sl⟩ ∧
      R (.ok (.ret (.ref (s.heap.push { cls := .type "tuple_iterator", data := .fields #[.ref t, .int 0 0] }).objs.size)))
        { s with heap := (s.heap.push { cls := .type "tuple_iterator", data := .fields #[.ref t, .int 0 0] }).push { cls := .type "enumerate", data := .fields #[.none, .bool false, .ref s.heap.objs.size, rawInt 0, .none, .none] } }) :=
  .of_wp fun prog w A R s h => by
    obtain ⟨hp, g, d, tk, os⟩ := s
    obtain ⟨hl, h⟩ := h
    have hsub := sub_enumerate
    have hL : Heap.IsTuple (Shared.heap ⟨hp, g, d, tk, os⟩) t items := ⟨_, hl, rfl, n, rfl⟩
    wp_walk using wpAny_loadPart' hl
    refine wpAny_stack_any fun st => wpAny_pure ?_
    split
    · rename_i c _ _ _ _ _
      cases (c == Value.type "enumerate") <;> (wp_walk using wpAny_loadPart' hl, wpAny_pyIter_tuple hL; exact ⟨_, rfl, h⟩)
    · wp_walk using wpAny_loadPart' hl, wpAny_pyIter_tuple hL
      exact ⟨_, rfl, h⟩
section
variable {prog : Program} {w : World} {A : Around} {E : Value → Shared → Prop} {s : Shared}
theorem call_enumT {t : Addr} {items : Array Value} {Q : Value → Shared → Prop} (hL : s.heap.IsTuple t items)
    (h : ∀ h', IsEnum h' (s.heap.objs.size + 1) s.heap.objs.size 0 .none → h'.IsTupleIter s.heap.objs.size t 0 → (∀ b o, s.heap.get? b = some o → h'.get? b = some o) → Q (.ref (s.heap.objs.size + 1)) { s with heap := h' }) : wpAny (model prog w) A (call (.type "enumerate") [.ref t]) Q E s := by
  obtain ⟨⟨c, dct, dt, sl⟩, hl, hc, n, hd⟩ := hL
  dsimp only at hc hd
  subst hc hd
  refine callType_new F.called_enumerate (by decide) (F.typeCall_enumerate_1 _) (F.newCall_enumerate_1 _) (fun obj => F.args_object_init_2 obj _) F.entry_enumerate_new (new_t t items n dct sl) ⟨hl, ?_⟩
  have z : (s.heap.push { cls := .type "tuple_iterator", data := .fields #[.ref t, .int 0 0] }).objs.size = s.heap.objs.size + 1 := Heap.size_push ..
  show _ ∧ _
  rw [z]
  have he : IsEnum ((s.heap.push { cls := .type "tuple_iterator", data := .fields #[.ref t, .int 0 0] }).push { cls := .type "enumerate", data := .fields #[.none, .bool false, .ref s.heap.objs.size, rawInt 0, .none, .none] }) (s.heap.objs.size + 1) s.heap.objs.size 0 .none := by
    rw [← z]
    exact Heap.get?_push_size _ rfl
  exact ⟨⟨_, he, rfl⟩, h _ he ⟨_, Heap.get?_push_of_some _ (Heap.get?_push_size _ rfl), rfl, rfl⟩ fun b o x => Heap.get?_push_of_some _ (Heap.get?_push_of_some _ x)⟩
end
/-- the tuple at a, each item in a new pair with its number -/
def IteT (K : PySem.W.Frag) (a : Addr) : It :=
  ⟨fun i H => ∃ (xs : List V) (x : V), SqT K H a xs ∧ xs[i]? = some x, fun i H v H' => ∃ T x, v = .ref T ∧ H T = none ∧ H' = upd H T (.tup [.int (i : Nat), x]) ∧ ∀ xs, SqT K H a xs → xs[i]? = some x, fun i H => ∃ xs : List V, SqT K H a xs ∧ xs.length ≤ i⟩
theorem turn_enumT {P : Program} {w : World} {K : PySem.W.Frag} {elts : List Expr} {kk : Nat} {tpos : Pos} (a e it : Addr) :
    Turn P w K (.Tuple elts kk tpos) (IteT K a) [e, it] e (fun i h => (∃ old, IsEnum h e it ((i : Nat) : Int) old) ∧ h.IsTupleIter it a i ∧ e ≠ it) where
  mem := by simp
  obj := fun i h st b hb => by
    obtain ⟨⟨old, he⟩, ⟨o, ho, hc, hd⟩, _⟩ := st
    rcases (by simpa using hb : b = e ∨ b = it) with z | z
    · rw [z]; exact ⟨_, he, fun v q => nomatch q⟩
    · rw [z]; exact ⟨o, ho, fun v q => by rw [hd] at q; cases q⟩
  keep := fun i h h' st k => by
    obtain ⟨⟨old, he⟩, ⟨o, ho, r⟩, hne⟩ := st
    exact ⟨⟨old, k e (by simp) _ he⟩, ⟨o, k it (by simp) o ho, r⟩, hne⟩
  item := by
    intro X hP hw hK hc i pins s σ H E I hf st hg
    subst hP hw hK
    obtain ⟨⟨old, he⟩, hit, hne⟩ := st
    obtain ⟨xs, x, hq, hx⟩ := hg
    obtain ⟨its, rv, p, hz⟩ := I.tuple hq
    obtain ⟨u, hu, ru⟩ := rv.get hx
    have el := Heap.lt_size he
    have il : it < s.heap.objs.size := by
      obtain ⟨_, q, _⟩ := hit
      exact Heap.lt_size q
    refine enum_t_item he hit (show s.heap.IsTuple a its.toArray from p) (x := u) (by simpa using hu) hne fun h' ho hit' hT hsz hk => ?_
    refine ⟨_, rfl, wpAny_letOwnedTupleGo_enum (s := { s with heap := h', toks := s.toks + 1 }) ho fun h'' he' sb => ?_⟩
    have hT2 : h''.get? s.heap.objs.size = some { cls := .type "tuple", data := .seq #[.int i s.toks, u] } := (sb.2 _ (Nat.ne_of_gt el)).trans hT
    have I1 : Inv X pins σ (upd H s.heap.objs.size (.tup [.int (i : Nat), x])) { s with heap := h'', toks := s.toks + 1 } :=
      I.turnedNew (ch := [e, it]) (fun b ob hb q => (sb.2 b (fun z => hb (by simp [z]))).trans (hk b ob (fun z => hb (by simp [z])) (fun z => hb (by simp [z])) q)) hf (Nat.le_refl _) ⟨by show 2 ≤ sizeLine; decide, [.int i s.toks, u], .cons ⟨_, rfl⟩ (.cons ru .nil), ⟨_, hT2, rfl, _, rfl⟩⟩
    refine ⟨.ref s.heap.objs.size, _, I1, rfl, ⟨_, x, rfl, I.hok.fresh (Nat.le_refl _), rfl, fun ys hy => by rw [I.tuple_inj hy hq]; exact hx⟩, ⟨⟨u, ?_⟩, ?_, hne⟩, fun b hb => ?_⟩
    · rw [show ((i + 1 : Nat) : Int) = (i : Int) + 1 by omega]
      exact he'
    · obtain ⟨o, ho, r⟩ := hit'
      exact ⟨o, (sb.2 it (Ne.symm hne)).trans ho, r⟩
    · have lt : b < s.heap.objs.size := by
        rcases (by simpa using hb : b = e ∨ b = it) with z | z
        · rw [z]; exact el
        · rw [z]; exact il
      rw [upd_ne (Nat.ne_of_lt lt)]
      exact (hf b hb).1
  done := by
    intro X hP hw hK hc i pins s σ H E I hf st hg
    subst hP hw hK
    obtain ⟨⟨old, he⟩, hit, hne⟩ := st
    obtain ⟨xs, hq, hx⟩ := hg
    obtain ⟨its, rv, p, hz⟩ := I.tuple hq
    obtain ⟨f0, f1, f2, f3, f4, f5⟩ := hf it (by simp)
    have hl := rv.length
    exact enum_t_end (I.ok.hd hc) he hit (show s.heap.IsTuple a its.toArray from p) (by simp; omega) fun h' eb => ⟨rfl, I.turned (t' := s.toks) (fun b o hb q => eb b o hb q) f0 f1 f3 f4 f5⟩
  self := fun A i s Q E st h => by
    obtain ⟨⟨_, he⟩, _⟩ := st
    exact wpAny_pyIter_enum he h
@[irreducible] def iEnumT (K : PySem.W.Frag) (ta : TA) : TI := fun σ H R => ta σ H fun vs H1 => ∃ a xs, vs = [.ref a] ∧ SqT K H1 a xs ∧ R (IteT K a) H1
theorem pi_enumT {X : Cx} {e : Expr} {ta : TA} {p pos tpos : Pos} {elts : List Expr} {kk : Nat} (hg : Gl X "enumerate") (hm : X.mg "enumerate" = none) (ha : PA X [e] ta) (hs : starEach [e] X.env = [(false, eval e X.env)] := by rfl) :
    PI X (.Tuple elts kk tpos) (.Call (.Name "enumerate" p) [e] [] pos) (iEnumT X.K ta) := by
  refine ⟨fun pins s σ H R I h => ?_⟩
  unfold iEnumT at h
  refine Call_ (ld_blt I hg hm boot_enumerate (PyProof.Rows.callWith_type1 (thn (ha.run pos pins s σ H _ I h) fun us s1 ⟨vs, H1, I1, r1, a, xs, ex, hq, q⟩ => ?_) hs rfl))
  subst ex
  cases r1 with
  | cons r rr =>
    cases rr
    cases r
    obtain ⟨its, rv, p', hz⟩ := I1.tuple hq
    refine call_enumT (show s1.heap.IsTuple a its.toArray from p') fun h' he hit hk => wpAny_pyIter_enum he ?_
    refine ⟨s1.heap.objs.size + 1, [s1.heap.objs.size + 1, s1.heap.objs.size], _, _, H1, rfl, I1.kept (t' := s1.toks) hk, turn_enumT a (s1.heap.objs.size + 1) s1.heap.objs.size, ⟨⟨.none, he⟩, hit, Nat.succ_ne_self _⟩, fun b hb => ?_, q⟩
    have hle : s1.heap.objs.size ≤ b := by
      rcases (by simpa using hb : b = s1.heap.objs.size + 1 ∨ b = s1.heap.objs.size) with z | z
      · rw [z]; exact Nat.le_add_right _ _
      · rw [z]; exact Nat.le_refl _
    exact I1.fpOk hle (I1.hok.fresh hle)
theorem walk_enumT {K : PySem.W.Frag} {a : Addr} {xs : List V} : Walk (IteT K a) xs.length (fun H => SqT K H a xs) (fun i H v H' => ∃ T x, v = .ref T ∧ H T = none ∧ H' = upd H T (.tup [.int (i : Nat), x]) ∧ xs[i]? = some x) :=
  ⟨fun i H hi h => ⟨xs, xs[i], h, by simp [hi]⟩, fun H h => ⟨xs, h, Nat.le_refl _⟩, fun i H x H' hi h y => by
    obtain ⟨T, z, h1, h2, h3, h4⟩ := y
    exact ⟨T, z, h1, h2, h3, h4 xs h⟩⟩
end En
set_option maxHeartbeats 1000000
namespace Dl
open PySem PySem.Spec PyProof.Rows L2 Lcn Sq
section
variable {K : PySem.W.Frag} {X : Cx}
/-- a * b with tuples too -/
def dMulA (x y : Dt) (Q : Dt → Prop) : Prop := match x, y with
  | .int i, .int j => CMulW i j ∧ Q (.int (i * j))
  | .lst a, .int k => -(2 ^ 63) ≤ k ∧ k < 2 ^ 63 ∧ a.length * k.toNat ≤ sizeLine ∧ Q (.lst (List.replicate k.toNat a).flatten)
  | .tup a, .int k => a ≠ [] ∧ a.length ≤ 1000 ∧ 0 ≤ k ∧ k ≤ 1000 ∧ Q (.tup (List.replicate k.toNat a).flatten)
  | _, _ => False
def rMulA (K : PySem.W.Frag) : R2 := fun x y H Q => rMulAll x y H Q ∨ (Tm.rFew K x y H Q ∨ rRepT K x y H Q)
theorem op_mulA (hK : X.K = K) : OpR X (binaryOp .Mult) (rMulA K) := by
  subst hK
  exact op_mulAll.or (Tm.op_few.or op_repT)
theorem ro_mulA : ROk K (rMulA K) dMulA := by
  intro av H x y dx dy Q Qd al rx ry d q
  unfold dMulA at d
  split at d
  · exact .inl (ro_mul (K := K) av H x y _ _ Q Qd al rx ry d q)
  · exact .inl (ro_mul (K := K) av H x y _ _ Q Qd al rx ry d q)
  · rename_i a k
    obtain ⟨d1, d2, d3, d4, d⟩ := d
    have rx' := rx
    obtain ⟨p, xs, rfl, hx, lx⟩ := rx.tup_inv
    have ne : xs ≠ [] := fun e => d1 (by
      have := lx.l
      rw [e] at this
      exact List.eq_nil_of_length_eq_zero this.symm)
    have ey := ry.int_inv
    by_cases h0 : k = 0
    · subst h0
      exact .inr (.inl ⟨p, xs, rfl, hx.sq, .inr ⟨ey, ne, fun b hb => q _ _ _ (same_new hb) (rep_newT al hb .nil) d⟩⟩)
    · by_cases h1 : k = 1
      · subst h1
        refine .inr (.inl ⟨p, xs, rfl, hx.sq, .inl ⟨ey, q _ _ H (Same.refl H) rx' ?_⟩⟩)
        have e : (List.replicate (1 : Int).toNat a).flatten = a := by
          show (List.replicate 1 a).flatten = a
          simp
        rw [e] at d
        exact d
      · exact .inr (.inr ⟨p, k, xs, rfl, ey, hx.sq, ne, by omega, d4, by rw [lx.l]; exact d2, fun b hb => q _ _ _ (same_new hb) (rep_newT al hb (repl_flat lx _)) d⟩)
  · exact d.elim
end
section
variable {ι : Type} {K : PySem.W.Frag} {X : ι → Cx} {z o : Bool} {pos p2 apos cpos : Pos} {a b c e tg iter : Expr} {es : List Expr} {ea eb ec : EvE} {et : EvA}
theorem de_mulA (ha : DE z K X a ea) (hb : DE z K X b eb) (hK : ∀ i, (X i).K = K := by intro _; rfl) : DE z K X (.BinOp a .Mult b pos) (dOp dMulA ea eb) := de_op (fun i => op_mulA (hK i)) ro_mulA ha hb
/-- xs.index(y), xs a list, y in it -/
def dIndex (ea eb : EvE) : EvE := fun δ Q => ea δ fun x => match x with
  | .lst ds => eb δ fun y => shD (.lst ds) = true ∧ shD y = true ∧ ∃ j z, ds[j]? = some z ∧ eqD z y = true ∧ (∀ (m : Nat) (z' : Dt), m < j → ds[m]? = some z' → eqD z' y = false) ∧ Q (.int (j : Nat))
  | _ => False
theorem pyL_get : ∀ {ds : List Dt} {j : Nat}, (pyL ds)[j]? = (ds[j]?).map py
  | [], j => by simp [pyL]
  | d :: r, 0 => by simp [pyL]
  | d :: r, j + 1 => by
    rw [pyL, List.getElem?_cons_succ, List.getElem?_cons_succ]
    exact pyL_get
theorem de_index (hp : ∀ {to te : TE} i, PE (X i) a to → PE (X i) b te → PE (X i) (.Call (.Attribute a "index" apos) [b] [] cpos) (tBM (X i).K "list" (rIndexD (X i).K) to (tCons te tNil))) (ha : DE z K X a ea) (hb : DE z K X b eb) (hK : ∀ i, (X i).K = K := by intro _; rfl) : DE z K X (.Call (.Attribute a "index" apos) [b] [] cpos) (dIndex ea eb) := by
  obtain ⟨ta, pa, va⟩ := ha
  obtain ⟨tb, pb, vb⟩ := hb
  refine ⟨tBM K "list" (rIndexD K) ta (tCons tb tNil), fun i => hK i ▸ hp i (pa i) (pb i), fun C σ δ H Q Qd k s e q => ?_⟩
  subst k
  refine va C σ δ H _ _ rfl s e fun x dx H1 e1 r1 e => ?_
  split at e
  · rename_i ds
    have r1' := r1
    obtain ⟨p, xs, rfl, hx, lx⟩ := r1.lst_inv
    refine ⟨.inl ⟨rfl, xs, hx.sq⟩, vb C σ δ H1 _ _ rfl (s.step e1) e fun y dy H2 e2 r2 e => ?_⟩
    obtain ⟨s1, s2, j, zz, hj, hz, hn, e⟩ := e
    have d1 := dp_of _ _ (sh_py s1).2 (rep_st (s.step e1) e2 r1')
    have s1' := (sh_py s1).1
    rw [py] at d1 s1'
    refine ⟨p, y, py dy, pyL ds, j, py zz, rfl, rfl, d1, dp_of dy y (sh_py s2).2 r2, s1', (sh_py s2).1, by rw [pyL_get, hj]; rfl, hz, fun m z' hm hz' => ?_, q _ _ H2 (e1.trans e2) (.int _) e⟩
    rw [pyL_get] at hz'
    obtain ⟨w, hw, rfl⟩ := Option.map_eq_some_iff.mp hz'
    exact hn m w hm hw
  · exact e.elim
/-- list(x), as a new list -/
theorem dn_list {x : Str} {p : Pos} (ha : DE true K X e ea) (hg : ∀ i, Gl (X i) "list") (hm : ∀ i, (X i).mg "list" = none) (hK : ∀ i, (X i).K = K := by intro _; rfl)
    (he : ∀ i, starEach [e] (X i).env = (false, eval e (X i).env) :: starEach [] (X i).env := by intro _; rfl) : DN K X (.Call (.Name "list" p) [e] [] pos) (fun δ Q => ea δ fun d => ∃ ds, itemsD d = some ds ∧ Q ds) := by
  obtain ⟨t, pa, v⟩ := ha
  refine ⟨_, fun i => pe_callTy (cr_list (hK i)) (hg i) (hm i) (by decide +kernel) (pa_cons (pa i) pa_nil (he i)) (he := he i), fun C σ δ H Q Qd k s e q => ?_⟩
  subst k
  refine v C σ δ H _ _ rfl s e fun w d H1 e1 r1 e => ?_
  obtain ⟨ds, hd, e⟩ := e
  obtain ⟨kk, a', xs, rfl, g, l, _⟩ := rep_items r1 hd
  refine ⟨a', xs, rfl, by cases kk; exact .inr g; exact .inl g, fun p hp => ?_⟩
  exact q p xs ds _ (none_back s e1 hp) (e1.trans (Stp.new hp)) upd_same (l.move (fun b u _ h => same_new hp b u h) fun b zb => zb.imp id fun (zb : b = p) => by rw [zb]; exact hp) e
/-- a + b of lists, as a new list -/
theorem dn_add (ha : DE true K X a ea) (hb : DE true K X b eb) : DN K X (.BinOp a .Add b pos) (fun δ Q => ea δ fun x => eb δ fun y => ∃ xs ys, x = .lst xs ∧ y = .lst ys ∧ xs.length + ys.length ≤ sizeLine ∧ Q (xs ++ ys)) := by
  obtain ⟨ta, pa, va⟩ := ha
  obtain ⟨tb, pb, vb⟩ := hb
  refine ⟨_, fun i => pe_op op_cat (pa i) (pb i), fun C σ δ H Q Qd k s e q => ?_⟩
  subst k
  refine va C σ δ H _ _ rfl s e fun x dx H1 e1 r1 e => ?_
  refine vb C σ δ H1 _ _ rfl (s.step e1) e fun y dy H2 e2 r2 e => ?_
  obtain ⟨us, ws, rfl, rfl, hl, e⟩ := e
  obtain ⟨l, xs, rfl, hx, lx⟩ := (rep_st (z := true) (s.step e1) e2 r1).lst_inv
  obtain ⟨m, ys, rfl, hy, ly⟩ := r2.lst_inv
  refine ⟨l, m, xs, ys, rfl, rfl, hx.2, hy.2, by rw [lx.l, ly.l]; exact hl, fun p hp => ?_⟩
  have e12 := e1.trans e2
  exact q p _ _ _ (none_back s e12 hp) (e12.trans (Stp.new hp)) upd_same ((lx.append ly).move (fun b u _ h => same_new hp b u h) fun b zb => zb.imp id fun (zb : b = p) => by rw [zb]; exact hp) e
/-- list(range(..)), tuple(range(..)) -/
theorem rg_repl {av : Addr → Prop} {H : Hp} (m n : Int) : RepL K av H (rgV m n) (rngD m (n - m).toNat) := by
  refine ⟨by rw [rgV_length, rngD_len], fun i x d h1 h2 => ?_⟩
  obtain ⟨hi, rfl⟩ := rngD_get h2
  unfold rgV at h1
  rw [List.getElem?_map] at h1
  obtain ⟨j, e1, rfl⟩ := Option.map_eq_some_iff.mp h1
  have : j = i := by
    have := (List.getElem?_eq_some_iff.mp e1).2
    simpa using this.symm
  subst this
  exact .int _
def dRgL (l : Bool) (ea eb : EvE) : EvE := fun δ Q => ea δ fun d => eb δ fun d' => match d, d' with
  | .int m, .int n => RgOk m n ∧ Q (if l = true then .lst (rngD m (n - m).toNat) else .tup (rngD m (n - m).toNat))
  | _, _ => False
theorem ve_rg {te : L2.St → Hp → (Int → Int → Hp → Prop) → Prop} {ev : List Sl → (Int → Int → Prop) → Prop} (v : ∀ (C : Ctx) (σ : L2.St) (δ : List Sl) (H : Hp) (Q : Int → Int → Hp → Prop) (Qd : Int → Int → Prop), C.K = K → Sok C H σ δ → ev δ Qd → (∀ m n H', Stp C.S H H' → Qd m n → Q m n H') → te σ H Q) :
    VE z K (tLstRg te) (fun δ Q => ev δ fun m n => RgOk m n ∧ Q (.lst (rngD m (n - m).toNat))) ∧ VE z K (tTupRg te) (fun δ Q => ev δ fun m n => RgOk m n ∧ Q (.tup (rngD m (n - m).toNat))) := by
  constructor
  · intro C σ δ H Q Qd k s e q
    exact v C σ δ H _ _ k s e fun m n H1 e1 e => ⟨e.1, fun p hp => q _ _ _ (e1.trans (Stp.new hp)) (rep_newL (s.step e1).al hp (rg_repl m n)) e.2⟩
  · intro C σ δ H Q Qd k s e q
    exact v C σ δ H _ _ k s e fun m n H1 e1 e => ⟨e.1, fun p hp => q _ _ _ (e1.trans (Stp.new hp)) (rep_newT (s.step e1).al hp (rg_repl m n)) e.2⟩
def dR1 (ea : EvE) : List Sl → (Int → Int → Prop) → Prop := fun δ Q => ea δ fun d => match d with
  | .int n => Q 0 n
  | _ => False
def dR2 (ea eb : EvE) : List Sl → (Int → Int → Prop) → Prop := fun δ Q => ea δ fun d => eb δ fun d' => match d, d' with
  | .int m, .int n => Q m n
  | _, _ => False
theorem vr1 {ta : TE} (v : VE false K ta ea) : ∀ (C : Ctx) (σ : L2.St) (δ : List Sl) (H : Hp) (Q : Int → Int → Hp → Prop) (Qd : Int → Int → Prop), C.K = K → Sok C H σ δ → dR1 ea δ Qd → (∀ m n H', Stp C.S H H' → Qd m n → Q m n H') → tRg1 ta σ H Q := by
  intro C σ δ H Q Qd k s e q
  refine v C σ δ H _ _ k s e fun x d H1 e1 r e => ?_
  split at e
  · exact ⟨_, r.int_inv, q _ _ H1 e1 e⟩
  · exact e.elim
theorem vr2 {ta tb : TE} (v : VE false K ta ea) (v2 : VE false K tb eb) : ∀ (C : Ctx) (σ : L2.St) (δ : List Sl) (H : Hp) (Q : Int → Int → Hp → Prop) (Qd : Int → Int → Prop), C.K = K → Sok C H σ δ → dR2 ea eb δ Qd → (∀ m n H', Stp C.S H H' → Qd m n → Q m n H') → tRg2 ta tb σ H Q := by
  intro C σ δ H Q Qd k s e q
  refine v C σ δ H _ _ k s e fun x d H1 e1 r e => ?_
  refine v2 C σ δ H1 _ _ k (s.step e1) e fun x' d' H2 e2 r2 e => ?_
  split at e
  · exact ⟨_, _, r.int_inv, r2.int_inv, q _ _ H2 (e1.trans e2) e⟩
  · exact e.elim
section
variable (hc : ∀ i, (X i).calm = true) {p p3 pos3 : Pos} (hg : ∀ i, Gl (X i) "range") (hm : ∀ i, (X i).mg "range" = none)
theorem de_list1Rg (hg2 : ∀ i, Gl (X i) "list") (hm2 : ∀ i, (X i).mg "list" = none) (hg : ∀ i, Gl (X i) "range") (hm : ∀ i, (X i).mg "range" = none) (ha : DE false K X a ea) (hc : ∀ i, (X i).calm = true := by intro _; rfl) (n1 : ∀ i, starEach [a] (X i).env = (false, eval a (X i).env) :: starEach [] (X i).env := by intro _; rfl) (n2 : ∀ i, starEach [.Call (.Name "range" p3) [a] [] pos3] (X i).env = (false, eval (.Call (.Name "range" p3) [a] [] pos3) (X i).env) :: starEach [] (X i).env := by intro _; rfl) : DE z K X (.Call (.Name "list" p) [.Call (.Name "range" p3) [a] [] pos3] [] pos) (fun δ Q => dR1 ea δ fun m n => RgOk m n ∧ Q (.lst (rngD m (n - m).toNat))) := by
  obtain ⟨t, pa, v⟩ := ha
  exact ⟨_, fun i => pe_listRg (hc i) (hg2 i) (hm2 i) (prg_1 (hg i) (hm i) (pa i) (n1 i)) (n2 i), (ve_rg (vr1 v)).1⟩
theorem de_tuple1Rg (hg2 : ∀ i, Gl (X i) "tuple") (hm2 : ∀ i, (X i).mg "tuple" = none) (hg : ∀ i, Gl (X i) "range") (hm : ∀ i, (X i).mg "range" = none) (ha : DE false K X a ea) (hc : ∀ i, (X i).calm = true := by intro _; rfl) (n1 : ∀ i, starEach [a] (X i).env = (false, eval a (X i).env) :: starEach [] (X i).env := by intro _; rfl) (n2 : ∀ i, starEach [.Call (.Name "range" p3) [a] [] pos3] (X i).env = (false, eval (.Call (.Name "range" p3) [a] [] pos3) (X i).env) :: starEach [] (X i).env := by intro _; rfl) : DE z K X (.Call (.Name "tuple" p) [.Call (.Name "range" p3) [a] [] pos3] [] pos) (fun δ Q => dR1 ea δ fun m n => RgOk m n ∧ Q (.tup (rngD m (n - m).toNat))) := by
  obtain ⟨t, pa, v⟩ := ha
  exact ⟨_, fun i => pe_tupRg (hc i) (hg2 i) (hm2 i) (prg_1 (hg i) (hm i) (pa i) (n1 i)) (n2 i), (ve_rg (vr1 v)).2⟩
theorem de_list2Rg (hg2 : ∀ i, Gl (X i) "list") (hm2 : ∀ i, (X i).mg "list" = none) (hg : ∀ i, Gl (X i) "range") (hm : ∀ i, (X i).mg "range" = none) (ha : DE false K X a ea) (hb : DE false K X b eb) (hc : ∀ i, (X i).calm = true := by intro _; rfl) (n1 : ∀ i, starEach [a, b] (X i).env = (false, eval a (X i).env) :: starEach [b] (X i).env := by intro _; rfl) (n3 : ∀ i, starEach [b] (X i).env = (false, eval b (X i).env) :: starEach [] (X i).env := by intro _; rfl) (n4 : ∀ i, (backTo pos3 (starEach [b] (X i).env)).any (·.1) = false := by intro _; rfl) (n2 : ∀ i, starEach [.Call (.Name "range" p3) [a, b] [] pos3] (X i).env = (false, eval (.Call (.Name "range" p3) [a, b] [] pos3) (X i).env) :: starEach [] (X i).env := by intro _; rfl) : DE z K X (.Call (.Name "list" p) [.Call (.Name "range" p3) [a, b] [] pos3] [] pos) (fun δ Q => dR2 ea eb δ fun m n => RgOk m n ∧ Q (.lst (rngD m (n - m).toNat))) := by
  obtain ⟨t, pa, v⟩ := ha
  obtain ⟨t2, pb, v2⟩ := hb
  exact ⟨_, fun i => pe_listRg (hc i) (hg2 i) (hm2 i) (prg_2 (hg i) (hm i) (pa i) (pb i) (n1 i) (n3 i) (n4 i)) (n2 i), (ve_rg (vr2 v v2)).1⟩
end
end
end Dl
namespace Dl
theorem ru1 {k : Nat} {A : PySem.Around} (hr : L2.Room k A) : A.units + 1 < PySem.cLine := by have := hr.un; omega
end Dl
set_option maxHeartbeats 1000000
/-! ints, tuples and lists of ints: equality, shape -/
namespace Dl
open PySem PySem.Spec PyProof.Rows L2 Lcn Sq
abbrev iT (ns : List Int) : Dt := .tup (ns.map .int)
abbrev iL (ns : List Int) : Dt := .lst (ns.map .int)
theorem pyL_map {α : Type} (f : α → Dt) : ∀ xs : List α, pyL (xs.map f) = xs.map fun x => py (f x)
  | [] => by simp [pyL]
  | x :: r => by rw [List.map_cons, pyL, pyL_map f r, List.map_cons]
theorem okL_all {ds : List Dt} (h : ∀ d, d ∈ ds → okD d = true) : okL ds = true := by
  induction ds with
  | nil => rfl
  | cons d r ih =>
    rw [okL, h d (List.mem_cons_self ..), ih fun e m => h e (List.mem_cons_of_mem _ m)]
    rfl
theorem dep_all {ds : List Dt} {n : Nat} (h : ∀ d, d ∈ ds → (py d).depth ≤ n) : PyData.depthAll (pyL ds) ≤ n := by
  induction ds with
  | nil => simp [pyL, PyData.depthAll]
  | cons d r ih =>
    rw [pyL, PyData.depthAll]
    exact Nat.max_le.mpr ⟨h d (List.mem_cons_self ..), ih fun e m => h e (List.mem_cons_of_mem _ m)⟩
/-- fit for ==, n deep -/
def Fit (n : Nat) (d : Dt) : Prop := okD d = true ∧ (py d).depth ≤ n
theorem Fit.sh {n : Nat} {d : Dt} (h : Fit n d) (hn : n ≤ 64) : shD d = true := by
  unfold shD
  rw [h.1, decide_eq_true (Nat.le_trans h.2 hn)]
  rfl
theorem fit_int (n : Nat) (i : Int) : Fit n (.int i) := ⟨rfl, by simp [py, PyData.depth]⟩
theorem fit_bl (n : Nat) (i : Bool) : Fit n (.bl i) := ⟨rfl, by simp [py, PyData.depth]⟩
theorem fit_non (n : Nat) : Fit n .non := ⟨rfl, by simp [py, PyData.depth]⟩
theorem fit_tup {n : Nat} {ds : List Dt} (h : ∀ d, d ∈ ds → Fit n d) : Fit (n + 1) (.tup ds) := ⟨by rw [okD]; exact okL_all fun d m => (h d m).1, by rw [py, PyData.depth]; exact Nat.succ_le_succ (dep_all fun d m => (h d m).2)⟩
theorem fit_lst {n : Nat} {ds : List Dt} (h : ∀ d, d ∈ ds → Fit n d) : Fit (n + 1) (.lst ds) := ⟨by rw [okD]; exact okL_all fun d m => (h d m).1, by rw [py, PyData.depth]; exact Nat.succ_le_succ (dep_all fun d m => (h d m).2)⟩
theorem fit_iT (ns : List Int) : Fit 1 (iT ns) := fit_tup (n := 0) fun d m => by
  obtain ⟨i, _, rfl⟩ := List.mem_map.mp m
  exact fit_int 0 i
theorem fit_iL (ns : List Int) : Fit 1 (iL ns) := fit_lst (n := 0) fun d m => by
  obtain ⟨i, _, rfl⟩ := List.mem_map.mp m
  exact fit_int 0 i
theorem Fit.up {n m : Nat} {d : Dt} (h : Fit n d) (e : n ≤ m) : Fit m d := ⟨h.1, Nat.le_trans h.2 e⟩
theorem fit_map {α : Type} {n : Nat} {f : α → Dt} (h : ∀ x, Fit n (f x)) (xs : List α) : ∀ d, d ∈ xs.map f → Fit n d := fun d m => by
  obtain ⟨x, _, rfl⟩ := List.mem_map.mp m
  exact h x
/-! f tells things apart: == of f x and f y is that of x and y -/
def Sep {α : Type} [DecidableEq α] (f : α → Dt) : Prop := ∀ x y, eqD (f x) (f y) = decide (x = y)
section
variable {α β : Type} [DecidableEq α] [DecidableEq β]
theorem sep_int : Sep Dt.int := fun x y => by
  unfold eqD
  simp only [py, PyData.eqv]
  exact Bool.beq_eq_decide_eq x y
theorem eqvA_map {f : α → Dt} (h : Sep f) : ∀ xs ys : List α, PyData.eqvAll (pyL (xs.map f)) (pyL (ys.map f)) = decide (xs = ys)
  | [], [] => by simp [pyL, PyData.eqvAll]
  | [], y :: r => by simp [pyL, PyData.eqvAll]
  | x :: r, [] => by simp [pyL, PyData.eqvAll]
  | x :: xs, y :: ys => by
    rw [List.map_cons, List.map_cons, pyL, pyL, PyData.eqvAll, eqvA_map h xs ys]
    have := h x y
    unfold eqD at this
    rw [this]
    by_cases e : x = y
    · subst e
      by_cases e2 : xs = ys
      · subst e2
        simp
      · simp [e2]
    · simp [e]
theorem sep_tup {f : α → Dt} (h : Sep f) : Sep fun xs : List α => Dt.tup (xs.map f) := fun xs ys => by
  unfold eqD
  rw [py, py, PyData.eqv]
  exact eqvA_map h xs ys
theorem sep_lst {f : α → Dt} (h : Sep f) : Sep fun xs : List α => Dt.lst (xs.map f) := fun xs ys => by
  unfold eqD
  rw [py, py, PyData.eqv]
  exact eqvA_map h xs ys
theorem sep_iT : Sep iT := sep_tup sep_int
theorem sep_iL : Sep iL := sep_lst sep_int
/-- a couple -/
theorem sep_two {f : α → Dt} {g : β → Dt} (hf : Sep f) (hg : Sep g) : Sep fun p : α × β => Dt.tup [f p.1, g p.2] := fun p q => by
  have h1 := hf p.1 q.1
  have h2 := hg p.2 q.2
  unfold eqD at h1 h2 ⊢
  simp only [py, pyL, PyData.eqv, PyData.eqvAll]
  rw [h1, h2, Bool.and_true]
  rw [Bool.eq_iff_iff]
  simp [Prod.ext_iff]
theorem anyEq_map {f : α → Dt} (h : Sep f) (x : α) : ∀ xs : List α, anyEq (f x) (xs.map f) = decide (x ∈ xs)
  | [] => rfl
  | y :: r => by
    have ih := anyEq_map h x r
    unfold anyEq at ih ⊢
    rw [List.map_cons, List.any_cons, ih, h y x]
    rw [Bool.eq_iff_iff]
    simp only [Bool.or_eq_true, decide_eq_true_eq, List.mem_cons]
    constructor
    · rintro (a | a)
      · exact .inl a.symm
      · exact .inr a
    · rintro (a | a)
      · exact .inl a.symm
      · exact .inr a
end
theorem dIn_map {α : Type} [DecidableEq α] {f : α → Dt} (h : Sep f) {n : Nat} (hf : ∀ x, Fit n (f x)) (hn : n + 1 ≤ 64) {x : α} {xs : List α} {neg : Bool} {Q : Dt → Prop} (q : Q (.bl (if neg then !decide (x ∈ xs) else decide (x ∈ xs)))) : dIn neg (f x) (.lst (xs.map f)) Q := by
  unfold dIn
  refine ⟨(hf x).sh (by omega), (fit_lst (fit_map hf xs)).sh hn, ?_⟩
  rw [anyEq_map h]
  exact q
theorem dEq_sep {α : Type} [DecidableEq α] {f : α → Dt} (h : Sep f) {n : Nat} (hf : ∀ x, Fit n (f x)) (hn : n ≤ 64) {x y : α} {neg : Bool} {Q : Dt → Prop} (q : Q (.bl (if neg then !decide (x = y) else decide (x = y)))) : dEq neg (f x) (f y) Q := by
  unfold dEq
  refine ⟨(hf x).sh hn, (hf y).sh hn, ?_⟩
  rw [h x y]
  exact q
theorem ix_map {α : Type} {f : α → Dt} {xs : List α} {i : Int} {x : α} {Q : Dt → Prop} (h : atI xs i = some x) (q : Q (f x)) : dIx (.lst (xs.map f)) (.int i) Q := ⟨_, atI_map h, q⟩
theorem ixT_map {α : Type} {f : α → Dt} {xs : List α} {i : Int} {x : α} {Q : Dt → Prop} (h : atI xs i = some x) (q : Q (f x)) : dIx (.tup (xs.map f)) (.int i) Q := ⟨_, atI_map h, q⟩
theorem cutD_map {α : Type} {f : α → Dt} (xs : List α) (lo hi : Option Int) : cutD (xs.map f) lo hi = ((xs.drop (HT.sIx xs.length 0 lo)).take (HT.sIx xs.length xs.length hi - HT.sIx xs.length 0 lo)).map f := by
  unfold cutD
  rw [List.length_map, ← List.map_drop, ← List.map_take]
theorem cutD_pre {α : Type} {f : α → Dt} (xs : List α) (n : Nat) : cutD (xs.map f) none (some (n : Int)) = (xs.take n).map f := by
  rw [cutD_map, HT.sIx_none, HT.sIx_nat, List.drop_zero, Nat.sub_zero]
  congr 1
  rcases Nat.le_total n xs.length with h | h
  · rw [Nat.min_eq_left h]
  · rw [Nat.min_eq_right h, List.take_of_length_le h, List.take_of_length_le (Nat.le_refl _)]
theorem rngD_map {lo : Int} {n : Nat} : rngD lo n = ((List.range n).map fun (i : Nat) => lo + (i : Int)).map Dt.int := by
  unfold rngD
  rw [List.map_map]
  rfl
/-- bounds of draws, ranges -/
theorem b62 {i : Int} (h0 : -1000000 ≤ i) (h1 : i ≤ 1000000) : -(2 ^ 62) ≤ i ∧ i < 2 ^ 62 := by
  have : (2 : Int) ^ 62 = 4611686018427387904 := by decide
  omega
end Dl
set_option maxHeartbeats 2000000
/-! != of instances of a class with an own ==, which has no own != -/
namespace Ne
open PySem PySem.Spec PyProof.Rows L2
section
variable {prog : Program} {w : World} {A : Around} {E : Value → Shared → Prop} {s : Shared} {K : PySem.W.Frag} {x C L f : Addr} {h₀ : Heap} {m : Str → Option Value} {ox : Obj} {od : Option Obj} {b tb : Value}
open PySem.W in
theorem ne_body {Q : Fin → Shared → Prop} (hu : A.units < cLine) (X : K.In s.heap) (I : InstAt s.heap x ox C od) (hs : findIn K (.ref C) "__eq__" = some (some (.ref f))) (hf : isFn K (.ref f) = true)
    (h : wpAny (model prog w) A (call (.ref f) [.ref x, b]) (fun v s' => ∃ r, v = .bool r ∧ Q (.done (.ret (.bool (!r)))) s') E s) :
    wpAny (model prog w) A (Builtin.«object.__ne__» ⟨[.ref x, b], []⟩) Q E s := by
  unfold Builtin.«object.__ne__»
  repeat (first
    | with_reducible refine wpAny_cRoomFor hu ?_
    | (refine wpAny_bind (m := callSpecialIfBound? (.ref x) (Str.ofString "__eq__") [b])
        (ifBound_K X I hs hf (wpAny_mono h (fun r s' hr => by
          obtain ⟨b, rfl, hq⟩ := hr
          repeat (first | exact hq | exact wpAny_pure hq | exact wpAny_truthy_bool hq | (refine wpAny_bind (m := truthy (.bool _)) (wpAny_truthy_bool ?_)) | wp_step)) fun _ _ e => e)))
    | wp_step)
open PySem.W in
theorem ne_bound {Q : Option Value → Shared → Prop} (hu : A.units + 1 < cLine) (X : K.In s.heap) (I : InstAt s.heap x ox C od) (hs : findIn K (.ref C) "__eq__" = some (some (.ref f))) (hf : isFn K (.ref f) = true)
    (hne : findIn K (.ref C) "__ne__" = some (some (.builtin "object.__ne__"))) (hm : mroIn K C (.type "object") = some true)
    (h : wpAny (model prog w) A.in1 (call (.ref f) [.ref x, b]) (fun v s' => ∃ r, v = .bool r ∧ Q (some (.bool (!r))) s') E s) :
    wpAny (model prog w) A (callSpecialIfBound? (.ref x) "__ne__" [b]) Q E s := by
  have S := F.cmp_object.ne
  simp only [callSpecialIfBound?, bindSpecialIfBound?]
  refine wpAny_holding (wpAny_bind (wpAny_bind (wpAny_bind (I.type.here ((looks_findIn X hne).here ?_)))))
  simp only [S.bind]
  have ii : Looks (model prog w) s.heap (isInstance (.ref x) (.type "object")) true := I.type.andThen (looks_mroIn X hm)
  have cl : wpAny (model prog w) A (call (.builtin "object.__ne__") [.ref x, b]) (fun v => Q (some v)) E s := by
    refine wpAny_call (codeAny_call_builtin S.plain F.cmpEntry_ne (check_slot F.cmpKind_ne F.cmpSplit_ne ii (F.cmpArgs_ne _ _) ?_))
    refine ne_body (A := A.in1) hu X I hs hf (wpAny_mono h (fun v s' hv => ?_) fun _ _ e => e)
    obtain ⟨r, rfl, hq⟩ := hv
    exact ⟨r, rfl, hq⟩
  refine wpAny_bind (wpAny_askSetting (wpAny_ite ?_))
  have fin : wpAny (model prog w) A (call (.builtin "object.__ne__") ([.ref x] ++ [b]) >>= fun v => pure (some v)) Q E s :=
    wpAny_bind (wpAny_mono cl (fun v s' h' => wpAny_pure h') fun _ _ h' => h')
  split
  · exact wpAny_bind (wpAny_pure (wpAny_pure fin))
  · exact wpAny_tryCatch (wpAny_bind (wpAny_pure (wpAny_pure fin)))
open PySem.W in
theorem ne_K {Q : Value → Shared → Prop} (hu : A.units + 1 < cLine) (F : Fr h₀ L s.heap m) (X₀ : K.In h₀) (I : InstAt s.heap x ox C od) (hb : Looks (model prog w) s.heap (typeOf b) tb) (hn : notFirst K C tb = true)
    (hs : findIn K (.ref C) "__eq__" = some (some (.ref f))) (hf : isFn K (.ref f) = true) (hne : findIn K (.ref C) "__ne__" = some (some (.builtin "object.__ne__"))) (hm : mroIn K C (.type "object") = some true)
    (h : wpAny (model prog w) A.in1 (call (.ref f) [.ref x, b]) (fun v s' => ∃ r, v = .bool r ∧ Q (.bool (!r)) s') E s) : wpAny (model prog w) A (richCompare .NotEq (.ref x) b) Q E s := by
  have X := X₀.keeps F.keep
  have one : wpAny (model prog w) A (tryCompare (.ref x) "__ne__" b) (fun r s' => ∃ v, r = some v ∧ Q v s') E s := by
    unfold tryCompare
    refine wpAny_bind (ne_bound hu X I hs hf hne hm (wpAny_mono h (fun v s' hv => ?_) fun _ _ e => e))
    obtain ⟨r, rfl, hq⟩ := hv
    exact ⟨r, rfl, wpAny_pure ⟨_, rfl, hq⟩⟩
  unfold richCompare
  simp only [oneThing_ref]
  refine wpAny_holding (wpAny_bind (wpAny_cRoomFor (Nat.lt_of_succ_lt hu) ?_))
  rw [cmpInfo_NotEq]
  dsimp only
  refine wpAny_bind (I.type.here (wpAny_bind (hb.here ?_)))
  split
  · rename_i q
    have e : subIn K tb (.ref C) = some false := by
      rcases Bool.or_eq_true_iff.mp hn with e | e
      · rw [beq_iff_eq.mp e] at q; simp at q
      · exact beq_iff_eq.mp e
    refine wpAny_bind ((looks_subIn X e).here ?_)
    simp only [Bool.false_eq_true, if_false]
    refine wpAny_bind (wpAny_mono one (fun r s' z => ?_) fun _ _ e => e)
    obtain ⟨v, rfl, hq⟩ := z
    exact wpAny_pure hq
  · refine wpAny_bind (wpAny_pure ?_)
    simp only [Bool.false_eq_true, if_false]
    refine wpAny_bind (wpAny_mono one (fun r s' z => ?_) fun _ _ e => e)
    obtain ⟨v, rfl, hq⟩ := z
    exact wpAny_pure hq
end
/-! ### the rule -/
section
variable {X : Cx} {n : Nat}
/-- != gives False for what D says, and only makes objects -/
def RcN (X : Cx) (n : Nat) (D : Eqv) : Prop :=
  ∀ (A : Around) (pins : List (Addr × Obj)) (s : Shared) (σ : L2.St) (H : Hp) (x y : V) (u v : Value), L2.Sub X n A → Inv X pins σ H s → RelV x u → RelV y v → D x y H →
    wpAny (model X.prog X.w) A (richCompare .NotEq u v) (fun r s' => r = .bool false ∧ ∃ H', Inv X pins σ H' s' ∧ Ext H H') X.xe s
theorem rcN_ins {CX : CXT} {C f : Addr} {fd : FuncData} {ps : List Str} {R : Addr → Addr → Hp → Prop} {E : XK} (F : FnOk X.prog X.w X.K X.mg X.base CX n f fd ps (spEq R))
    (hs : PySem.W.findIn X.K (.ref C) "__eq__" = some (some (.ref f))) (hf : PySem.W.isFn X.K (.ref f) = true) (hb : Binds X.K fd ps []) (hx : Passes CX X E)
    (hne : PySem.W.findIn X.K (.ref C) "__ne__" = some (some (.builtin "object.__ne__"))) (hm : PySem.W.mroIn X.K C (.type "object") = some true) : RcN X (n + 1) (DIns C R) := by
  intro A pins s σ H x y u v sb I rx ry d
  obtain ⟨a, b, dx, dy, fs, gs, rfl, rfl, ha, hb', hr⟩ := d
  cases rx
  cases ry
  obtain ⟨mA, J, _⟩ := ins_get I.hok ha
  obtain ⟨mB, J', _⟩ := ins_get I.hok hb'
  obtain ⟨od, J, _⟩ := J.look
  obtain ⟨od', J', _⟩ := J'.look
  have sb1 : L2.Sub X n A.in1 := sb.in1
  obtain ⟨m, hF⟩ := I.fr
  refine ne_K (tb := .ref C) (by have := sb1.room.units0; exact this) hF I.ok.mod.kin J J'.type (by simp [PySem.W.notFirst]) hs hf hne hm ?_
  have hsp : spEq R [.ref a, .ref b] H (fun v H' => v = .bl true ∧ Ext H H') E := ⟨a, b, rfl, hr, fun H' e => ⟨rfl, e⟩⟩
  have e0 : Env0 X.prog X.w X.K X.mg X.base A.in1 X.stack s H := by
    have e := I.env0
    exact ⟨by rw [sb1.fr]; exact e.frames, e.mod, e.bs, e.bsz, e.funs, e.frf, e.hok, e.bare⟩
  have hl := F.len _ _ _ _ hsp
  have r2 : Vals [V.ref a, V.ref b] [Value.ref a, Value.ref b] := .cons rfl (.cons rfl .nil)
  refine wpAny_call (codeAny_mono (F.run A.in1 X.stack s H ⟨[.ref a, .ref b], []⟩ [.ref a, .ref b] [.ref a, .ref b] _ E sb1.room e0 (by
    have := hb s [.ref a, .ref b] I.kIn (by simpa using hl)
    simpa using this) r2 hsp) fun r s' hq => ?_)
  cases r with
  | error e => exact hx pins σ H s e s' I hq
  | ok fl =>
    cases fl with
    | ret w =>
      obtain ⟨z, H', I', rz, ez, ex⟩ := I.after hq
      subst ez
      cases rz
      exact ⟨true, rfl, rfl, H', I', ex⟩
    | next => exact False.elim hq
    | brk => exact False.elim hq
    | cont => exact False.elim hq
/-- x != y as an expression -/
def rNeG (D : Eqv) : R2 := fun x y H Q => D x y H ∧ ∀ H', Ext H H' → Q (.bl false) H'
theorem op_neG {D : Eqv} (h : RcN X n D) (hr : Room n X.A) : OpR X (compareOp .NotEq) (rNeG D) := by
  intro pins s σ H x y v u Q I rx ry hq
  obtain ⟨d, q⟩ := hq
  show wpAny (model X.prog X.w) X.A (richCompare .NotEq v u) (EP X pins σ Q) X.xe s
  refine wpAny_mono (h X.A pins s σ H x y v u ⟨hr, rfl⟩ I rx ry d) (fun r s' z => ?_) fun _ _ x => x
  obtain ⟨hr', H', I', e⟩ := z
  subst hr'
  exact ⟨.bl false, H', I', rfl, q H' e⟩
end
end Ne
set_option maxHeartbeats 1000000
/-! instances: attributes, construction -/
namespace Dl
open PySem PySem.Spec PyProof.Rows L2 Lcn Sq
def putA (f : Str) (d : Dt) : List (Str × Dt) → List (Str × Dt)
  | [] => [(f, d)]
  | (g, e) :: r => if g = f then (g, d) :: r else (g, e) :: putA f d r
section
variable {K : PySem.W.Frag} {av : Addr → Prop} {H : Hp}
theorem lookup_rep {f : Str} : ∀ {fs : List (Str × V)} {es : List (Str × Dt)} {d : Dt}, fs.map Prod.fst = es.map Prod.fst → RepL K av H (fs.map Prod.snd) (es.map Prod.snd) → es.lookup f = some d → ∃ v, fs.lookup f = some v ∧ Rep K av H v d
  | [], [], d, _, _, h => by cases h
  | [], _ :: _, _, e, _, _ => by cases e
  | _ :: _, [], _, e, _, _ => by cases e
  | (g, v) :: fs, (g', d') :: es, d, e, r, h => by
    rw [List.map_cons, List.map_cons] at e r
    injection e with e1 e2
    have e1 : g = g' := e1
    subst e1
    rw [List.lookup_cons] at h ⊢
    split at h
    · cases h
      exact ⟨v, rfl, r.head.1⟩
    · exact lookup_rep e2 r.head.2 h
theorem putF_rep {f : Str} {v : V} {d : Dt} (hv : Rep K av H v d) : ∀ {fs : List (Str × V)} {es : List (Str × Dt)}, fs.map Prod.fst = es.map Prod.fst → RepL K av H (fs.map Prod.snd) (es.map Prod.snd) → (putF f v fs).map Prod.fst = (putA f d es).map Prod.fst ∧ RepL K av H ((putF f v fs).map Prod.snd) ((putA f d es).map Prod.snd)
  | [], [], _, _ => by
    rw [putF, putA]
    exact ⟨rfl, .cons hv .nil⟩
  | [], _ :: _, e, _ => by cases e
  | _ :: _, [], e, _ => by cases e
  | (g, w) :: fs, (g', d') :: es, e, r => by
    rw [List.map_cons, List.map_cons] at e r
    injection e with e1 e2
    have e1 : g = g' := e1
    subst e1
    rw [putF, putA]
    by_cases hg : g = f
    · rw [if_pos hg, if_pos hg, List.map_cons, List.map_cons, List.map_cons, List.map_cons, e2]
      exact ⟨rfl, .cons hv r.head.2⟩
    · have := putF_rep (f := f) hv e2 r.head.2
      rw [if_neg hg, if_neg hg, List.map_cons, List.map_cons, List.map_cons, List.map_cons, this.1]
      exact ⟨rfl, .cons r.head.1 this.2⟩
theorem ins_fields {v : V} {C : Addr} {es : List (Str × Dt)} (h : Rep K av H v (.ins C es)) : ∃ a dx fs, v = .ref a ∧ ¬ av a ∧ H a = some (.ins C dx fs) ∧ fs.map Prod.fst = es.map Prod.fst ∧ RepL K av H (fs.map Prod.snd) (es.map Prod.snd) := by
  obtain ⟨a, dx, fs, rfl, na, hh, l, f⟩ := h.ins_inv
  refine ⟨a, dx, fs, rfl, na, hh, l, by rw [List.length_map, List.length_map]; simpa using congrArg List.length l, fun i x d h1 h2 => ?_⟩
  rw [List.getElem?_map] at h1 h2
  obtain ⟨p, hp, rfl⟩ := Option.map_eq_some_iff.mp h1
  obtain ⟨q, hq, rfl⟩ := Option.map_eq_some_iff.mp h2
  exact f i p q hp hq
theorem rep_ins {a C dx : Addr} {fs : List (Str × V)} {es : List (Str × Dt)} (na : ¬ av a) (h : H a = some (.ins C dx fs)) (l : fs.map Prod.fst = es.map Prod.fst) (r : RepL K av H (fs.map Prod.snd) (es.map Prod.snd)) : Rep K av H (.ref a) (.ins C es) :=
  .ins na h l fun i x d h1 h2 => r.f i x.2 d.2 (by rw [List.getElem?_map, h1]; rfl) (by rw [List.getElem?_map, h2]; rfl)
end
def dFld (K : PySem.W.Frag) (f : Str) (x : Dt) (Q : Dt → Prop) : Prop := match x with
  | .ins C es => Cls K C ∧ NoAttr K C f ∧ ∃ d, es.lookup f = some d ∧ Q d
  | _ => False
section
variable {ι : Type} {K : PySem.W.Frag} {X : ι → Cx} {z : Bool} {pos pos' p2 : Pos} {a b c e : Expr} {es : List Expr} {ea eb : EvE} {et : EvLs}
theorem de_fld {f : Str} (ha : DE z K X e ea) (hb : ∀ i, attributeBase e f (X i).env (eval e (X i).env) = eval e (X i).env := by intro _; rfl) (hK : ∀ i, (X i).K = K := by intro _; rfl) : DE z K X (.Attribute e f pos) (fun δ Q => ea δ fun x => dFld K f x Q) := by
  obtain ⟨t, p, v⟩ := ha
  refine ⟨_, fun i => pe_fldK (hK i) (p i) (hb i), fun C σ δ H Q Qd k s e q => ?_⟩
  refine v C σ δ H _ _ k s e fun x dx H1 e1 r e => ?_
  unfold dFld at e
  split at e
  · rename_i C' es
    obtain ⟨h1, h2, d, h3, e⟩ := e
    obtain ⟨a', dx, fs, rfl, _, hh, l, rl⟩ := ins_fields r
    obtain ⟨w, hw, rw'⟩ := lookup_rep l rl h3
    exact ⟨a', C', dx, fs, w, rfl, hh, h1, h2, hw, q w d H1 e1 rw' e⟩
  · exact e.elim
/-- self.f = value -/
def dSet (K : PySem.W.Frag) (i : Nat) (f : Str) (ea : EvE) : EvS := fun D δ => ea δ fun d => match δ[i]? with
  | some (.own a (.i C es)) => Cls K C ∧ NoAttr K C f ∧ es.length < 1000 ∧ D.nx (δ.set i (.own a (.i C (putA f d es))))
  | _ => False
theorem ds_fld {i : Nat} {x f : Str} {p3 : Pos} (hp : ∀ j, PE (X j) (.Name x p3) (tVar i)) (h : DE true K X e ea) (hs : ∀ j, swapsWith e (some (.Attribute (.Name x p3) f pos')) pos.line (X j).env = pure false := by intro _; rfl) (hK : ∀ i, (X i).K = K := by intro _; rfl) : DS K X (.Assign [.Attribute (.Name x p3) f pos'] e pos) (dSet K i f ea) := by
  obtain ⟨t, p, v⟩ := h
  refine ⟨sFld K (tVar i) t f, fun j => hK j ▸ ps_fld (hp j) (p j) (hs j), fun C σ δ H D Dd k s e q => ?_⟩
  subst k
  refine v C σ δ H _ _ rfl s e fun y d H1 e1 r e => ?_
  split at e
  · rename_i a C' es h
    obtain ⟨g1, g2, g3, e⟩ := e
    have s1 := s.step e1
    obtain ⟨h1, u, hu, ho⟩ := s1.ownAt h
    obtain ⟨dx, fs, rfl, l, rl⟩ := ho.ins
    have pr := putF_rep (f := f) r l rl
    refine ⟨.ref a, h1, a, C', dx, fs, rfl, hu, g1, g2, ?_, q.nx _ _ _ (s1.upO (ys := .ins C' dx (putF f y fs)) (es := .i C' (putA f d es)) h ⟨rfl, pr.1, pr.2⟩) e⟩
    have := congrArg List.length l
    rw [List.length_map, List.length_map] at this
    omega
  · exact e.elim
end
/-! construction -/
/-- the promise of an __init__: of the arguments' data the fields -/
abbrev SpcI := List Sl → (List (Str × Dt) → Prop) → Prop
def less (x : Addr) (H : Hp) : Hp := fun b => if b = x then none else H b
def dspI (K : PySem.W.Frag) (C : Addr) (n : Nat) (sp : SpcI) : Sp := fun vs H Q _ => ∃ (S : Sc) (av : Addr → Prop) (δ : List Sl) (Qd : List (Str × Dt) → Prop) (x dx : Addr) (vs' : List V), vs = .ref x :: vs' ∧ H x = some (.ins C dx []) ∧ (∀ b, sa S b → av b) ∧ Al av (less x H) ∧ Gs S (less x H) ∧ ArgsOk S K av (less x H) vs' δ ∧ δ.length = n ∧ sp δ Qd ∧ ∀ es H', Stp S (less x H) H' → Rep K av H' (.ref x) (.ins C es) → Qd es → Q .non H'
theorem less_self {x : Addr} {H : Hp} : less x H x = none := if_pos rfl
theorem less_ne {x b : Addr} {H : Hp} (h : b ≠ x) : less x H b = H b := if_neg h
theorem stp_less {S : Sc} {x : Addr} {H : Hp} : Stp S (less x H) H := Stp.of fun b o h => by
  by_cases e : b = x
  · rw [e, less_self] at h
    cases h
  · rw [less_ne e] at h
    exact h
theorem zd_any {C : Ctx} {δ : List Sl} : Zd C (.any :: δ) = Zd C δ := by
  funext b
  refine propext ⟨fun h => h.imp id fun ⟨s, m, e⟩ => ?_, fun h => h.imp id fun ⟨s, m, e⟩ => ⟨s, List.mem_cons_of_mem _ m, e⟩⟩
  rcases List.mem_cons.mp m with rfl | m
  · exact e.elim
  · exact ⟨s, m, e⟩
theorem Sok.consAny {C : Ctx} {H : Hp} {σ : L2.St} {δ : List Sl} (s : Sok C H σ δ) (o : Option V) : Sok C H (o :: σ) (.any :: δ) := by
  refine ⟨by rw [List.length_cons, List.length_cons, s.len], fun i u h => ?_, fun i j x y b hi hj f1 f2 => ?_, fun i a c hi b hb => ?_, s.g, s.st, s.avs, s.ava, fun p m => by rw [zd_any]; exact s.gh p m⟩
  · cases i with
    | zero =>
      cases h
      trivial
    | succ i =>
      rw [zd_any]
      exact s.sl i u h
  · cases i with
    | zero => cases hi; exact f1.elim
    | succ i =>
      cases j with
      | zero => cases hj; exact f2.elim
      | succ j => rw [s.uqr i j x y b hi hj f1 f2]
  · cases i with
    | zero => cases hi
    | succ i => exact s.inn i a c hi b hb
theorem start_cons {s0 : Str} {N : List Str} {v : V} {vs : List V} : L2.start (s0 :: N) (v :: vs) = some v :: L2.start N vs := by
  unfold L2.start
  rw [List.length_cons, List.length_cons, Nat.add_sub_add_right]
  rfl
theorem sok_init {K : PySem.W.Frag} {S : Sc} {av : Addr → Prop} {H : Hp} {N : List Str} {vs : List V} {δ : List Sl} {x C dx : Addr} (hx : H x = some (.ins C dx [])) (h1 : ∀ b, sa S b → av b) (h2 : Al av (less x H)) (h3 : Gs S (less x H)) (a : ArgsOk S K av (less x H) vs δ) : Sok ⟨K, S, av, less x H, []⟩ H (some (.ref x) :: L2.start N vs) (.own x (.i C []) :: st0 N δ) :=
  ((sok_start (N := N) h1 h2 h3 a).consAny none).setO (i := 0) (xs := .ins C dx []) (ds := .i C []) less_self stp_less hx ⟨rfl, rfl, .nil⟩
theorem ArgsOk.st {S : Sc} {K : PySem.W.Frag} {av : Addr → Prop} {H H' : Hp} {vs : List V} {δ : List Sl} (a : ArgsOk S K av H vs δ) (al : Al av H) (k : ∀ b o, H b = some o → H' b = some o) : ArgsOk S K av H' vs δ := ⟨a.l, fun i v s h1 h2 => by
  have := a.f i v s h1 h2
  cases s with
  | val d => exact Rep.move (av := av) this (fun b o _ h => k b o h) fun b z => .inl z
  | src => exact this
  | srt T => exact this
  | any => exact this
  | own _ _ => exact this⟩
theorem ArgsOk.app {S : Sc} {K : PySem.W.Frag} {av : Addr → Prop} {H : Hp} {vs ws : List V} {δ : List Sl} {ds : List Dt} (a : ArgsOk S K av H vs δ) (r : RepL K av H ws ds) : ArgsOk S K av H (vs ++ ws) (δ ++ ds.map Sl.val) := ⟨by rw [List.length_append, List.length_append, a.l, List.length_map, r.l], fun i v s h1 h2 => by
  rcases Nat.lt_or_ge i vs.length with lt | ge
  · rw [List.getElem?_append_left lt] at h1
    rw [List.getElem?_append_left (by rw [← a.l]; exact lt)] at h2
    exact a.f i v s h1 h2
  · rw [List.getElem?_append_right ge] at h1
    rw [List.getElem?_append_right (by rw [← a.l]; exact ge), List.getElem?_map] at h2
    obtain ⟨d, hd, rfl⟩ := Option.map_eq_some_iff.mp h2
    rw [← a.l] at hd
    exact r.f _ v d h1 hd⟩
section
variable {P : Program} {w : World} {K : PySem.W.Frag} {mg : Str → Option Value} {base : Heap}
theorem fn_init {x qual : Str} {params : Arguments} {body : List Stmt} {scope : Scope} {dvs : List V} {kws : List (Str × V)} {f : Addr} {fd : FuncData} {s0 : Str} {N ps : List Str} {k : Nat} {C : Addr} {sp : SpcI} {sv : EvS} (F : FunD K x qual params body scope dvs kws f fd) (S : FnScope (s0 :: N) (s0 :: ps) scope)
    (hbody : ∀ (cdv : Value) (A : Around) (outer : List Env) (s : Shared) (H : Hp) (E : XK), Room k (A.deeper (PyProof.Rows.envOfC qual scope s.heap.objs.size f cdv)) → DSs K (fun _ : Unit => (cxOf CX0 P w K mg base (s0 :: N) qual scope f cdv A outer s H E).nox) body sv)
    (hsp : ∀ (δ : List Sl) (Qd : List (Str × Dt) → Prop) (a : Addr), δ.length = ps.length → sp δ Qd → sv { nx := fun δ' => ∃ es, δ'[0]? = some (.own a (.i C es)) ∧ Qd es, rt := fun _ => False } (.own a (.i C []) :: st0 N δ)) : FnOk P w K mg base CX0 (k + 1) f fd (s0 :: ps) (dspI K C ps.length sp) := by
  refine F.ok S (fun vs H Q E h => ?_) fun cdv A outer s H vs Q E hr h => ?_
  · obtain ⟨S, av, δ, Qd, x, dx, vs', rfl, _, _, _, _, a, l, _⟩ := h
    rw [List.length_cons, List.length_cons, a.l, l]
  · obtain ⟨S, av, δ, Qd, x, dx, vs', rfl, hx, h1, h2, h3, a, l, hs, q⟩ := h
    obtain ⟨ts, p, v⟩ := hbody cdv A outer s H E hr
    have nx : ¬ av x := h2.na less_self
    refine ⟨ts, (p ()).nox, ?_⟩
    rw [start_cons]
    refine v ⟨K, S, av, less x H, []⟩ _ _ H _ _ rfl (sok_init hx h1 h2 h3 a) (hsp δ Qd x l hs) ⟨fun σ δ H' s e => ?_, fun _ _ _ _ _ _ e => e.elim, fun _ _ _ _ e => e.elim, fun _ _ _ _ e => e.elim⟩
    obtain ⟨es, h0, e⟩ := e
    obtain ⟨_, _, _, u, hu, ho⟩ := s.sl 0 _ h0
    obtain ⟨dx', fs, rfl, l, rl⟩ := ho.ins
    exact q es H' s.st (rep_ins nx hu l (rl.mono fun b z => .inl z)) e
end
section
variable {ι : Type} {K : PySem.W.Frag} {X : ι → Cx} {z : Bool} {pos : Pos} {e : Expr} {es : List Expr} {et : EvLs}
theorem de_make {x : Str} {p : Pos} {n : Nat} {C : Addr} {sp : SpcI} {dvs : List V} {dd : List Dt} (hp : ∀ {t : TA} i, PA (X i) (e :: es) t → PE (X i) (.Call (.Name x p) (e :: es) [] pos) (tMake C (dspI K C n sp) dvs E0 t)) (hd : ∀ av H, RepL K av H dvs dd) (ha : DLs z K X (e :: es) et) : DE z K X (.Call (.Name x p) (e :: es) [] pos) (fun δ Q => et δ fun ss => (ss ++ dd.map Sl.val).length = n ∧ sp (ss ++ dd.map Sl.val) fun es => Q (.ins C es)) := by
  obtain ⟨t, pa, v⟩ := ha
  refine ⟨_, fun i => hp i (pa i), fun C' σ δ H Q Qd k s e q => ?_⟩
  subst k
  refine v C' σ δ H _ _ rfl s e fun vs ss H1 e1 r e x dx nx ndx dne => ?_
  have s1 := s.step e1
  have kp : ∀ b o, H1 b = some o → less x (upd (upd H1 dx (.own x)) x (.ins C dx [])) b = some o := fun b o h => by
    have b1 : b ≠ x := fun q => by rw [q, nx] at h; cases h
    have b2 : b ≠ dx := fun q => by rw [q, ndx] at h; cases h
    rw [less_ne b1, upd_ne b1, upd_ne b2]
    exact h
  refine ⟨C'.S, Zz z C' δ, ss ++ dd.map Sl.val, fun es => Qd (.ins C es), x, dx, vs ++ dvs, rfl, upd_same, fun b hb => ?_, fun b hb => ?_, s1.g.dep (fun b o _ h => kp b o h) (fun b c q h => kp b _ h), (r.app (hd _ _)).st s1.al kp, e.1, e.2, fun es H' st rp qd => ⟨rfl, q _ _ H' (e1.trans ((Stp.of kp).trans st)) rp qd⟩⟩
  · cases z
    · exact s.avs b hb
    · exact .inl (s.avs b hb)
  · obtain ⟨o, ho, wo⟩ := s1.al b hb
    exact ⟨o, kp b o ho, wo⟩
end
end Dl
set_option maxHeartbeats 1000000
/-! enumerate -/
namespace Dl
open PySem PySem.Spec PyProof.Rows L2 Lcn Sq En
def enumFrom (k : Nat) : List Dt → List Dt
  | [] => []
  | d :: r => .tup [.int (k : Int), d] :: enumFrom (k + 1) r
def enumD (ds : List Dt) : List Dt := enumFrom 0 ds
theorem enumFrom_get : ∀ {ds : List Dt} {k i : Nat} {d : Dt}, (enumFrom k ds)[i]? = some d → ∃ e, ds[i]? = some e ∧ d = .tup [.int ((k + i : Nat) : Int), e]
  | [], k, i, d, h => by cases i <;> cases h
  | e :: r, k, 0, d, h => by
    cases h
    exact ⟨e, rfl, rfl⟩
  | e :: r, k, i + 1, d, h => by
    obtain ⟨x, h1, h2⟩ := enumFrom_get (ds := r) (k := k + 1) (i := i) h
    refine ⟨x, h1, ?_⟩
    rw [h2, show k + 1 + i = k + (i + 1) by omega]
theorem enumFrom_len : ∀ {ds : List Dt} {k : Nat}, (enumFrom k ds).length = ds.length
  | [], k => rfl
  | e :: r, k => by
    show (enumFrom (k + 1) r).length + 1 = r.length + 1
    rw [enumFrom_len]
theorem enumFrom_map {α : Type} {f : α → Dt} : ∀ {xs : List α} {k : Nat}, enumFrom k (xs.map f) = (xs.zipIdx k).map fun p => .tup [.int (p.2 : Int), f p.1]
  | [], k => rfl
  | x :: xs, k => by
    show Dt.tup [.int (k : Int), f x] :: enumFrom (k + 1) (xs.map f) = _
    rw [enumFrom_map]
    rfl
theorem walk_enumX {K : PySem.W.Frag} {a : Addr} {n : Nat} : Walk (IteT K a) n (fun H => ∃ xs : List V, xs.length = n ∧ SqT K H a xs) (fun i H v H' => ∃ T x, v = .ref T ∧ H T = none ∧ H' = upd H T (.tup [.int (i : Nat), x]) ∧ ∀ xs, SqT K H a xs → xs[i]? = some x) :=
  ⟨fun i H hi ⟨xs, l, h⟩ => ⟨xs, xs[i], h, by simp [l, hi]⟩, fun H ⟨xs, l, h⟩ => ⟨xs, h, Nat.le_of_eq l⟩, fun i H x H' _ _ y => y⟩
def ivEnumT (et : EvA) : EvA := fun δ Q => et δ fun ds => match ds with
  | [.tup xs] => Q (enumD xs)
  | _ => False
section
variable {ι : Type} {K : PySem.W.Frag} {X : ι → Cx} {z o : Bool} {pos p2 : Pos} {a : Expr} {et : EvA}
theorem di_enumT {elts : List Expr} {kk : Nat} {tpos p : Pos} (hg : ∀ i, Gl (X i) "enumerate") (hm : ∀ i, (X i).mg "enumerate" = none) (ha : DA true K X [a] et) (hs : ∀ i, starEach [a] (X i).env = [(false, eval a (X i).env)] := by intro _; rfl) (hK : ∀ i, (X i).K = K := by intro _; rfl) :
    DI o K X (.Tuple elts kk tpos) (.Call (.Name "enumerate" p) [a] [] pos) (ivEnumT et) := by
  obtain ⟨t, pa, v⟩ := ha
  refine ⟨iEnumT K t, fun i => hK i ▸ pi_enumT (hg i) (hm i) (pa i) (hs i), fun C σ δ H R Qd k s e q => ?_⟩
  subst k
  unfold iEnumT
  refine v C σ δ H _ _ rfl s e fun vs ds H1 e1 r e => ?_
  split at e
  · rename_i xs
    have l1 := r.l
    match vs, l1, r with
    | [x], _, r =>
      have r' := r.head.1
      obtain ⟨p, ys, rfl, hx, lx⟩ := r'.tup_inv
      refine ⟨p, ys, rfl, hx.sq, q _ _ _ _ (enumD xs) H1 (fun _ => True) [(.ref p, .tup xs)] (walk_enumX (n := xs.length)) (by rw [enumD, enumFrom_len]) e1 (fun _ _ _ => trivial) (fun _ _ => trivial) (fun g m => ?_) ⟨fun av H al _ h => ?_, fun i d av H x H' hd al _ h y => ?_⟩ e⟩
      · rw [List.mem_singleton] at m
        rw [m]
        exact r'
      · obtain ⟨p', ys', e', hy, ly⟩ := (h _ (List.mem_singleton.mpr rfl)).tup_inv
        cases e'
        exact ⟨ys', ly.l, hy.sq⟩
      · obtain ⟨p', ys', e', hy, ly⟩ := (h _ (List.mem_singleton.mpr rfl)).tup_inv
        cases e'
        obtain ⟨T, w, rfl, hT, rfl, hw⟩ := y
        obtain ⟨u, hu, rfl⟩ := enumFrom_get hd
        rw [Nat.zero_add]
        exact ⟨same_new hT, rep_newT al hT (.cons (.int _) (.cons (ly.f i w u (hw ys' hy.sq) hu) .nil))⟩
  · exact e.elim
end
theorem walk_enumY {K : PySem.W.Frag} {a : Addr} {n : Nat} : Walk (Ite K a) n (fun H => ∃ xs : List V, xs.length = n ∧ SqL K H a xs) (fun i H v H' => ∃ T x, v = .ref T ∧ H T = none ∧ H' = upd H T (.tup [.int (i : Nat), x]) ∧ ∀ xs, SqL K H a xs → xs[i]? = some x) :=
  ⟨fun i H hi ⟨xs, l, h⟩ => ⟨xs, xs[i], h, by simp [l, hi]⟩, fun H ⟨xs, l, h⟩ => ⟨xs, h, Nat.le_of_eq l⟩, fun i H x H' _ _ y => y⟩
def ivEnumL (et : EvA) : EvA := fun δ Q => et δ fun ds => match ds with
  | [.lst xs] => Q (enumD xs)
  | _ => False
section
variable {ι : Type} {K : PySem.W.Frag} {X : ι → Cx} {z o : Bool} {pos p2 : Pos} {a : Expr} {et : EvA}
theorem di_enumL {elts : List Expr} {kk : Nat} {tpos p : Pos} (hg : ∀ i, Gl (X i) "enumerate") (hm : ∀ i, (X i).mg "enumerate" = none) (ha : DA true K X [a] et) (hs : ∀ i, starEach [a] (X i).env = [(false, eval a (X i).env)] := by intro _; rfl) (hK : ∀ i, (X i).K = K := by intro _; rfl) :
    DI o K X (.Tuple elts kk tpos) (.Call (.Name "enumerate" p) [a] [] pos) (ivEnumL et) := by
  obtain ⟨t, pa, v⟩ := ha
  refine ⟨iEnum K t, fun i => hK i ▸ pi_enum (hg i) (hm i) (pa i) (hs i), fun C σ δ H R Qd k s e q => ?_⟩
  subst k
  unfold iEnum
  refine v C σ δ H _ _ rfl s e fun vs ds H1 e1 r e => ?_
  split at e
  · rename_i xs
    have l1 := r.l
    match vs, l1, r with
    | [x], _, r =>
      have r' := r.head.1
      obtain ⟨p, ys, rfl, hx, lx⟩ := r'.lst_inv
      refine ⟨p, ys, rfl, hx.sq, q _ _ _ _ (enumD xs) H1 (fun _ => True) [(.ref p, .lst xs)] (walk_enumY (n := xs.length)) (by rw [enumD, enumFrom_len]) e1 (fun _ _ _ => trivial) (fun _ _ => trivial) (fun g m => ?_) ⟨fun av H al _ h => ?_, fun i d av H x H' hd al _ h y => ?_⟩ e⟩
      · rw [List.mem_singleton] at m
        rw [m]
        exact r'
      · obtain ⟨p', ys', e', hy, ly⟩ := (h _ (List.mem_singleton.mpr rfl)).lst_inv
        cases e'
        exact ⟨ys', ly.l, hy.sq⟩
      · obtain ⟨p', ys', e', hy, ly⟩ := (h _ (List.mem_singleton.mpr rfl)).lst_inv
        cases e'
        obtain ⟨T, w, rfl, hT, rfl, hw⟩ := y
        obtain ⟨u, hu, rfl⟩ := enumFrom_get hd
        rw [Nat.zero_add]
        exact ⟨same_new hT, rep_newT al hT (.cons (.int _) (.cons (ly.f i w u (hw ys' hy.sq) hu) .nil))⟩
  · exact e.elim
end
end Dl
set_option maxHeartbeats 1000000
/-! comprehensions of several clauses -/
namespace Dl
open PySem PySem.Spec PyProof.Rows L2 Lcn Sq
theorem turns_it {J : It} {n : Nat} {G : Hp → Prop} {Y : Nat → Hp → V → Hp → Prop} (w : Walk J n G Y) {g : TG} {tt : TT} {t1 : TB} {vs : List Nat} {σ : L2.St} {H1 : Hp} {D : Addr} {Z : Hp → Prop} (Pv : Nat → Hp → Prop) (h0 : Pv 0 H1) (hg : ∀ i H, i ≤ n → Pv i H → G H)
    (hs : ∀ i x H H', i < n → Pv i H → Y i H x H' → g x (L2.wipe σ vs) H' fun σ2 H2 => L2.wipe σ2 vs = L2.wipe σ vs ∧ tt σ2 H2 fun b H3 => if b = true then t1 D σ2 H3 (Pv (i + 1)) else Pv (i + 1) H3) (hd : ∀ H, Pv n H → Z H) : tTurns g tt t1 vs J D σ Z H1 := by
  refine ⟨fun i m H => Pv i H ∧ i + m = n, ⟨n, h0, by omega⟩, fun i m H ⟨p, e⟩ => ?_⟩
  cases m with
  | zero =>
    have e : i = n := e
    subst e
    exact .inl ⟨w.stops H (hg i H (Nat.le_refl _) p), hd H p⟩
  | succ m => exact .inr ⟨w.goes i H (by omega) (hg i H (by omega) p), Pv (i + 1), fun H' p' => ⟨m, Nat.lt_succ_self m, p', by omega⟩, fun x H' y => hs i x H H' (by omega) p (w.yields i H x H' (by omega) (hg i H (by omega) p) y)⟩
abbrev EvB := List Dt → List Sl → (List Dt → Prop) → Prop
def dEndB (ev : EvE) : EvB := fun acc δ Q => acc.length < sizeLine ∧ ev δ fun y => Q (acc ++ [y])
def dTurns (gv : Dt → List Sl → (List Sl → Prop) → Prop) (tv : EvT) (bv : EvB) (vs : List Nat) : List Dt → List Dt → List Sl → (List Dt → Prop) → Prop
  | [], acc, _, Q => Q acc
  | d :: r, acc, δ, Q => gv d (wipeS δ vs) fun δ2 => tv δ2 fun b => if b = true then bv acc δ2 fun acc' => dTurns gv tv bv vs r acc' δ Q else dTurns gv tv bv vs r acc δ Q
def dClB (iv : EvA) (gv : Dt → List Sl → (List Sl → Prop) → Prop) (tv : EvT) (bv : EvB) (vs : List Nat) : EvB := fun acc δ Q => iv δ fun ds => noOwn vs δ = true ∧ dTurns gv tv bv vs ds acc δ Q
def dLcM (iv : EvA) (gv : Dt → List Sl → (List Sl → Prop) → Prop) (tv : EvT) (bv : EvB) (vs : List Nat) : EvN := fun δ Q => iv δ fun ds => noOwn vs δ = true ∧ dTurns gv tv bv vs ds [] δ Q
def VB (K : PySem.W.Frag) (tb : TB) (bv : EvB) : Prop := ∀ (C : Ctx) (σ : L2.St) (δ : List Sl) (H : Hp) (D : Addr) (acc : List V) (accd : List Dt) (A : Addr → Prop) (Nx : Hp → Prop) (Qd : List Dt → Prop), C.K = K → Sok (C.plus D) H σ δ → ¬ sa C.S D → C.H0 D = none → (∀ b, A b → Zd (C.plus D) δ b) → A D → (∀ b, ch C.S b → A b) → H D = some (.lst acc) → RepL K A H acc accd → bv accd δ Qd →
  (∀ acc' accd' H', (∀ b u, ¬ ch C.S b → b ≠ D → H b = some u → H' b = some u) → Gs C.S H' → H' D = some (.lst acc') → RepL K A H' acc' accd' → Qd accd' → Nx H') → tb D σ H Nx
theorem vb_end {K : PySem.W.Frag} {te : TE} {ev : EvE} (he : VE true K te ev) : VB K (tEnd te) (dEndB ev) := by
  intro C σ δ H D acc accd A Nx Qd hk s nsa h0 hA hAD hAc hD ra e k
  subst hk
  have nch : ¬ ch C.S D := fun c => nsa (ch_sa c)
  obtain ⟨hz, e⟩ := e
  refine he (C.plus D) σ δ H _ _ rfl s e fun yv yd H4 e4 ry e => ?_
  have d4 := e4.keep D _ nch hD
  have k4 : ∀ b u, ¬ ch C.S b → H b = some u → H4 b = some u := e4.keep
  refine ⟨acc, d4, by rw [ra.l]; exact hz, k (acc ++ [yv]) (accd ++ [yd]) _ (fun b u c n h => by rw [upd_ne n]; exact k4 b u c h) ?_ upd_same ?_ e⟩
  · exact ((s.step e4).g : Gs C.S H4).upd nsa fun c q h => by
      rw [d4] at h
      exact nt_lst.2 c q (Option.some.inj h)
  · have r1 : RepL C.K A H4 (acc ++ [yv]) (accd ++ [yd]) := (ra.move (fun b u n h => k4 b u (fun c => n (hAc b c)) h) fun _ z => .inl z).append (.cons (ry.mono hA) .nil)
    exact r1.move (fun b u n h => by rw [upd_ne (fun (zz : b = D) => n (by rw [zz]; exact hAD))]; exact h) fun _ z => .inl z
theorem turns_core {C : Ctx} {σ : L2.St} {δ : List Sl} {H1 : Hp} {D : Addr} {acc : List V} {accd : List Dt} {A : Addr → Prop} {Z : Hp → Prop} {Qd : List Dt → Prop} {J : It} {n : Nat} {G : Hp → Prop} {Y : Nat → Hp → V → Hp → Prop} {ds : List Dt} {base : Hp → Prop} {gs : List (V × Dt)} {g : TG} {tt : TT} {t1 : TB} {is vs : List Nat} {gv : Dt → List Sl → (List Sl → Prop) → Prop} {tv : EvT} {bv : EvB}
    (w : Walk J n G Y) (hn : ds.length = n) (s1 : Sok (C.plus D) H1 σ δ) (nsa : ¬ sa C.S D) (h0 : C.H0 D = none) (hA : ∀ b, A b → Zd (C.plus D) δ b) (hAD : A D) (hAc : ∀ b, ch C.S b → A b) (hb : ∀ Hc, (∀ b u, ¬ ch C.S b → b ≠ D → H1 b = some u → Hc b = some u) → Gs C.S Hc → base Hc) (hgs : ∀ g, g ∈ gs → Rep C.K (Zd (C.plus D) δ) H1 g.1 g.2) (it : ItOk C.K base gs G Y ds)
    (hg : VG C.K g gv is) (hv : ∀ i, i ∈ is → i ∈ vs) (ht : VT C.K tt tv) (hbv : VB C.K t1 bv) (no : noOwn vs δ = true) (hD : H1 D = some (.lst acc)) (ra : RepL C.K A H1 acc accd) (e : dTurns gv tv bv vs ds accd δ Qd)
    (k : ∀ acc' accd' H', (∀ b u, ¬ ch C.S b → b ≠ D → H1 b = some u → H' b = some u) → Gs C.S H' → H' D = some (.lst acc') → RepL C.K A H' acc' accd' → Qd accd' → Z H') : tTurns g tt t1 vs J D σ Z H1 := by
  have nch : ¬ ch C.S D := fun c => nsa (ch_sa c)
  refine turns_it w (fun i Hc => (∀ b u, ¬ ch C.S b → b ≠ D → H1 b = some u → Hc b = some u) ∧ Gs C.S Hc ∧ ∃ acc accd, Hc D = some (.lst acc) ∧ RepL C.K A Hc acc accd ∧ dTurns gv tv bv vs (ds.drop i) accd δ Qd) ?_ ?_ ?_ ?_
  · exact ⟨fun b u _ _ h => h, s1.g, acc, accd, hD, ra, by rw [List.drop_zero]; exact e⟩
  · rintro i Hc _ ⟨kp, gs', acc, accd, hDl, ra, e⟩
    have sC : Sok (C.plus D) Hc σ δ := s1.plusStep kp gs' h0 ⟨_, hDl, nt_lst⟩
    refine it.g (Zd (C.plus D) δ) Hc (fun b zb => sC.alz b zb) (hb Hc kp gs') fun g m => (hgs g m).move (fun b u nz h => kp b u (fun c => nz (zch s1 c)) (fun zz => nz (zd_plus.mpr (.inr zz))) h) fun _ z => .inl z
  · rintro i x Hc H' hi2 ⟨kp, gs', acc, accd, hDl, ra, e⟩ y
    have hid : i < ds.length := by omega
    have hdr : ds.drop i = ds[i] :: ds.drop (i + 1) := List.drop_eq_getElem_cons hid
    rw [hdr] at e
    have sC : Sok (C.plus D) Hc σ δ := s1.plusStep kp gs' h0 ⟨_, hDl, nt_lst⟩
    obtain ⟨sm, rx⟩ := it.y i ds[i] (Zd (C.plus D) δ) Hc x H' (List.getElem?_eq_getElem hid) (fun b zb => sC.alz b zb) (hb Hc kp gs') (fun g m => (hgs g m).move (fun b u nz h => kp b u (fun c => nz (zch s1 c)) (fun zz => nz (zd_plus.mpr (.inr zz))) h) fun _ z => .inl z) y
    have sB : Sok (C.plus D) H' (L2.wipe σ vs) (wipeS δ vs) := (sC.step (Stp.of sm)).wipe vs
    refine hg (C.plus D) _ _ H' x ds[i] _ _ rfl sB (rx.mono fun b zb => zd_ow (ow_wipe δ vs) zb) e fun σ2 δ2 s2 w2 z2 o2 e => ⟨by rw [w2 vs hv, wipe_idem σ vs vs fun _ m => m], ?_⟩
    refine ht (C.plus D) σ2 δ2 H' _ _ rfl s2 e fun b H3 e3 e => ?_
    have k3 : ∀ b u, ¬ ch C.S b → Hc b = some u → H3 b = some u := fun b u c h => e3.keep b u c (sm b u h)
    have r3 : RepL C.K A H3 acc accd := ra.move (fun b u nz h => k3 b u (fun c => nz (hAc b c)) h) fun _ z => .inl z
    cases b
    · rw [if_neg Bool.false_ne_true] at e ⊢
      exact ⟨fun b u c nz h => k3 b u c (kp b u c nz h), (s2.step e3).g, acc, accd, k3 D _ nch hDl, r3, e⟩
    · rw [if_pos rfl] at e ⊢
      have ge : ∀ b, Zd (C.plus D) δ b → Zd (C.plus D) δ2 b := fun b zb => by
        have z1 : Zd (C.plus D) (wipeS δ vs) b := (ow_wipe δ vs).ge no zb
        refine o2.ge ?_ z1
        refine List.all_eq_true.mpr fun j mj => ?_
        cases hq : (wipeS δ vs)[j]? with
        | none => rfl
        | some u =>
          cases u with
          | own a es =>
            have h1 := (ow_wipe δ vs).old j a es hq
            have h2 := List.all_eq_true.mp no j (hv j mj)
            rw [h1] at h2
            cases h2
          | _ => rfl
      refine hbv C σ2 δ2 H3 D acc accd A _ _ rfl (s2.step e3) nsa h0 (fun b ab => ge b (hA b ab)) hAD hAc (k3 D _ nch hDl) r3 e fun acc' accd' H4 k4 g4 d4 r4 e => ?_
      exact ⟨fun b u c nz h => k4 b u c nz (k3 b u c (kp b u c nz h)), g4, acc', accd', d4, r4, e⟩
  · rintro Hc ⟨kp, gs', acc, accd, hDl, ra, e⟩
    rw [List.drop_eq_nil_of_le (by omega)] at e
    exact k acc accd Hc kp gs' hDl ra e
theorem vb_cl {K : PySem.W.Frag} {wi : TI} {iv : EvA} {g : TG} {tt : TT} {t1 : TB} {is vs : List Nat} {gv : Dt → List Sl → (List Sl → Prop) → Prop} {tv : EvT} {bv : EvB} (hi : VI false K wi iv) (hg : VG K g gv is) (hv : ∀ i, i ∈ is → i ∈ vs) (ht : VT K tt tv) (hbv : VB K t1 bv) : VB K (tCl wi g tt t1 vs) (dClB iv gv tv bv vs) := by
  intro C σ δ H D acc accd A Nx Qd hk s nsa h0 hA hAD hAc hD ra e k
  subst hk
  have nch : ¬ ch C.S D := fun c => nsa (ch_sa c)
  refine hi (C.plus D) σ δ H _ _ rfl s e fun J n G Y ds H1 base gs w hn e1 hb0 hb hgs it e => ?_
  have s1 := s.step e1
  refine turns_core w hn s1 nsa h0 hA hAD hAc (fun Hc kp gs' => hb0 rfl Hc ⟨fun b u c h => kp b u c (fun z => by rw [z] at h; exact nomatch h.symm.trans h0) (s1.st.keep b u c h), fun _ => gs'⟩) hgs it hg hv ht hbv e.1 (e1.keep D _ nch hD) (ra.move (fun b u nz h => e1.keep b u (fun c => nz (hAc b c)) h) fun _ z => .inl z) e.2 fun acc' accd' H' k4 g4 d4 r4 e => k acc' accd' H' (fun b u c nz h => k4 b u c nz (e1.keep b u c h)) g4 d4 r4 e
theorem vn_lcm {o : Bool} {K : PySem.W.Frag} {wi : TI} {iv : EvA} {g : TG} {tt : TT} {t1 : TB} {is vs : List Nat} {gv : Dt → List Sl → (List Sl → Prop) → Prop} {tv : EvT} {bv : EvB} (hi : VI o K wi iv) (hg : VG K g gv is) (hv : ∀ i, i ∈ is → i ∈ vs) (ht : VT K tt tv) (hbv : VB K t1 bv) : VN K (tLcN wi g tt t1 vs) (dLcM iv gv tv bv vs) := by
  intro C σ δ H Q Qd hk s e q
  subst hk
  refine hi C σ δ H _ _ rfl s e fun J n G Y ds H1 base gs w hn e1 hb0 hb hgs it e => ?_
  intro D hD
  have s1 := s.step e1
  have nsa : ¬ sa C.S D := fun c => (s1.ava.na hD) (s1.avs D c)
  have nch : ¬ ch C.S D := fun c => nsa (ch_sa c)
  have hD0 : H D = none := by
    cases x : H D with
    | none => rfl
    | some u =>
      rw [e1.keep D u nch x] at hD
      cases hD
  have sP : Sok (C.plus D) (upd H1 D (.lst [])) σ δ := s1.plus hD
  have kp0 : ∀ b u, H1 b = some u → upd H1 D (.lst []) b = some u := same_new hD
  refine turns_core (A := fun b => Zd C δ b ∨ b = D) w hn sP nsa (s.h0 hD0) (fun b zb => zd_plus.mpr zb) (.inr rfl) (fun b c => .inl (zch s1 c)) (fun Hc kp _ => hb Hc fun b u c h => kp b u c (fun zz => by rw [zz, hD] at h; cases h) (kp0 b u h)) (fun g m => (hgs g m).move (fun b u nz h => kp0 b u h) fun b zb => ?_) it hg hv ht hbv e.1 upd_same .nil e.2 fun acc' accd' H' k4 g4 d4 r4 e => q D acc' accd' H' hD0 ⟨fun b u c h => k4 b u c (fun zz => by rw [zz, hD0] at h; cases h) (kp0 b u (e1.keep b u c h)), fun _ => g4⟩ d4 r4 e
  rcases zd_plus.mp zb with zb | zz
  · exact .inl zb
  · exact .inr (by rw [zz]; exact hD)
/-! as judgements -/
def DB {ι : Type} (K : PySem.W.Frag) (X : ι → Cx) (elt : Expr) (gens : List Comprehension) (scope : Scope) (pos : Pos) (d : Nat) (vs : List Nat) (bv : EvB) : Prop := ∃ tb, (∀ i, PB (X i) elt gens scope pos d vs tb) ∧ VB K tb bv
section
variable {ι : Type} {K : PySem.W.Frag} {X : ι → Cx} {o : Bool} {pos : Pos} {elt tg iter : Expr} {gens more : List Comprehension} {ifs : List Expr} {scope : Scope} {d : Nat} {is vs vs1 : List Nat} {iv : EvA} {gv : Dt → List Sl → (List Sl → Prop) → Prop} {tv : EvT} {ev : EvE} {bv : EvB} {own : List (Str × Nat)}
theorem db_end (he : DE true K X elt ev) (hx : ∀ i, (X i).xe = fun _ _ => False := by intro _; rfl) (hd : gens[d]? = none := by rfl) : DB K X elt gens scope pos d [] (dEndB ev) := by
  obtain ⟨t, p, v⟩ := he
  exact ⟨_, fun i => pb_end (hx i) hd (p i), vb_end v⟩
theorem db_cl (hi : DI false K X tg iter iv) (hg : DG K X tg gv is) (ht : DTs K X ifs tv) (hb : DB K X elt gens scope pos (d + 1) vs1 bv) (hv : ∀ i, i ∈ vs1 → i ∈ vs) (hv2 : ∀ i, i ∈ is → i ∈ vs) (hsync : ∀ g, g ∈ gens → g.is_async = 0) (hx : ∀ i, (X i).xe = fun _ _ => False := by intro _; rfl) (hc : ∀ i, (X i).calm = true := by intro _; rfl) (hd : gens[d]? = some ⟨tg, iter, ifs, 0⟩ := by rfl)
    (hs : ∀ env x, foldedSetIterable iter env x = pure x := by intro _ _; rfl) : DB K X elt gens scope pos d vs (dClB iv gv tv bv vs) := by
  obtain ⟨wi, pi, vi⟩ := hi
  obtain ⟨g, pg, vg⟩ := hg
  obtain ⟨tt, pt, vt⟩ := ht
  obtain ⟨tb, pb, vb⟩ := hb
  exact ⟨_, fun i => pb_cl (hx i) (hc i) hsync hd (pi i) (pg i) (pt i) (pb i) hv hs, vb_cl vi vg hv2 vt vb⟩
theorem dn_lcm (hc : ∀ i, (X i).calm = true) (hN : ∀ i, (X i).N.Nodup) (hi : DI o K X tg iter iv) (ok : ∀ i, BlkOk (X i).N (X i).env.scope scope own) (hsync : ∀ g, g ∈ (⟨tg, iter, ifs, 0⟩ :: more : List Comprehension) → g.is_async = 0)
    (hg : DG K (bk X scope) tg gv is) (ht : DTs K (bk X scope) ifs tv) (hb : DB K (bk X scope) elt (⟨tg, iter, ifs, 0⟩ :: more) scope pos 1 vs1 bv) (hv : ∀ i, i ∈ vs1 → i ∈ own.map (·.2)) (hv2 : ∀ i, i ∈ is → i ∈ own.map (·.2)) (hs : ∀ i, ∀ x, foldedSetIterable iter (X i).env x = pure x := by intro _ _; rfl) :
    DN K X (.ListComp elt (⟨tg, iter, ifs, 0⟩ :: more) scope pos) (dLcM iv gv tv bv (own.map (·.2))) := by
  obtain ⟨wi, pi, vi⟩ := hi
  obtain ⟨g, pg, vg⟩ := hg
  obtain ⟨tt, pt, vt⟩ := ht
  obtain ⟨tb, pb, vb⟩ := hb
  exact ⟨_, fun i => pe_lcn (hc i) (hN i) (pi i) (ok i) hsync (fun s H C cl fp => pg (i, s, H, C, cl, fp)) (fun s H C cl fp => pt (i, s, H, C, cl, fp)) (fun s H C cl fp => pb (i, s, H, C, cl, fp)) hv (hs i), vn_lcm vi vg hv2 vt vb⟩
end
/-! readings: the turns over a map -/
section
variable {α : Type} {gv : Dt → List Sl → (List Sl → Prop) → Prop} {tv : EvT} {bv : EvB} {vs : List Nat} {δ : List Sl} {g : α → Dt}
/-- each element adds its own row -/
theorem turns_map (f : α → List Dt) : ∀ (xs : List α) (acc : List Dt) (Q : List Dt → Prop), (∀ x, x ∈ xs → ∀ (acc : List Dt) (Q : List Dt → Prop), Q (acc ++ f x) → gv (g x) (wipeS δ vs) fun δ2 => tv δ2 fun b => if b = true then bv acc δ2 Q else Q acc) → Q (acc ++ (xs.map f).flatten) → dTurns gv tv bv vs (xs.map g) acc δ Q
  | [], acc, Q, _, q => by
    have : acc ++ (([] : List α).map f).flatten = acc := by simp
    rw [this] at q
    exact q
  | x :: xs, acc, Q, hs, q => by
    rw [List.map_cons]
    refine hs x (List.mem_cons_self ..) acc (fun acc' => dTurns gv tv bv vs (xs.map g) acc' δ Q) ?_
    refine turns_map f xs _ Q (fun y m => hs y (List.mem_cons_of_mem _ m)) ?_
    rw [List.append_assoc]
    rw [List.map_cons, List.flatten_cons] at q
    exact q
end
end Dl
set_option maxHeartbeats 1000000
/-! isinstance: two kinds, own classes -/
namespace Dl
open PySem PySem.Spec PyProof.Rows L2 Lcn Sq
theorem kit_two {K : PySem.W.Frag} {t T1 T2 : String} {b : Bool} (h : ((kitB t T1).bind fun b => if b = true then some true else (kitB t T2).bind fun b => if b = true then some true else some false) = some b) : PySem.W.kitAny K (.type t) [.type T1, .type T2] = some b := by
  cases h1 : kitB t T1 with
  | none => rw [h1] at h; cases h
  | some b1 =>
    rw [h1] at h
    cases b1 with
    | true =>
      cases h
      exact kitAny_cons (b := true) (kit_ty h1) (fun z => nomatch z) (fun _ => rfl)
    | false =>
      refine kitAny_cons (b := false) (kit_ty h1) (fun _ => ?_) (fun z => nomatch z)
      have h : ((kitB t T2).bind fun b => if b = true then some true else some false) = some b := h
      cases h2 : kitB t T2 with
      | none => rw [h2] at h; cases h
      | some b2 =>
        rw [h2] at h
        cases b2 with
        | true =>
          cases h
          exact kitAny_cons (b := true) (kit_ty h2) (fun z => nomatch z) (fun _ => rfl)
        | false =>
          cases h
          exact kitAny_cons (b := false) (kit_ty h2) (fun _ => rfl) (fun z => nomatch z)
section
variable {ι : Type} {K : PySem.W.Frag} {X : ι → Cx} {z : Bool} {pos p2 : Pos} {a b c e : Expr} {es : List Expr} {ea : EvE}
theorem de_isi2 {T1 T2 : Str} {S1 S2 : String} {p q1 q2 tpos : Pos} {kk : Nat} (ha : DE false K X a ea) (h1 : ∀ i, PE (X i) (.Name T1 q1) (tC (.ty S1))) (h2 : ∀ i, PE (X i) (.Name T2 q2) (tC (.ty S2))) (hg : ∀ i, Gl (X i) "isinstance") (hm : ∀ i, (X i).mg "isinstance" = none)
    (hs : ∀ i, starEach [a, .Tuple [.Name T1 q1, .Name T2 q2] kk tpos] (X i).env = (false, eval a (X i).env) :: starEach [.Tuple [.Name T1 q1, .Name T2 q2] kk tpos] (X i).env := by intro _; rfl) (hs2 : ∀ i, starEach [.Tuple [.Name T1 q1, .Name T2 q2] kk tpos] (X i).env = [(false, eval (.Tuple [.Name T1 q1, .Name T2 q2] kk tpos) (X i).env)] := by intro _; rfl)
    (hs3 : ∀ i, starEach [.Name T1 q1, .Name T2 q2] (X i).env = (false, eval (.Name T1 q1) (X i).env) :: starEach [.Name T2 q2] (X i).env := by intro _; rfl) (hs4 : ∀ i, starEach [.Name T2 q2] (X i).env = [(false, eval (.Name T2 q2) (X i).env)] := by intro _; rfl)
    (hpl : ∀ i, (backTo pos (starEach [.Tuple [.Name T1 q1, .Name T2 q2] kk tpos] (X i).env)).any (·.1) = false := by intro _; rfl) (hK : ∀ i, (X i).K = K := by intro _; rfl) : DE z K X (.Call (.Name "isinstance" p) [a, .Tuple [.Name T1 q1, .Name T2 q2] kk tpos] [] pos) (dIsi [S1, S2] ea) := by
  obtain ⟨ta, pa, va⟩ := ha
  refine ⟨_, fun i => pe_callB (hK i ▸ call_isiT : CallR (X i) (.builtin "isinstance") (rIsiT K)) (hg i) (hm i) (by decide +kernel) (pa_cons (pa i) (pa_cons (pe_tup (pa_cons (h1 i) (pa_cons (h2 i) pa_nil (hs4 i)) (hs3 i))) pa_nil (hs2 i)) (hs i)) (he := hs i) (hpl := hpl i), fun C σ δ H Q Qd k s e q => ?_⟩
  subst k
  refine va C σ δ H _ _ rfl s e fun x d H1 e1 r1 e => ⟨(by show 2 ≤ sizeLine; decide), fun p hp => ?_⟩
  obtain ⟨b, hb, e⟩ := e
  unfold isiB at hb
  cases ht : tyD d with
  | none => rw [ht] at hb; cases hb
  | some t =>
    rw [ht] at hb
    have s1 := s.step e1
    have r2 : Rep C.K C.av (upd H1 p (.tup [.ty S1, .ty S2])) x d := r1.move (fun b u _ h => same_new hp b u h) fun b zb => .inl zb
    exact ⟨x, p, _, .type t, [.type S1, .type S2], b, rfl, upd_same, .cons (.ty _) (.cons (.ty _) .nil), ty_rep r2 ht, kit_two hb, q _ _ _ (e1.trans (Stp.new hp)) (.bl _) e⟩
/-- own classes -/
def dIsiC (K : PySem.W.Frag) (C : Addr) (x : Dt) (Q : Dt → Prop) : Prop := match x with
  | .ins C' _ => C8.InsC K C' ∧ ∃ b, PySem.W.kitOne K (.ref C') (.ref C) = some b ∧ Q (.bl b)
  | x => ∃ t b, tyD x = some t ∧ PySem.W.kitOne K (.type t) (.ref C) = some b ∧ Q (.bl b)
theorem de_isiC {T : Str} {C : Addr} {p q2 : Pos} (ha : DE false K X a ea) (hT : ∀ i, PE (X i) (.Name T q2) (tC (.ref C))) (hg : ∀ i, Gl (X i) "isinstance") (hm : ∀ i, (X i).mg "isinstance" = none)
    (hs : ∀ i, starEach [a, .Name T q2] (X i).env = (false, eval a (X i).env) :: starEach [.Name T q2] (X i).env := by intro _; rfl) (hs2 : ∀ i, starEach [.Name T q2] (X i).env = [(false, eval (.Name T q2) (X i).env)] := by intro _; rfl)
    (hpl : ∀ i, (backTo pos (starEach [.Name T q2] (X i).env)).any (·.1) = false := by intro _; rfl) (hK : ∀ i, (X i).K = K := by intro _; rfl) : DE z K X (.Call (.Name "isinstance" p) [a, .Name T q2] [] pos) (fun δ Q => ea δ fun d => dIsiC K C d Q) := by
  obtain ⟨ta, pa, va⟩ := ha
  refine ⟨_, fun i => pe_callB (hK i ▸ call_isi : CallR (X i) (.builtin "isinstance") (rIsi K)) (hg i) (hm i) (by decide +kernel) (pa_cons (pa i) (pa_cons (hT i) pa_nil (hs2 i)) (hs i)) (he := hs i) (hpl := hpl i), fun C' σ δ H Q Qd k s e q => ?_⟩
  subst k
  refine va C' σ δ H _ _ rfl s e fun x d H1 e1 r1 e => ?_
  have other : ∀ {t : String} {b : Bool}, tyD d = some t → PySem.W.kitOne C'.K (.type t) (.ref C) = some b → Qd (.bl b) → rIsi C'.K [x, .ref C] H1 Q := fun ht hk e => ⟨x, .ref C, .type _, .ref C, _, rfl, .own _, ty_rep r1 ht, hk, q _ _ H1 e1 (.bl _) e⟩
  cases d with
  | ins D es =>
    obtain ⟨hi, b, hk, e⟩ := e
    obtain ⟨a', dx, fs, rfl, _, hh, _, _⟩ := ins_fields r1
    exact ⟨_, .ref C, .ref D, .ref C, b, rfl, .own _, .base (TyOf.ins hh hi.cl hi.ha hi.hn hi.htk hi.hm), hk, q _ _ H1 e1 (.bl _) e⟩
  | _ =>
    obtain ⟨t, b, ht, hk, e⟩ := e
    exact other ht hk e
end
end Dl
set_option maxHeartbeats 1000000
/-! small readings -/
namespace Dl
open PySem PySem.Spec PyProof.Rows L2 Lcn Sq
theorem ite_t {c : Bool} {A B : Prop} (e : c = true) (h : A) : if c = true then A else B := by rw [if_pos e]; exact h
theorem ite_f {c : Bool} {A B : Prop} (e : c = false) (h : B) : if c = true then A else B := by rw [e, if_neg Bool.false_ne_true]; exact h
theorem dAdd_int {i j k : Int} {Q : Dt → Prop} (h : i + j = k) (q : Q (.int k)) : dAdd (.int i) (.int j) Q := by
  subst h
  exact q
theorem dEq_int {i j : Int} {neg : Bool} {Q : Dt → Prop} (b : Bool) (hb : (if neg then !decide (i = j) else decide (i = j)) = b) (q : Q (.bl b)) : dEq neg (.int i) (.int j) Q := dEq_sep (f := Dt.int) sep_int (n := 0) (fit_int 0) (by decide) (by rw [hb]; exact q)
theorem dEq_iL {x y : List Int} {neg : Bool} {Q : Dt → Prop} (b : Bool) (hb : (if neg then !decide (x = y) else decide (x = y)) = b) (q : Q (.bl b)) : dEq neg (iL x) (iL y) Q := dEq_sep (f := iL) sep_iL (n := 1) fit_iL (by decide) (by rw [hb]; exact q)
theorem dEq_iT {x y : List Int} {neg : Bool} {Q : Dt → Prop} (b : Bool) (hb : (if neg then !decide (x = y) else decide (x = y)) = b) (q : Q (.bl b)) : dEq neg (iT x) (iT y) Q := dEq_sep (f := iT) sep_iT (n := 1) fit_iT (by decide) (by rw [hb]; exact q)
theorem map_int2 {α : Type} (f : α → Int) (xs : List α) : (xs.map fun x => Dt.int (f x)) = (xs.map f).map .int := by rw [List.map_map]; rfl
theorem zlen {α β : Type} {xs : List α} {ys : List β} (h : xs.length < 1000) : (xs.zip ys).length < sizeLine := k1000 (Nat.lt_of_le_of_lt (by rw [List.length_zip]; exact Nat.min_le_left _ _) h)
theorem take_one {α : Type} {xs : List α} {i : Nat} {x : α} (h : xs[i]? = some x) : xs.take (i + 1) = xs.take i ++ [x] := by rw [List.take_add_one, h]; rfl
theorem filt_t {α : Type} {p : α → Bool} {x : α} (h : p x = true) : [x].filter p = [x] := by rw [List.filter_cons_of_pos h]; rfl
theorem filt_f {α : Type} {p : α → Bool} {x : α} (h : p x = false) : [x].filter p = [] := by rw [List.filter_cons_of_neg (by rw [h]; exact Bool.false_ne_true)]; rfl
/-- a slot that may be unset -/
def vl : Option Dt → Sl
  | none => .any
  | some d => .val d
/-- all([..]) of Trues -/
theorem all_true {α : Type} (xs : List α) : (xs.map fun _ => Dt.bl true) = ((xs.map fun _ => true).map Dt.bl) := by rw [List.map_map]; rfl
theorem isi_seq {d : Dt} {ds : List Dt} (h : itemsD d = some ds) : isiB ["list", "tuple"] d = some true := by
  have e : ∀ t : String, t = "list" ∨ t = "tuple" → (["list", "tuple"].foldr (fun T r => (kitB t T).bind fun b => if b = true then some true else r) (some false)) = some true := fun t h => by
    rcases h with rfl | rfl <;> decide +kernel
  cases d with
  | lst xs => exact e "list" (.inl rfl)
  | tup xs => exact e "tuple" (.inr rfl)
  | _ => cases h
theorem dLen_items {d : Dt} {ds : List Dt} {Q : Dt → Prop} (h : itemsD d = some ds) (q : Q (.int (ds.length : Int))) : dLen [d] Q := by
  cases d <;> first | (cases h; exact q) | cases h
theorem dIx_items {d : Dt} {ds : List Dt} {i : Int} {x : Dt} {Q : Dt → Prop} (h : itemsD d = some ds) (hx : atI ds i = some x) (q : Q x) : dIx d (.int i) Q := by
  cases d <;> first | (cases h; exact ⟨_, hx, q⟩) | cases h
theorem ivSeq_items {ea : EvE} {δ : List Sl} {d : Dt} {ds : List Dt} {Q : List Dt → Prop} (he : ea δ = fun Q => Q d) (h : itemsD d = some ds) (q : Q ds) : ivSeq ea δ Q := by
  unfold ivSeq
  rw [he]
  cases d <;> first | (cases h; exact q) | cases h
theorem gvTup_items {gs : List Dt → List Sl → (List Sl → Prop) → Prop} {n : Nat} {d : Dt} {ds : List Dt} {δ : List Sl} {Q : List Sl → Prop} (h : itemsD d = some ds) (hl : ds.length = n) (q : gs ds δ Q) : gvTup gs n d δ Q := by
  unfold gvTup
  cases d <;> first | (cases h; exact ⟨hl, q⟩) | cases h
theorem dTuple_items {d : Dt} {ds : List Dt} {Q : Dt → Prop} (h : itemsD d = some ds) (q : Q (.tup ds)) : dTuple [d] Q := by
  cases d <;> first | (cases h; exact q) | cases h
/-- a list or a tuple of things that are told by P -/
def SeqD {α : Type} (P : α → Dt → Prop) (d : Dt) (xs : List α) : Prop := ∃ zs : List (α × Dt), itemsD d = some (zs.map (·.2)) ∧ (∀ p, p ∈ zs → P p.1 p.2) ∧ xs = zs.map (·.1)
def IntsD (d : Dt) (ns : List Int) : Prop := itemsD d = some (ns.map .int)
theorem ints_tup (ns : List Int) : IntsD (iT ns) ns := rfl
theorem ints_lst (ns : List Int) : IntsD (iL ns) ns := rfl
theorem SeqD.of {α : Type} {P : α → Dt → Prop} {f : α → Dt} {xs : List α} (h : ∀ x, x ∈ xs → P x (f x)) : SeqD P (.tup (xs.map f)) xs ∧ SeqD P (.lst (xs.map f)) xs := by
  have e1 : (xs.map fun x => (x, f x)).map (·.2) = xs.map f := by rw [List.map_map]; rfl
  have e2 : xs = (xs.map fun x => (x, f x)).map (·.1) := by rw [List.map_map]; exact (List.map_id _).symm
  refine ⟨⟨xs.map fun x => (x, f x), by rw [e1]; rfl, fun p hp => ?_, e2⟩, ⟨xs.map fun x => (x, f x), by rw [e1]; rfl, fun p hp => ?_, e2⟩⟩ <;>
  · obtain ⟨x, hx, rfl⟩ := List.mem_map.mp hp
    exact h x hx
theorem items_cases {d : Dt} {ds : List Dt} (h : itemsD d = some ds) : d = .lst ds ∨ d = .tup ds := by
  cases d with
  | lst xs =>
    cases h
    exact .inl rfl
  | tup xs =>
    cases h
    exact .inr rfl
  | _ => cases h
theorem all_rep {n : Nat} : (List.replicate n true).all id = true := by simp
theorem rep_bl {α : Type} (xs : List α) : (xs.map fun _ => Dt.bl true) = (List.replicate xs.length true).map Dt.bl := by
  rw [List.map_replicate, ← List.map_const']
/-- clauses: what each element adds, within a bound -/
theorem turns_bd {α : Type} {gv : Dt → List Sl → (List Sl → Prop) → Prop} {tv : EvT} {bv : EvB} {vs : List Nat} {δ : List Sl} {g : α → Dt} (f : α → List Dt) (N : Nat) : ∀ (xs : List α) (acc : List Dt) (Q : List Dt → Prop), acc.length + (xs.map f).flatten.length ≤ N → (∀ x, x ∈ xs → ∀ (acc : List Dt) (Q : List Dt → Prop), acc.length + (f x).length ≤ N → Q (acc ++ f x) → gv (g x) (wipeS δ vs) fun δ2 => tv δ2 fun b => if b = true then bv acc δ2 Q else Q acc) → Q (acc ++ (xs.map f).flatten) → dTurns gv tv bv vs (xs.map g) acc δ Q
  | [], acc, Q, _, _, q => by
    have : acc ++ (([] : List α).map f).flatten = acc := by simp
    rw [this] at q
    exact q
  | x :: xs, acc, Q, hN, hs, q => by
    rw [List.map_cons]
    rw [List.map_cons, List.flatten_cons, List.length_append] at hN
    refine hs x (List.mem_cons_self ..) acc (fun acc' => dTurns gv tv bv vs (xs.map g) acc' δ Q) (by omega) ?_
    refine turns_bd f N xs _ Q (by rw [List.length_append]; omega) (fun y m => hs y (List.mem_cons_of_mem _ m)) ?_
    rw [List.append_assoc]
    rw [List.map_cons, List.flatten_cons] at q
    exact q
end Dl
set_option maxHeartbeats 4000000
/-! set(a list of ints), sorted of any set of ints, sorted of a dict by pairs of ints -/
namespace StO
open PySem PySem.Spec PyProof.Rows L2
/-- an empty set, just made -/
abbrev nwO (w : World) : Obj := { cls := .type "set", dict := none, data := .set #[] 0 (.fresh 0 0 (!w.params.followText "set-order")) }
section
variable {P : Program} {w : World} {A : Around} {E : Value → Shared → Prop} {s : Shared}
/-- what stands behind set(xs) -/
def Mad (w : World) (s : Shared) (ns : List Int) (s2 : Shared) : Prop := ∃ h' tk c, s2 = { s with heap := h', toks := tk } ∧ SetR w h' s.heap.objs.size (fun j => decide (j ∈ ns)) c ∧ c ≤ ns.length ∧ ∀ b o, s.heap.get? b = some o → h'.get? b = some o
theorem at_int {items : Array Value} {ns : List Int} (hit : IntsAre items.toList ns) (i : Nat) (v : Value) (hv : items[i]? = some v) : ∃ k t, ns[i]? = some k ∧ v = .int k t := by
  have l := IntsAre.length hit
  have hi : i < items.size := (Array.getElem?_eq_some_iff.mp hv).1
  rw [Array.length_toList] at l
  obtain ⟨t, e⟩ := hit.int_at i v (by rw [Array.getElem?_toList]; exact hv)
  have e2 : ns[i]? = some (ns[i]'(by omega)) := List.getElem?_eq_getElem _
  exact ⟨_, t, e2, by rw [e, List.getD_eq_getElem?_getD, e2]; first | done | rfl⟩
theorem call_set_listI {l : Addr} {items : Array Value} (ns : List Int) {Q : Value → Shared → Prop} (hh : A.handled = none) (hl : s.heap.IsList l items) (hit : IntsAre items.toList ns) (hb : ns.length + 1 < scanBound)
    (h : ∀ s2, Mad w s ns s2 → Q (.ref s.heap.objs.size) s2) : wpAny (model P w) A (call (.type "set") [.ref l]) Q E s := by
  have hisz : items.size = ns.length := by have q := IntsAre.length hit; rwa [Array.length_toList] at q
  obtain ⟨c, tl, hmro⟩ := F.called_set.mro
  have hmade := F.called_set.made; have hsub := F.called_set.sub
  refine wpAny_call (codeAny_of_tree ?_); show wpAny _ _ (callAny (.type "set") _) _ _ _
  refine wpAny_pure ⟨Code.quiet_builtin _ (by decide +kernel), codeAny_builtin F.entry_type_call ?_⟩; rw [Around.under_plain (weight_type_call_type "set" [.ref l] []) rfl]
  have h1 := F.called_set.notType; have h2 := F.called_set.canCreate; have hct := F.typeCall_set_1 (.ref l); repeat (any_goals (first | assumption | wp_step))
  refine codeAny_mono (code_set_led1 (.ref l) (E := E) (Q₁ := fun o s₁ => o = .ref s.heap.objs.size ∧ s₁ = { s with heap := s.heap.push (nwO w) }) ⟨rfl, rfl⟩) fun r s₁ hr => ?_
  match r, hr with
  | .error e, hr => exact hr
  | .ok (.ret obj), hr =>
    obtain ⟨rfl, rfl⟩ := hr
    have hS : (s.heap.push (nwO w)).get? s.heap.objs.size = some (nwO w) := Heap.get?_push_size _ rfl
    have hT : Shared.TypeIs { s with heap := s.heap.push (nwO w) } (.ref s.heap.objs.size) "set" := ⟨_, hS, rfl⟩
    have hli := F.called_set.init.lookup; have hbi := F.called_set.init.bind (.ref s.heap.objs.size); repeat (any_goals (first | assumption | wp_step))
    refine codeAny_mono (codeAny_call_builtin (R := wants (fun r s₂ => r = .none ∧ Mad w s ns s₂) E) F.called_set.init.plain F.entry_set_init (check_set_init_1 hT ?_)) fun r₂ s₂ hr₂ => ?_
    · obtain ⟨⟨_, odict, _, oslots⟩, hol, hcl, nl, hdl⟩ := hl
      simp only at hcl hdl; subst hcl hdl
      have hol' : (s.heap.push (nwO w)).get? l = some { cls := .type "list", dict := odict, data := .seq items nl, slots := oslots } := Heap.get?_push_of_some _ hol
      have hsls := F.sub_list_set; have hslf := F.sub_list_frozenset
      have hne : (Value.type "list" == Value.type "dict") = false := by decide
      have hl1 : (s.heap.push (nwO w)).IsList l items := ⟨_, hol', rfl, nl, rfl⟩
      unfold Builtin.«set.__init__» noKeywords Builtin.Frozenset.updateFrom; generalize hPI : pyIter = PI
      wp_walk
      subst hPI
      refine wpAny_pyIter_list hl1 ?_; refine wpAny_bind (wpAny_runValue ?_)
      have hlS : l < s.heap.objs.size := Heap.lt_size hol
      have hz1 : (s.heap.push (nwO w)).objs.size = s.heap.objs.size + 1 := Heap.size_push ..
      have hneI : l ≠ (s.heap.push (nwO w)).objs.size := by rw [hz1]; exact Nat.ne_of_lt (Nat.lt_succ_of_lt hlS)
      have hSf : s.heap.objs.size ∉ [(s.heap.push (nwO w)).objs.size, l] := by rw [hz1]; simp only [List.mem_cons, List.not_mem_nil, or_false, not_or]; exact ⟨Nat.ne_of_lt (Nat.lt_succ_self _), Nat.ne_of_gt hlS⟩
      refine set_update_ints ((Walks.list (by simp [hh]) _ l hneI items).toS) s.heap.objs.size hSf ns hisz hb (at_int hit) (items.size - 0) 0 _ (by omega) (Nat.zero_le _) ⟨⟨_, Heap.get?_push_size _ rfl, rfl, rfl⟩, (hl1.push _)⟩ ?hS0 ?hR
      case hS0 => exact ⟨0, Nat.le_refl 0, setR_new_at (Heap.get?_push_of_some _ hS)⟩
      case hR =>
        intro s' c' hm hc' hS'
        obtain ⟨h', g2, d', tk', os'⟩ := s'
        obtain rfl : g2 = s.gens := hm.gens
        obtain rfl : d' = s.drawn := hm.drawn
        obtain rfl : os' = s.os := hm.os
        refine wpAny_pure ?_; show wpAny _ _ (ret Value.none) _ _ _
        refine wpAny_pure ⟨rfl, h', tk', c', rfl, hS', by omega, fun b o e => ?_⟩
        have hb0 : b < s.heap.objs.size := Heap.lt_size e
        refine hm.heap b o (fun z => ?_) (Heap.get?_push_of_some _ (Heap.get?_push_of_some _ e))
        rw [hz1] at z; simp only [List.mem_cons, List.not_mem_nil, or_false] at z
        rcases z with z | z
        · exact Nat.ne_of_lt hb0 z
        · exact Nat.ne_of_lt (Nat.lt_succ_of_lt hb0) z
    · match r₂, hr₂ with
      | .error e, hr₂ => exact hr₂
      | .ok (.ret r), hr₂ =>
        obtain ⟨rfl, md⟩ := hr₂
        (repeat (any_goals (first | assumption | wp_step))); exact h _ md
end
section
variable {X : Cx}
/-- set(xs), xs a list of ints -/
def rSetI (K : PySem.W.Frag) (w : World) : List V → Hp → VK → Prop := fun vs H Q => ∃ (l : Addr) (ns : List Int), vs = [V.ref l] ∧ SqL K H l (ns.map V.int) ∧ ns.length + 1 < scanBound ∧ ∀ a n, H a = none → n ≤ ns.length → Q (.ref a) (upd H a (SetO w a (fun j => decide (j ∈ ns)) n))
theorem cr_setI (hc : X.calm = true) : CallR X (.type "set") (rSetI X.K X.w) := by
  intro pins s σ H xs us Q I r h
  obtain ⟨l, ns, rfl, hl, hb, q⟩ := h
  rw [Vals.ref1 r]
  obtain ⟨its, rv, pl, hz⟩ := I.list hl
  refine call_set_listI ns (I.ok.hd hc) pl.isList (by simpa using rv.ints) hb fun s2 ⟨h', tk, c, e, R, hn, k⟩ => ?_
  rw [e]
  exact ⟨.ref s.heap.objs.size, upd H s.heap.objs.size (SetO X.w s.heap.objs.size (fun j => decide (j ∈ ns)) c), I.laid (t' := tk) k (Nat.le_refl _) (setO_new R), rfl, q _ c (I.hok.fresh (Nat.le_refl _)) hn⟩
end
end StO
set_option maxHeartbeats 4000000
/-! sorted(d), d a dict whose keys are tuples of ints -/
namespace DcS
open PySem PySem.Spec PyProof.Rows L2
theorem perm_lift {α β : Type} {f : α → β} {l m : List β} (h : l.Perm m) : ∀ L : List α, m = L.map f → ∃ L' : List α, L'.Perm L ∧ L'.map f = l := by
  induction h with
  | nil => intro L e; exact ⟨L, .refl _, e.symm⟩
  | cons x _ ih =>
    intro L e
    match L, e with
    | a :: L, e =>
      rw [List.map_cons] at e
      injection e with e1 e2
      obtain ⟨L', p, e3⟩ := ih L e2
      exact ⟨a :: L', .cons a p, by rw [List.map_cons, e3, e1]⟩
  | swap x y l =>
    intro L e
    match L, e with
    | a :: b :: L, e =>
      rw [List.map_cons, List.map_cons] at e
      injection e with e1 e2
      injection e2 with e2 e3
      exact ⟨b :: a :: L, .swap a b L, by rw [List.map_cons, List.map_cons, e1, e2, e3]⟩
  | trans _ _ ih1 ih2 =>
    intro L e
    obtain ⟨L1, p1, e1⟩ := ih2 L e
    obtain ⟨L2, p2, e2⟩ := ih1 L1 e1.symm
    exact ⟨L2, p2.trans p1, e2⟩
def kI (k : List Int) : List Key := k.map Sum.inl
theorem kI_v (k : List Int) : (kI k).map kV = k.map V.int := by
  unfold kI
  rw [List.map_map]
  exact List.map_congr_left fun _ _ => rfl
theorem zip_keys {H : Hp} : ∀ {kvs : List (List Key × V)} {bs : List Addr} {ks : List (List Int)}, IsKeys H kvs bs → kvs.map (·.1) = ks.map kI → ∃ L : List (Addr × List Int), L.map (·.2) = ks ∧ L.map (fun q => Value.ref q.1) = bs.map Value.ref ∧ ∀ q ∈ L, H q.1 = some (.tup (q.2.map V.int))
  | [], _, ks, .nil, e => by
    cases ks with
    | nil => exact ⟨[], rfl, rfl, by simp⟩
    | cons k ks => cases e
  | p :: kvs, b :: bs, ks, .cons h t, e => by
    cases ks with
    | nil => cases e
    | cons k ks =>
      rw [List.map_cons, List.map_cons] at e
      injection e with e1 e2
      obtain ⟨L, h1, h2, h3⟩ := zip_keys t e2
      refine ⟨(b, k) :: L, by rw [List.map_cons, h1], by rw [List.map_cons, List.map_cons, h2], fun q hq => ?_⟩
      rcases List.mem_cons.mp hq with rfl | hq
      · have h' : H b = some (.tup (p.1.map kV)) := h
        rw [e1, kI_v] at h'
        exact h'
      · exact h3 q hq
section
variable {X : Cx}
def rSortDT (d : Nat) (B : Int) : List V → Hp → VK → Prop := fun xs H Q => ∃ (a : Addr) (kvs : List (List Key × V)) (ks : List (List Int)), xs = [.ref a] ∧ Rd H a (.dT kvs) ∧ kvs.map (·.1) = ks.map kI ∧ ks.length < 64 ∧ (∀ k ∈ ks, k.length = d ∧ TS.Bd B k) ∧
  ∀ (L : List (Addr × List Int)) (p : Addr), (L.map (·.2)).Perm ks → (∀ q ∈ L, H q.1 = some (.tup (q.2.map V.int))) → L.Pairwise (fun q r => TS.code B q.2 ≤ TS.code B r.2) → H p = none → Q (.ref p) (upd H p (.lst (L.map fun q => V.ref q.1)))
theorem call_sortedDT {d : Nat} {B : Int} (hc : X.calm = true) (hd1 : 1 ≤ d) : CallR X (.builtin "sorted") (rSortDT d B) := by
  intro pins s σ H xs us Q I r h
  obtain ⟨a, kvs, ks, rfl, hd, hks, h64, hB, q⟩ := h
  obtain ⟨u, rfl, rx⟩ := vals1 r
  cases rx
  obtain ⟨z, hs, ks0, pr, o, es, ep, ho, hx, hdt, he, hn⟩ := (show ObjOk X.prog X.w H s.heap a (.dT kvs) from hd.ok I.hok)
  have l1 : es.size = ks0.length := size_of_entries he
  have l2 : kvs.length = ks0.length := Paired.length pr
  have l3 : kvs.length = ks.length := by
    have := congrArg List.length hks
    rwa [List.length_map, List.length_map] at this
  refine Calls.call_function_entry PyProof.Rows.kind_sorted PyProof.Rows.plain_sorted PyProof.Rows.entry_sorted (PyProof.Rows.args_sorted1 _) ?_
  unfold Builtin.«sorted»
  refine wpAny_bind (m := checkCount "sorted" 1 1 _) (wpAny_pure ?_)
  refine wpAny_bind (PySem.W.kdu_collect (A := X.A.in1) (kdl_raw hs hx hdt) (I.ok.hd hc) ho (by omega) fun h' tk acc kp it => ?_)
  have ea : acc.toList = ks0.map fun x => Value.ref x.2.1 := by
    have hl : acc.toList.length = ks0.length := by rw [Array.length_toList, it.1]; exact l1
    apply List.ext_getElem?
    intro j
    rw [List.getElem?_map]
    cases hj : acc.toList[j]? with
    | none =>
      have h1 := List.getElem?_eq_none_iff.mp hj
      rw [List.getElem?_eq_none (by omega)]
      all_goals rfl
    | some v =>
      obtain ⟨en, hen, hv⟩ := it.2 j v (by rw [← Array.getElem?_toList]; exact hj)
      have qe := entry_at he j
      rw [hen] at qe
      cases hb : ks0[j]? with
      | none =>
        rw [hb] at qe
        exact nomatch (show some en = none from qe)
      | some b =>
        rw [hb] at qe
        have e2 : en = entryOfKey (tupleKind (mixKind X.prog X.w)) b := Option.some.inj qe
        rw [hv, e2]
        all_goals rfl
  obtain ⟨L, hL1, hL2, hL3⟩ := zip_keys (isKeys_of pr) hks
  have eb : acc.toList = L.map fun q => Value.ref q.1 := by rw [hL2, ea, List.map_map]; all_goals rfl
  have hal : acc.toList.length < 64 := by rw [ea, List.length_map]; omega
  have I1 : Inv X pins σ H { s with heap := h', toks := tk } := I.kept kp
  have x0 : TS.TupsOk h' d B acc.toList := fun v hv => by
    rw [eb] at hv
    obtain ⟨q, hq, e⟩ := List.mem_map.mp hv
    rw [← e]
    have hm : q.2 ∈ ks := by rw [← hL1]; exact List.mem_map.mpr ⟨q, hq, rfl⟩
    exact ⟨q.2, tupI_raw I1 (SqT.of (hL3 q hq)), (hB _ hm).1, (hB _ hm).2⟩
  refine wpAny_bind (wpAny_newList ?_ (by rw [sizeLine_eq]; omega))
  have hoL : (h'.push (seqObj "list" acc.toList.toArray 0)).get? h'.objs.size = some (seqObj "list" acc.toList.toArray 0) := Heap.get?_push_size _ rfl
  have keep : ∀ b o, h'.get? b = some o → o.cls = .type "tuple" → (h'.push (seqObj "list" acc.toList.toArray 0)).get? b = some o := fun b o e _ => Heap.get?_push_of_some _ e
  show wpAny _ _ _ _ _ { s with heap := h'.push (seqObj "list" acc.toList.toArray 0), toks := tk }
  refine wpAny_bind (wpAny_holding (TS.call_sort_tups (s := { s with heap := h'.push (seqObj "list" acc.toList.toArray 0), toks := tk }) hoL hal hd1 (x0.keeps keep) fun out a1 a2 => ?_))
  obtain ⟨e', he'⟩ := PyProof.Rows.sortedHeap_at (vs := acc.toList) (out := out) hoL
  rw [eb] at a1
  obtain ⟨L', pm, eo⟩ := perm_lift a1 L rfl
  have mem : ∀ q ∈ L', q ∈ L := fun q hq => pm.mem_iff.mp hq
  have pw : L'.Pairwise (fun q r => TS.code B q.2 ≤ TS.code B r.2) := by
    rw [← eo] at a2
    refine List.Pairwise.imp_of_mem (fun {q r} hq hr hle => ?_) (List.pairwise_map.mp a2)
    have f : ∀ q ∈ L, TS.intsOf (h'.push (seqObj "list" acc.toList.toArray 0)) (.ref q.1) = q.2 := fun q hq => ((tupI_raw I1 (SqT.of (hL3 q hq))).keeps keep).ints
    have f1 := f q (mem q hq)
    have f2 := f r (mem r hr)
    rw [← f1, ← f2]
    exact hle
  have hlen : (L'.map fun q => V.ref q.1).length ≤ sizeLine := by
    rw [List.length_map, pm.length_eq, ← List.length_map (f := (·.2)), hL1]
    exact Nat.le_trans (Nat.le_of_lt h64) (by decide)
  have hv : Vals (L'.map fun q => V.ref q.1) out.toList := by rw [← eo]; exact vals_of_refs L'
  refine wpAny_pure ⟨_, rfl, .ref h'.objs.size, upd H h'.objs.size (.lst (L'.map fun q => V.ref q.1)), I1.laid (t' := tk) (fun b u e => ?_) (Nat.le_refl _)
    (show ObjOk X.prog X.w _ _ _ (.lst (L'.map fun q => V.ref q.1)) from ⟨hlen, out.toList, e', hv, by rw [Array.toArray_toList]; exact he'⟩), rfl, q L' _ (by rw [← hL1]; exact pm.map _) (fun q hq => hL3 q (mem q hq)) pw (I1.hok.fresh (Nat.le_refl _))⟩
  have hb : b < h'.objs.size := Heap.lt_size e
  rw [PyProof.Rows.sortedHeap_old (Nat.ne_of_lt hb) (by rw [size_push']; exact Nat.lt_succ_of_lt hb)]
  exact Heap.get?_push_of_some _ e
end
end DcS
set_option maxHeartbeats 4000000
namespace StO
open PySem PySem.Spec PyProof.Rows L2
section
variable {P : Program} {w : World} {A : Around} {E : Value → Shared → Prop} {s : Shared} {a : Addr}
theorem sortedI_set {S : Int → Bool} {n : Nat} {Q : Value → Shared → Prop} (R : SetR w s.heap a S n) (hh : A.handled = none) (hz : n ≤ sizeLine)
    (hQ : ∀ s' p (out : List Value) (c : Nat) (ns : List Int), (∀ b o, s.heap.get? b = some o → s'.heap.get? b = some o) → s'.gens = s.gens → s'.os = s.os → s.heap.objs.size ≤ p → s'.heap.get? p = some (seqObj "list" out.toArray c) → IntsAre out ns → ns.Pairwise (· < ·) → (∀ k, k ∈ ns ↔ S k = true) → ns.length = n → Q (.ref p) s') :
    wpAny (model P w) A (call (.builtin "sorted") [.ref a]) Q E s := by
  obtain ⟨o, es, ep, t, ho, hex, hd, g, nd, hm, hb, hf, hn, hr, hl⟩ := R
  refine Calls.call_function_entry kind_sorted plain_sorted entry_sorted (args_sorted1 _) ?_; unfold Builtin.«sorted»
  refine wpAny_bind (m := checkCount "sorted" 1 1 _) (wpAny_pure (wpAny_bind (collect_set (A := A.in1) hh ⟨o, ho, hex.1, hd⟩ hf hb hr hl fun s1 vs k1 hz1 g1 o1 pm => ?_)))
  have hvl : vs.length = n := by rw [pm.length_eq, List.length_map, Array.length_toList]; exact hn
  have hI : IntsAre vs (vs.map Builtin.Re.reRawOf) := ints_of vs fun v hv => by
    obtain ⟨e, he, q⟩ := List.mem_map.mp (pm.mem_iff.mp hv)
    obtain ⟨k, tk, h1, _⟩ := g e he
    exact ⟨k, tk, by rw [← q]; exact h1⟩
  have pk : (vs.map Builtin.Re.reRawOf).Perm (es.toList.map keyOf) := by have q := pm.map Builtin.Re.reRawOf; rw [List.map_map] at q; exact q
  refine wpAny_bind (wpAny_newList ?_ (by rw [hvl]; exact hz))
  have hoL : (s1.heap.push (seqObj "list" vs.toArray 0)).get? s1.heap.objs.size = some (seqObj "list" vs.toArray 0) := Heap.get?_push_size _ rfl
  refine wpAny_bind (wpAny_holding (wpAny_call_entry slot_list_sort ⟨_, hoL, rfl⟩ entry_list_sort (SrtO.list_sort_ord SrtO.swo_int hoL (by rw [hvl]; exact hz) (fun h2 => SrtO.ints_sortable hI h2) fun out a1 a2 => ⟨_, rfl, ?_⟩) (args_list_sort _)))
  obtain ⟨c1, c2, c3⟩ := SrtO.ints_out hI a1 a2
  obtain ⟨c, hc⟩ := sortedHeap_at (vs := vs) (out := out.toArray) hoL
  have pn : (out.map SrtO.iv).Perm (es.toList.map keyOf) := c2.trans pk
  refine wpAny_pure ⟨_, rfl, hQ _ s1.heap.objs.size out c (out.map SrtO.iv) (fun b u e => ?_) g1 o1 hz1 hc c1 (lt_of_le_nodup _ c3 (pn.nodup_iff.mpr nd)) (fun k => by rw [pn.mem_iff, ← hm k]) ?_⟩
  · have q := k1 b u e
    have hlt := Heap.lt_size q
    show (sortedHeap (s1.heap.push (seqObj "list" vs.toArray 0)) s1.heap.objs.size vs out.toArray).get? b = some u; rw [sortedHeap_old (Nat.ne_of_lt hlt) (by rw [size_push']; exact Nat.lt_succ_of_lt hlt)]; exact Heap.get?_push_of_some _ q
  · rw [pn.length_eq, List.length_map, Array.length_toList]; exact hn
end
section
variable {X : Cx}
/-- sorted(a set of ints) -/
def rSortS (w : World) : List V → Hp → VK → Prop := fun vs H Q => ∃ (a : Addr) (S : Int → Bool) (n : Nat), vs = [V.ref a] ∧ H a = some (SetO w a S n) ∧ n ≤ sizeLine ∧ ∀ (ns : List Int) (p : Addr), ns.Pairwise (· < ·) → (∀ k : Int, k ∈ ns ↔ S k = true) → H p = none → Q (.ref p) (upd H p (.lst (ns.map V.int)))
theorem cr_sortS (hc : X.calm = true) : CallR X (.builtin "sorted") (rSortS X.w) := by
  intro pins s σ H xs us Q I r h
  obtain ⟨a, S, n, rfl, ha, hz, q⟩ := h
  rw [Vals.ref1 r]
  refine sortedI_set (setO_get I ha) (I.ok.hd hc) hz fun s' p out c ns k g o hp hg hi hs hm hl => ?_
  have hn : H p = none := I.hok.fresh hp
  have J : Inv X pins σ (upd H p (.lst (ns.map V.int))) { s with heap := s'.heap, gens := s'.gens, drawn := s'.drawn, toks := s'.toks } := I.call (ch := []) (Un.laid k hp hn) (I.hok.laid k hp ⟨by rw [List.length_map, hl]; exact hz, out, c, vals_of_ints hi, hg⟩) (by rw [g]; exact I.bare) (fun _ z => nomatch z)
  have e : s' = { s with heap := s'.heap, gens := s'.gens, drawn := s'.drawn, toks := s'.toks } := by cases s'; cases s; cases o; rfl
  rw [e]
  exact ⟨.ref p, _, J, rfl, q ns p hs hm hn⟩
/-- two ints as a key -/
def kP (k : Int × Int) : List Key := [.inl k.1, .inl k.2]
theorem zip_keysP {H : Hp} : ∀ {kvs : List (List Key × V)} {bs : List Addr} {ks : List (Int × Int)}, IsKeys H kvs bs → kvs.map (·.1) = ks.map kP → ∃ L : List (Addr × Int × Int), L.map (·.2) = ks ∧ L.map (fun q => Value.ref q.1) = bs.map Value.ref ∧ ∀ q ∈ L, H q.1 = some (.tup [.int q.2.1, .int q.2.2])
  | [], _, [], .nil, e => ⟨[], rfl, rfl, by simp⟩
  | [], _, _ :: _, .nil, e => by cases e
  | p :: kvs, b :: bs, [], .cons h t, e => by cases e
  | p :: kvs, b :: bs, k :: ks, .cons h t, e => by
    rw [List.map_cons, List.map_cons] at e
    injection e with e1 e2
    obtain ⟨L, h1, h2, h3⟩ := zip_keysP t e2
    refine ⟨(b, k) :: L, by rw [List.map_cons, h1], by rw [List.map_cons, List.map_cons, h2], fun q hq => ?_⟩
    rcases List.mem_cons.mp hq with rfl | hq
    · have h' : H b = some (.tup (p.1.map kV)) := h
      rw [e1] at h'
      exact h'
    · exact h3 q hq
def rSortDP : List V → Hp → VK → Prop := fun xs H Q => ∃ (a : Addr) (kvs : List (List Key × V)) (ks : List (Int × Int)), xs = [.ref a] ∧ Rd H a (.dT kvs) ∧ kvs.map (·.1) = ks.map kP ∧ ks.length ≤ sizeLine ∧
  ∀ (L : List (Addr × Int × Int)) (p : Addr), (L.map (·.2)).Perm ks → (∀ q ∈ L, H q.1 = some (.tup [.int q.2.1, .int q.2.2])) → (L.map (·.2)).Pairwise (fun x y => SrtO.lexB y x = false) → H p = none → Q (.ref p) (upd H p (.lst (L.map fun q => V.ref q.1)))
theorem cr_sortDP (hc : X.calm = true) : CallR X (.builtin "sorted") rSortDP := by
  intro pins s σ H xs us Q I r h
  obtain ⟨a, kvs, ks, rfl, hd, hks, h64, q⟩ := h
  obtain ⟨u, rfl, rx⟩ := vals1 r
  cases rx
  obtain ⟨z, hs, ks0, pr, o, es, ep, ho, hx, hdt, he, hn⟩ := (show ObjOk X.prog X.w H s.heap a (.dT kvs) from hd.ok I.hok)
  have l1 : es.size = ks0.length := size_of_entries he
  have l2 : kvs.length = ks0.length := Paired.length pr
  have l3 : kvs.length = ks.length := by have := congrArg List.length hks; rwa [List.length_map, List.length_map] at this
  refine Calls.call_function_entry PyProof.Rows.kind_sorted PyProof.Rows.plain_sorted PyProof.Rows.entry_sorted (PyProof.Rows.args_sorted1 _) ?_; unfold Builtin.«sorted»
  refine wpAny_bind (m := checkCount "sorted" 1 1 _) (wpAny_pure (wpAny_bind (PySem.W.kdu_collect (A := X.A.in1) (kdl_raw hs hx hdt) (I.ok.hd hc) ho (by omega) fun h' tk acc kp it => ?_)))
  have ea : acc.toList = ks0.map fun x => Value.ref x.2.1 := by
    have hl : acc.toList.length = ks0.length := by rw [Array.length_toList, it.1]; exact l1
    apply List.ext_getElem?
    intro j
    rw [List.getElem?_map]
    cases hj : acc.toList[j]? with
    | none => have h1 := List.getElem?_eq_none_iff.mp hj; rw [List.getElem?_eq_none (by omega)]; all_goals rfl
    | some v =>
      obtain ⟨en, hen, hv⟩ := it.2 j v (by rw [← Array.getElem?_toList]; exact hj)
      have qe := entry_at he j
      rw [hen] at qe
      cases hb : ks0[j]? with
      | none => rw [hb] at qe; exact nomatch (show some en = none from qe)
      | some b =>
        rw [hb] at qe
        have e2 : en = entryOfKey (tupleKind (mixKind X.prog X.w)) b := Option.some.inj qe
        rw [hv, e2]; all_goals rfl
  obtain ⟨L, hL1, hL2, hL3⟩ := zip_keysP (isKeys_of pr) hks
  have eb : acc.toList = L.map fun q => Value.ref q.1 := by rw [hL2, ea, List.map_map]; all_goals rfl
  have hll : L.length = ks.length := by rw [← hL1, List.length_map]
  have hal : acc.toList.length ≤ sizeLine := by rw [eb, List.length_map, hll]; exact h64
  have I1 : Inv X pins σ H { s with heap := h', toks := tk } := I.kept kp
  have pr : ∀ q ∈ L, ∃ o t1 t2 n, h'.get? q.1 = some o ∧ o.cls = .type "tuple" ∧ o.data = .seq #[.int q.2.1 t1, .int q.2.2 t2] n := fun q hq => by
    obtain ⟨_, its2, r2, o, ho, hc, n, hd⟩ := I1.hok _ _ (hL3 q hq)
    obtain ⟨u1, u2, rfl, ⟨t1, rfl⟩, ⟨t2, rfl⟩⟩ := vals2 r2
    exact ⟨o, t1, t2, n, ho, hc, hd⟩
  have uq : ∀ q ∈ L, ∀ r ∈ L, q.1 = r.1 → q.2 = r.2 := fun q hq r hr e => by
    have h1 := hL3 q hq
    rw [e, hL3 r hr] at h1
    injection h1 with h1
    injection h1 with h1
    injection h1 with a1 h1
    injection h1 with a2 _
    injection a1 with a1
    injection a2 with a2
    exact Prod.ext a1.symm a2.symm
  let kk : Value → Int × Int := fun v => ((L.find? fun q => decide (Value.ref q.1 = v)).map (·.2)).getD (0, 0)
  have hkk : ∀ q ∈ L, kk (.ref q.1) = q.2 := fun q hq => by
    show ((L.find? fun p => decide (Value.ref p.1 = Value.ref q.1)).map (·.2)).getD (0, 0) = q.2
    cases hf : L.find? fun p => decide (Value.ref p.1 = Value.ref q.1) with
    | none => exact absurd (List.find?_eq_none.mp hf q hq) (by simp)
    | some r =>
      have h1 : Value.ref r.1 = Value.ref q.1 := of_decide_eq_true (List.find?_some (p := fun p : Addr × Int × Int => decide (Value.ref p.1 = Value.ref q.1)) hf)
      injection h1 with h1
      exact uq r (List.mem_of_find?_eq_some hf) q hq h1
  refine wpAny_bind (wpAny_newList ?_ hal)
  have hoL : (h'.push (seqObj "list" acc.toList.toArray 0)).get? h'.objs.size = some (seqObj "list" acc.toList.toArray 0) := Heap.get?_push_size _ rfl
  show wpAny _ _ _ _ _ { s with heap := h'.push (seqObj "list" acc.toList.toArray 0), toks := tk }
  have hp : ∀ v ∈ acc.toList, Srt.IsPair (h'.push (seqObj "list" acc.toList.toArray 0)) v (kk v).1 (kk v).2 := fun v hv => by
    rw [eb] at hv
    obtain ⟨q, hq, rfl⟩ := List.mem_map.mp hv
    obtain ⟨o, t1, t2, n, h1, h2, h3⟩ := pr q hq
    rw [hkk q hq]
    exact ⟨q.1, o, t1, t2, n, rfl, Heap.get?_push_of_some _ h1, h2, h3⟩
  refine wpAny_bind (wpAny_holding (wpAny_call_entry PyProof.Rows.slot_list_sort ⟨_, hoL, rfl⟩ PyProof.Rows.entry_list_sort (SrtO.list_sort_ord (SrtO.swo_lex kk) hoL hal (fun h2 => SrtO.pairs_sortableO (by omega) hp fun o e => ?_) fun out a1 a2 => ⟨_, rfl, ?_⟩) (PyProof.Rows.args_list_sort _)))
  · have e' := e.symm.trans hoL; cases e'; intro c; exact absurd (Value.type.inj c) (by decide)
  obtain ⟨e', he'⟩ := PyProof.Rows.sortedHeap_at (vs := acc.toList) (out := out.toArray) hoL
  have pm0 := a2.perm
  rw [eb] at pm0
  obtain ⟨L', pm, eo⟩ := DcS.perm_lift pm0 L rfl
  have mem : ∀ q ∈ L', q ∈ L := fun q hq => pm.mem_iff.mp hq
  have pw : (L'.map (·.2)).Pairwise (fun x y => SrtO.lexB y x = false) := by
    have a1 : out.Pairwise (fun x y => SrtO.lexB (kk y) (kk x) = false) := a1
    rw [← eo, List.pairwise_map] at a1
    rw [List.pairwise_map]
    refine List.Pairwise.imp_of_mem (fun {q r} hq hr hle => ?_) a1
    rw [hkk q (mem q hq), hkk r (mem r hr)] at hle
    exact hle
  have hlen : (L'.map fun q => V.ref q.1).length ≤ sizeLine := by rw [List.length_map, pm.length_eq, hll]; exact h64
  have hv : Vals (L'.map fun q => V.ref q.1) out := by
    rw [← eo]
    clear hlen pw mem pm eo
    induction L' with
    | nil => exact .nil
    | cons q L' ih => exact .cons rfl ih
  refine wpAny_pure ⟨_, rfl, .ref h'.objs.size, upd H h'.objs.size (.lst (L'.map fun q => V.ref q.1)), I1.laid (t' := tk) (fun b u e => ?_) (Nat.le_refl _) (show ObjOk X.prog X.w _ _ _ (.lst (L'.map fun q => V.ref q.1)) from ⟨hlen, out, e', hv, he'⟩), rfl, q L' _ (by rw [← hL1]; exact pm.map _) (fun q hq => hL3 q (mem q hq)) pw (I1.hok.fresh (Nat.le_refl _))⟩
  have hb : b < h'.objs.size := Heap.lt_size e
  rw [PyProof.Rows.sortedHeap_old (Nat.ne_of_lt hb) (by rw [size_push']; exact Nat.lt_succ_of_lt hb)]; exact Heap.get?_push_of_some _ e
end
end StO
set_option maxHeartbeats 1000000
/-! dicts as data, own dicts of own lists, sets told at once, count -/
namespace Dl
open PySem PySem.Spec PyProof.Rows L2 Lcn Sq
/-- a look into a dict -/
def lookD : Dt → Dt → Option (Option Dt)
  | .dt es, .tup ks => (kysD ks).map (valD es)
  | .dk es, d => (kyD d).map (valD es)
  | _, _ => none
section
variable {K : PySem.W.Frag} {av : Addr → Prop} {H : Hp}
theorem look_okD {x y : V} {dx dy : Dt} {r : Option Dt} (rx : Rep K av H x dx) (hy : Rep K av H y dy) (h : lookD dx dy = some r) : ∃ a o, x = .ref a ∧ IsD H a ∧ DGet H a y o ∧ Fnd K av H o r := by
  unfold lookD at h
  split at h
  · obtain ⟨a, kvs, rfl, na, h1, h2, h3⟩ := rx.dt_inv
    obtain ⟨o, g, fn⟩ := look_ok (c := .t _) (r := r) h1 ⟨h2, h3⟩ hy (by exact h)
    exact ⟨a, o, rfl, .inr ⟨kvs, h1⟩, g, fn⟩
  · obtain ⟨a, kvs, rfl, na, h1, h2, h3⟩ := rx.dk_inv
    obtain ⟨o, g, fn⟩ := look_ok (c := .k _) (r := r) h1 ⟨h2, h3⟩ hy (by cases dy <;> exact h)
    exact ⟨a, o, rfl, .inl ⟨kvs, h1⟩, g, fn⟩
  · cases h
end
/-- a dict, by its kind -/
def isDic : Dt → Bool
  | .dt _ => true
  | .dk _ => true
  | _ => false
theorem look_dic {d y : Dt} {r : Option Dt} (h : lookD d y = some r) : isDic d = true := by
  unfold lookD at h
  split at h
  · rfl
  · rfl
  · cases h
theorem dic_at {K : PySem.W.Frag} {av : Addr → Prop} {H : Hp} {x : V} {d : Dt} (r : Rep K av H x d) (h : isDic d = true) : ∃ a, x = .ref a ∧ IsD H a := by
  cases r with
  | dk na h1 l f => exact ⟨_, rfl, .inl ⟨_, h1⟩⟩
  | dt na h1 l f => exact ⟨_, rfl, .inr ⟨_, h1⟩⟩
  | _ => cases h
section
variable {ι : Type} {K : PySem.W.Frag} {X : ι → Cx} {z : Bool} {pos pos' p2 apos cpos : Pos} {a b c e f o : Expr} {ea eb ed : EvE}
/-- d.get(y, w) -/
def dGet2 (ed ea eb : EvE) : EvE := fun δ Q => ed δ fun d => isDic d = true ∧ ea δ fun y => eb δ fun w => ∃ r, lookD d y = some r ∧ Q (r.getD w)
theorem de_get2 (hd : DE z K X o ed) (ha : DE z K X e ea) (hb : DE z K X f eb) (hu : ∀ j, (X j).A.units + 1 < cLine) (hm : ∀ j, M2 (X j) o "get" apos e f cpos := by intro _; exact ⟨rfl, rfl, rfl, rfl⟩) : DE z K X (.Call (.Attribute o "get" apos) [e, f] [] cpos) (dGet2 ed ea eb) := by
  obtain ⟨td, pd, vd⟩ := hd
  obtain ⟨ta, pa, va⟩ := ha
  obtain ⟨tb, pb, vb⟩ := hb
  refine ⟨_, fun j => pe_dget2 (hu j) (pd j) (pa j) (pb j) (hm j), fun C σ δ H Q Qd k s e q => ?_⟩
  subst k
  refine vd C σ δ H _ _ rfl s e fun x dx H1 e1 r1 e => ?_
  obtain ⟨hdc, e⟩ := e
  obtain ⟨p, rfl, isd⟩ := dic_at r1 hdc
  refine ⟨p, rfl, isd, va C σ δ H1 _ _ rfl (s.step e1) e fun y dy H2 e2 r2 e => ?_⟩
  refine vb C σ δ H2 _ _ rfl ((s.step e1).step e2) e fun w dw H3 e3 r3 e => ?_
  obtain ⟨r, hr, e⟩ := e
  have s2 := (s.step e1).step e2
  have r1' := rep_st s2 e3 (rep_st (s.step e1) e2 r1)
  have r2' := rep_st s2 e3 r2
  obtain ⟨p', o, hp, _, g, fn⟩ := look_okD r1' r2' hr
  cases hp
  refine ⟨o, g, ?_⟩
  cases r with
  | none =>
    rw [show o = none from fn]
    exact q _ _ H3 ((e1.trans e2).trans e3) r3 e
  | some d =>
    obtain ⟨v, rfl, rv⟩ := fn
    exact q _ _ H3 ((e1.trans e2).trans e3) rv e
/-- y in d, y not in d -/
def dInD (neg : Bool) (ea ed : EvE) : EvE := fun δ Q => ea δ fun y => ed δ fun d => ∃ r, lookD d y = some r ∧ Q (.bl (if neg then !r.isSome else r.isSome))
theorem ve_inD {ty td : TE} (v : VE z K ty ea) (v2 : VE z K td ed) : VE z K (tDIn ty td) (dInD false ea ed) := by
  intro C σ δ H Q Qd k s e q
  subst k
  refine v C σ δ H _ _ rfl s e fun y dy H1 e1 r1 e => ?_
  refine v2 C σ δ H1 _ _ rfl (s.step e1) e fun x dx H2 e2 r2 e => ?_
  obtain ⟨r, hr, e⟩ := e
  obtain ⟨p, o, rfl, _, g, fn⟩ := look_okD r2 (rep_st (s.step e1) e2 r1) hr
  exact ⟨p, o, rfl, g, q _ _ H2 (e1.trans e2) (.bl _) (by rw [fnd_some fn]; exact e)⟩
theorem ve_notinD {ty td : TE} (v : VE z K ty ea) (v2 : VE z K td ed) : VE z K (tDNotIn ty td) (dInD true ea ed) := by
  intro C σ δ H Q Qd k s e q
  subst k
  refine v C σ δ H _ _ rfl s e fun y dy H1 e1 r1 e => ?_
  refine v2 C σ δ H1 _ _ rfl (s.step e1) e fun x dx H2 e2 r2 e => ?_
  obtain ⟨r, hr, e⟩ := e
  obtain ⟨p, o, rfl, _, g, fn⟩ := look_okD r2 (rep_st (s.step e1) e2 r1) hr
  exact ⟨p, o, rfl, g, q _ _ H2 (e1.trans e2) (.bl _) (by rw [fnd_some fn]; exact e)⟩
theorem de_inD (ha : DE z K X a ea) (hd : DE z K X b ed) (hu : ∀ j, (X j).A.units + 1 < cLine) (hm : behindInMarks .In b = false := by rfl) : DE z K X (.Compare a [.In] [b] pos) (dInD false ea ed) := by
  obtain ⟨t, pa, v⟩ := ha
  obtain ⟨t2, pb, v2⟩ := hd
  exact ⟨_, fun j => pe_cmp (pc_din (hu j) (pa j) (pb j)) hm, ve_inD v v2⟩
theorem de_notinD (ha : DE z K X a ea) (hd : DE z K X b ed) (hu : ∀ j, (X j).A.units + 1 < cLine) (hm : behindInMarks .NotIn b = false := by rfl) : DE z K X (.Compare a [.NotIn] [b] pos) (dInD true ea ed) := by
  obtain ⟨t, pa, v⟩ := ha
  obtain ⟨t2, pb, v2⟩ := hd
  exact ⟨_, fun j => pe_cmp (pc_dnotin (hu j) (pa j) (pb j)) hm, ve_notinD v v2⟩
theorem dt_inD (ha : DE false K X a ea) (hd : DE false K X b ed) (hu : ∀ j, (X j).A.units + 1 < cLine) (hm : behindInMarks .In b = false := by rfl) : DT K X (.Compare a [.In] [b] pos) (dTst (dInD false ea ed)) := by
  obtain ⟨t, pa, v⟩ := ha
  obtain ⟨t2, pb, v2⟩ := hd
  exact ⟨_, fun j => pt_cmp (pc_din (hu j) (pa j) (pb j)) hm, vt_b (ve_inD v v2)⟩
theorem dt_notinD (ha : DE false K X a ea) (hd : DE false K X b ed) (hu : ∀ j, (X j).A.units + 1 < cLine) (hm : behindInMarks .NotIn b = false := by rfl) : DT K X (.Compare a [.NotIn] [b] pos) (dTst (dInD true ea ed)) := by
  obtain ⟨t, pa, v⟩ := ha
  obtain ⟨t2, pb, v2⟩ := hd
  exact ⟨_, fun j => pt_cmp (pc_dnotin (hu j) (pa j) (pb j)) hm, vt_b (ve_notinD v v2)⟩
/-- d[y] -/
def dIxD (ed ea : EvE) : EvE := fun δ Q => ed δ fun d => isDic d = true ∧ ea δ fun y => ∃ r, lookD d y = some (some r) ∧ Q r
theorem de_ixD (hd : DE z K X o ed) (ha : DE z K X a ea) (hs : NoSl a) (hu : ∀ j, (X j).A.units + 1 < cLine) : DE z K X (.Subscript o a pos) (dIxD ed ea) := by
  obtain ⟨td, pd, vd⟩ := hd
  obtain ⟨t, pa, v⟩ := ha
  refine ⟨_, fun j => pe_dget (hu j) (pd j) (pa j) hs, fun C σ δ H Q Qd k s e q => ?_⟩
  subst k
  refine vd C σ δ H _ _ rfl s e fun x dx H1 e1 r1 e => ?_
  obtain ⟨hdc, e⟩ := e
  refine v C σ δ H1 _ _ rfl (s.step e1) e fun y dy H2 e2 r2 e => ?_
  obtain ⟨r, hr, e⟩ := e
  obtain ⟨p, o, rfl, _, g, w, rfl, rw'⟩ := look_okD (rep_st (s.step e1) e2 r1) r2 hr
  exact ⟨p, w, rfl, g, q _ _ H2 (e1.trans e2) rw' e⟩
/-- sorted(set(xs)), xs a list of ints -/
def dSrtSet (ea : EvE) : EvE := fun δ Q => ea δ fun d => ∃ ns : List Int, d = .lst (ns.map .int) ∧ ns.length + 1 < scanBound ∧ ∀ ms : List Int, ms.Pairwise (· < ·) → (∀ k, k ∈ ms ↔ k ∈ ns) → Q (.lst (ms.map .int))
theorem de_sortSet {p p3 : Pos} (ha : DE z K X e ea) (hg : ∀ i, Gl (X i) "sorted") (hm : ∀ i, (X i).mg "sorted" = none) (hg2 : ∀ i, Gl (X i) "set") (hm2 : ∀ i, (X i).mg "set" = none)
    (hs : ∀ i, starEach [e] (X i).env = (false, eval e (X i).env) :: starEach [] (X i).env := by intro _; rfl) (hpl : ∀ i, (backTo cpos (starEach [] (X i).env)).any (·.1) = false := by intro _; rfl)
    (hs2 : ∀ i, starEach [.Call (.Name "set" p3) [e] [] cpos] (X i).env = (false, eval (.Call (.Name "set" p3) [e] [] cpos) (X i).env) :: starEach [] (X i).env := by intro _; rfl) (hpl2 : ∀ i, (backTo pos (starEach [] (X i).env)).any (·.1) = false := by intro _; rfl) (hK : ∀ i, (X i).K = K := by intro _; rfl) (hc : ∀ i, (X i).calm = true := by intro _; rfl) (w : World) (hw : ∀ i, (X i).w = w := by intro _; rfl) :
    DE z K X (.Call (.Name "sorted" p) [.Call (.Name "set" p3) [e] [] cpos] [] pos) (dSrtSet ea) := by
  obtain ⟨t, pa, v⟩ := ha
  refine ⟨tCB (StO.rSortS w) (tCons (tCB (StO.rSetI K w) (tCons t tNil)) tNil), fun i => hK i ▸ hw i ▸ pe_callB (StO.cr_sortS (hc i)) (hg i) (hm i) (by decide +kernel) (pa_cons (pe_callTy (StO.cr_setI (hc i)) (hg2 i) (hm2 i) (by decide +kernel) (pa_cons (pa i) pa_nil (hs i)) (he := hs i) (hpl := hpl i)) pa_nil (hs2 i)) (he := hs2 i) (hpl := hpl2 i), fun C σ δ H Q Qd k s e q => ?_⟩
  subst k
  refine v C σ δ H _ _ rfl s e fun x d H1 e1 r e => ?_
  obtain ⟨ns, rfl, hb, e⟩ := e
  obtain ⟨l, xs, rfl, hx, lx⟩ := r.lst_inv
  rw [repl_ints lx] at hx
  refine ⟨l, ns, rfl, hx.sq, hb, fun p n hp hn => ⟨p, _, n, rfl, upd_same, ?_, fun ms r h1 h2 hr => ?_⟩⟩
  · have : scanBound ≤ sizeLine := by decide
    omega
  · have n1 := Stp.new (S := C.S) (o := SetO w p (fun j => decide (j ∈ ns)) n) hp
    have n2 := Stp.new (S := C.S) (o := HO.lst (ms.map V.int)) hr
    exact q _ _ _ ((e1.trans n1).trans n2) (rep_newL (((s.step e1).step n1).al) hr (repl_of_ints ms)) (e ms h1 fun k => by rw [h2 k]; exact decide_eq_true_iff)
end
/-! ### sorted(d), d a dict by pairs of ints -/
def pD (k : Int × Int) : Dt := .tup [.int k.1, .int k.2]
def dSrtDP (ds : List Dt) (Q : Dt → Prop) : Prop := ∃ es : List ((Int × Int) × Dt), ds = [.dt (es.map fun e => (StO.kP e.1, e.2))] ∧ es.length ≤ sizeLine ∧ ∀ ks : List (Int × Int), ks.Perm (es.map (·.1)) → ks.Pairwise (fun x y => SrtO.lexB y x = false) → Q (.lst (ks.map pD))
section
variable {K : PySem.W.Frag} {X : Cx}
theorem rep_pairs {av : Addr → Prop} {H : Hp} (al : Al av H) : ∀ L : List (Addr × Int × Int), (∀ q ∈ L, H q.1 = some (.tup [.int q.2.1, .int q.2.2])) → RepL K av H (L.map fun q => V.ref q.1) ((L.map (·.2)).map pD)
  | [], _ => .nil
  | q :: L, h => by
    have h1 := h q (List.mem_cons_self ..)
    exact .cons (.tup ⟨al.nTup h1, h1⟩ rfl (RepL.cons (.int _) (.cons (.int _) .nil)).f) (rep_pairs al L fun r hr => h r (List.mem_cons_of_mem _ hr))
theorem rc_sortDP : RcOk K StO.rSortDP dSrtDP := fun av H xs ds Q Qd al r d q => by
  obtain ⟨es, rfl, hz, d⟩ := d
  obtain ⟨x, rfl, rr⟩ := repl1 r
  obtain ⟨a, kvs, rfl, na, h1, h2, h3⟩ := rr.dt_inv
  refine ⟨a, kvs, es.map (·.1), rfl, h1, by rw [h2, List.map_map, List.map_map]; rfl, by rw [List.length_map]; exact hz, fun L p pm hL pw hp => ?_⟩
  exact q _ _ _ (same_new hp) (rep_newL al hp (rep_pairs al L hL)) (d _ pm pw)
/-! ### xs.count(y) -/
def rCountD (K : PySem.W.Frag) : V → List V → Hp → VK → Prop := fun x xs H Q => ∃ (a : Addr) (y : V) (d : PyData) (ds : List PyData), x = V.ref a ∧ xs = [y] ∧ Dp K H (V.ref a) (.list ds) ∧ Dp K H y d ∧ SeqAt.shaped (.list ds) = true ∧ SeqAt.shaped d = true ∧ Q (.int (ds.countP fun z => PyData.eqv z d : Nat)) H
theorem countP_at {α β : Type} {f : α → β} {p : β → Bool} : ∀ xs : List α, (xs.map f).countP p = xs.countP fun x => p (f x)
  | [] => rfl
  | x :: xs => by rw [List.map_cons, List.countP_cons, List.countP_cons, countP_at xs]
theorem mt_countD (hu : X.A.units + 65 < cLine) : MtR X "list.count" (rCountD X.K) := by
  intro pins s σ H x xs v us Q I rx rxs h
  obtain ⟨a, y, d, ds, rfl, rfl, hl, hy, sl, sd, q⟩ := h
  cases rx
  obtain ⟨uy, rfl, ry⟩ := rxs.one
  obtain ⟨bs, r1⟩ := Dp.reads I d y uy hy ry
  have hxs : PyData.canLayAll0 ds = true := SeqAt.canLay_of_shaped sl
  cases hl with
  | lst hs ha =>
    obtain ⟨its, rv, ⟨⟨cls, dd, data, sls⟩, n, ho, hc, hdn, hdt⟩, hlen⟩ := I.list hs
    simp only at hc hdt; subst hc hdt
    obtain ⟨as, h4⟩ := Dp.readsAll I ds _ its ha rv
    have hmap : its.map (SeqAt.readOf s.heap) = ds := SeqAt.readsAll_map ds its as hxs h4
    refine call_meets PySem.F.slot_list_count ⟨_, ho, rfl⟩ PySem.F.entry_list_count (PySem.F.args_list_count_2 _ _) (SeqAt.list_countAt a its.toArray n dd sls uy fun u => PyData.eqv (SeqAt.readOf s.heap u) d) ⟨ho, SeqAt.items_eqAt (vs := its.toArray) (show ReadsAll s.heap its.toArray.toList ds as from h4) r1 hxs (SeqAt.canLay_of_shaped sd) (room_in_shaped sd hu), ?_⟩
    refine ⟨.int (ds.countP fun z => PyData.eqv z d : Nat), H, I.tok _, ⟨s.toks, ?_⟩, q⟩
    have e : its.toArray.toList.countP (fun u => PyData.eqv (SeqAt.readOf s.heap u) d) = ds.countP fun z => PyData.eqv z d := by rw [← hmap, countP_at]
    show Value.int ((its.toArray.toList.countP fun u => PyData.eqv (SeqAt.readOf s.heap u) d : Nat) : Int) s.toks = _
    rw [e]
end
section
variable {ι : Type} {K : PySem.W.Frag} {X : ι → Cx} {z : Bool} {pos pos' p2 apos cpos : Pos} {a b c e f o : Expr} {ea eb ed : EvE}
def dCount (ea eb : EvE) : EvE := fun δ Q => ea δ fun x => match x with
  | .lst ds => eb δ fun y => shD (.lst ds) = true ∧ shD y = true ∧ Q (.int (ds.countP fun d => eqD d y : Nat))
  | _ => False
theorem countP_py {y : PyData} : ∀ ds : List Dt, (pyL ds).countP (fun z => PyData.eqv z y) = ds.countP fun d => PyData.eqv (py d) y
  | [] => by simp [pyL]
  | d :: r => by rw [pyL, List.countP_cons, List.countP_cons, countP_py r]
theorem de_count (hp : ∀ {ta tb : TE} j, PE (X j) a ta → PE (X j) b tb → PE (X j) (.Call (.Attribute a "count" apos) [b] [] cpos) (tBM (X j).K "list" (rCountD (X j).K) ta (tCons tb tNil))) (ha : DE z K X a ea) (hb : DE z K X b eb) (hK : ∀ i, (X i).K = K := by intro _; rfl) : DE z K X (.Call (.Attribute a "count" apos) [b] [] cpos) (dCount ea eb) := by
  obtain ⟨ta, pa, va⟩ := ha
  obtain ⟨tb, pb, vb⟩ := hb
  refine ⟨tBM K "list" (rCountD K) ta (tCons tb tNil), fun i => hK i ▸ hp i (pa i) (pb i), fun C σ δ H Q Qd k s e q => ?_⟩
  subst k
  refine va C σ δ H _ _ rfl s e fun x dx H1 e1 r1 e => ?_
  split at e
  · rename_i ds
    have r1' := r1
    obtain ⟨p, xs, rfl, hx, lx⟩ := r1.lst_inv
    refine ⟨.inl ⟨rfl, xs, hx.sq⟩, vb C σ δ H1 _ _ rfl (s.step e1) e fun y dy H2 e2 r2 e => ?_⟩
    obtain ⟨s1, s2, e⟩ := e
    have d1 := dp_of _ _ (sh_py s1).2 (rep_st (s.step e1) e2 r1')
    have s1' := (sh_py s1).1
    rw [py] at d1 s1'
    refine ⟨p, y, py dy, pyL ds, rfl, rfl, d1, dp_of dy y (sh_py s2).2 r2, s1', (sh_py s2).1, ?_⟩
    rw [countP_py]
    exact q _ _ H2 (e1.trans e2) (.int _) e
  · exact e.elim
/-! ### d.setdefault(k, []).append(e) -/
section
variable {κ : Type} [DecidableEq κ]
def sdE (es : List (κ × Addr × List Dt)) (k : κ) (p : Addr) : List (κ × Addr × List Dt) := if (es.any fun e => decide (e.1 = k)) = true then es else es ++ [(k, p, [])]
def apE (es : List (κ × Addr × List Dt)) (k : κ) (d : Dt) : List (κ × Addr × List Dt) := es.map fun e => if e.1 = k then (e.1, e.2.1, e.2.2 ++ [d]) else e
/-- a dict of lists, without the places -/
def stp (es : List (κ × Addr × List Dt)) : List (κ × List Dt) := es.map fun e => (e.1, e.2.2)
/-- d put behind the others of k -/
def addL (es : List (κ × List Dt)) (k : κ) (d : Dt) : List (κ × List Dt) := if (es.any fun e => decide (e.1 = k)) = true then es.map (fun e => if e.1 = k then (e.1, e.2 ++ [d]) else e) else es ++ [(k, [d])]
theorem stp_any (es : List (κ × Addr × List Dt)) (k : κ) : ((stp es).any fun e => decide (e.1 = k)) = es.any fun e => decide (e.1 = k) := by
  unfold stp
  rw [List.any_map]
  rfl
theorem stp_ap (es : List (κ × Addr × List Dt)) (k : κ) (p : Addr) (d : Dt) : stp (apE (sdE es k p) k d) = addL (stp es) k d := by
  have m : ∀ xs : List (κ × Addr × List Dt), stp (apE xs k d) = (stp xs).map fun e => if e.1 = k then (e.1, e.2 ++ [d]) else e := fun xs => by
    unfold stp apE
    rw [List.map_map, List.map_map]
    refine List.map_congr_left fun e _ => ?_
    show ((if e.1 = k then (e.1, e.2.1, e.2.2 ++ [d]) else e).1, (if e.1 = k then (e.1, e.2.1, e.2.2 ++ [d]) else e).2.2) = if e.1 = k then (e.1, e.2.2 ++ [d]) else (e.1, e.2.2)
    split <;> rfl
  unfold addL
  rw [stp_any, m]
  unfold sdE
  split
  · rfl
  · rename_i h
    have e1 : stp (es ++ [(k, p, [])]) = stp es ++ [(k, [])] := by unfold stp; rw [List.map_append]; rfl
    rw [e1, List.map_append]
    have e2 : ((stp es).map fun e => if e.1 = k then (e.1, e.2 ++ [d]) else e) = stp es := by
      conv => rhs; rw [← List.map_id (stp es)]
      refine List.map_congr_left fun e he => ?_
      rw [if_neg]
      · rfl
      · intro z
        refine h ?_
        rw [← stp_any]
        exact List.any_eq_true.mpr ⟨e, he, decide_eq_true z⟩
    rw [e2]
    show stp es ++ [if k = k then (k, [] ++ [d]) else (k, [])] = _
    rw [if_pos rfl]
    rfl
theorem apE_inn (es : List (κ × Addr × List Dt)) (k : κ) (d : Dt) : (apE es k d).map (fun e => e.2.1) = es.map fun e => e.2.1 := by
  unfold apE
  rw [List.map_map]
  refine List.map_congr_left fun e _ => ?_
  show (if e.1 = k then (e.1, e.2.1, e.2.2 ++ [d]) else e).2.1 = e.2.1
  split <;> rfl
theorem apE_ks (es : List (κ × Addr × List Dt)) (k : κ) (d : Dt) : (apE es k d).map (fun e => e.1) = es.map fun e => e.1 := by
  unfold apE
  rw [List.map_map]
  refine List.map_congr_left fun e _ => ?_
  show (if e.1 = k then (e.1, e.2.1, e.2.2 ++ [d]) else e).1 = e.1
  split <;> rfl
theorem any_ks {es : List (κ × Addr × List Dt)} {k : κ} (h : (es.any fun e => decide (e.1 = k)) = false) : k ∉ es.map fun e => e.1 := fun m => by
  obtain ⟨e, he, z⟩ := List.mem_map.mp m
  have := List.any_eq_false.mp h e he
  simp [z] at this
theorem nodup_in {α β : Type} {f : α → β} : ∀ {xs : List α}, (xs.map f).Nodup → ∀ x, x ∈ xs → ∀ y, y ∈ xs → f x = f y → x = y
  | [], _, x, hx, _, _, _ => by cases hx
  | a :: xs, h, x, hx, y, hy, e => by
    rw [List.map_cons, List.nodup_cons] at h
    rcases List.mem_cons.mp hx with h1 | h1 <;> rcases List.mem_cons.mp hy with h2 | h2
    · rw [h1, h2]
    · rw [h1] at e
      exact absurd (show f a ∈ xs.map f from e.symm ▸ List.mem_map_of_mem h2) h.1
    · rw [h2] at e
      exact absurd (show f a ∈ xs.map f from e ▸ List.mem_map_of_mem h1) h.1
    · exact nodup_in h.2 x h1 y h2 e
/-- a new empty list at p -/
theorem OLs.new {K : PySem.W.Frag} {Z Z' : Addr → Prop} {H H' : Hp} {kvs : List (κ × V)} {es : List (κ × Addr × List Dt)} (h : OLs K Z H kvs es) {k : κ} {p : Addr} (hk : (es.any fun e => decide (e.1 = k)) = false) (np : H p = none) (hp : H' p = some (.lst [])) (keep : ∀ b o, ¬ Z b → H b = some o → H' b = some o) (m : ∀ b, Z' b → Z b ∨ H b = none) (ki : ∀ b : Addr, b ∈ (es.map fun e => e.2.1) → ∀ o, H b = some o → H' b = some o) : OLs K Z' H' (kvs ++ [(k, .ref p)]) (es ++ [(k, p, [])]) := by
  refine ⟨by rw [h.ks, List.map_append]; rfl, ?_, ?_, fun e he => ?_⟩
  · rw [List.map_append, List.nodup_append]
    refine ⟨h.nd, by simp, fun b hb c hc z => ?_⟩
    obtain ⟨e, he, rfl⟩ := List.mem_map.mp hb
    obtain ⟨xs, h1, _⟩ := h.ls e he
    have : c = p := by simpa using hc
    rw [z, this, np] at h1
    cases h1
  · rw [List.map_append, List.nodup_append]
    refine ⟨h.kd, by simp, fun b hb c hc z => ?_⟩
    have : c = k := by simpa using hc
    rw [z, this] at hb
    exact any_ks hk hb
  · rcases List.mem_append.mp he with he | he
    · obtain ⟨xs, h1, h2⟩ := h.ls e he
      exact ⟨xs, ki _ (List.mem_map.mpr ⟨e, he, rfl⟩) _ h1, h2.move keep m⟩
    · rw [List.mem_singleton] at he
      subst he
      exact ⟨[], hp, .nil⟩
/-- one more at the end of k's list -/
theorem OLs.app {K : PySem.W.Frag} {Z : Addr → Prop} {H : Hp} {kvs : List (κ × V)} {es : List (κ × Addr × List Dt)} (h : OLs K Z H kvs es) {e0 : κ × Addr × List Dt} (he0 : e0 ∈ es) {xs : List V} (hb : H e0.2.1 = some (.lst xs)) {y : V} {d : Dt} (r : Rep K Z H y d) (zb : ∀ b : Addr, b ∈ (es.map fun e => e.2.1) → Z b) : OLs K Z (upd H e0.2.1 (.lst (xs ++ [y]))) kvs (apE es e0.1 d) := by
  have k : ∀ b o, ¬ Z b → H b = some o → upd H e0.2.1 (.lst (xs ++ [y])) b = some o := fun b o n x => by
    rw [upd_ne (fun (z : b = e0.2.1) => n (by rw [z]; exact zb _ (List.mem_map.mpr ⟨e0, he0, rfl⟩)))]
    exact x
  refine ⟨?_, by rw [apE_inn]; exact h.nd, by rw [apE_ks]; exact h.kd, fun e he => ?_⟩
  · rw [h.ks]
    unfold apE
    rw [List.map_map]
    refine List.map_congr_left fun e _ => ?_
    show (e.1, V.ref e.2.1) = ((if e.1 = e0.1 then (e.1, e.2.1, e.2.2 ++ [d]) else e).1, V.ref (if e.1 = e0.1 then (e.1, e.2.1, e.2.2 ++ [d]) else e).2.1)
    split <;> rfl
  · unfold apE at he
    obtain ⟨e1, he1, rfl⟩ := List.mem_map.mp he
    by_cases hk : e1.1 = e0.1
    · have e2 : e1 = e0 := nodup_in h.kd e1 he1 e0 he0 hk
      rw [if_pos hk, e2]
      obtain ⟨ys, h1, h2⟩ := h.ls e0 he0
      rw [hb] at h1
      cases h1
      exact ⟨xs ++ [y], upd_same, (h2.move k fun _ z => .inl z).append (.cons (r.move k fun _ z => .inl z) .nil)⟩
    · rw [if_neg hk]
      obtain ⟨ys, h1, h2⟩ := h.ls e1 he1
      refine ⟨ys, ?_, h2.move k fun _ z => .inl z⟩
      rw [upd_ne (fun (z : e1.2.1 = e0.2.1) => hk (by rw [nodup_in h.nd e1 he1 e0 he0 z]))]
      exact h1
end
/-- the statement -/
def dSdA (i : Nat) (ek ee : EvE) : EvS := fun D δ => match δ[i]? with
  | some (.own a (.kl es)) => ek δ fun y => ∃ k, kyD y = some k ∧ es.length < sizeLine ∧ ∀ p, ee (δ.set i (.own a (.kl (sdE es k p)))) fun d => (∀ e, e ∈ sdE es k p → e.2.2.length < sizeLine) ∧ D.nx (δ.set i (.own a (.kl (apE (sdE es k p) k d))))
  | _ => False
theorem set_same {α : Type} {xs : List α} {i : Nat} {x : α} (h : xs[i]? = some x) : xs.set i x = xs := by
  obtain ⟨hi, e⟩ := List.getElem?_eq_some_iff.mp h
  rw [← e, List.set_getElem_self]
theorem inn_zd {C : Ctx} {δ : List Sl} {i : Nat} {a : Addr} {c : Oc} (h : δ[i]? = some (.own a c)) {b : Addr} (hb : (Sl.own a c).at b) : Zd C δ b := .inr ⟨_, List.mem_iff_getElem?.mpr ⟨i, h⟩, hb⟩
theorem ds_sdA {i : Nat} {x : Str} {p3 lp ap2 cp2 : Pos} (px : ∀ j, PE (X j) (.Name x p3) (tVar i))
    (hp : ∀ {to te : TE} j, PE (X j) (.Call (.Attribute (.Name x p3) "setdefault" ap2) [b, .List [] lp] [] cp2) to → PE (X j) e te → PS (X j) (.Expr (.Call (.Attribute (.Call (.Attribute (.Name x p3) "setdefault" ap2) [b, .List [] lp] [] cp2) "append" apos) [e] [] cpos) pos) (tDrop (tBM (X j).K "list" rAppend to (tCons te tNil))))
    (hb : DE true K X b ea) (he : DE true K X e eb) (hm : ∀ j, M2 (X j) (.Name x p3) "setdefault" ap2 b (.List [] lp) cp2 := by intro _; exact ⟨rfl, rfl, rfl, rfl⟩) (hK : ∀ i, (X i).K = K := by intro _; rfl) :
    DS K X (.Expr (.Call (.Attribute (.Call (.Attribute (.Name x p3) "setdefault" ap2) [b, .List [] lp] [] cp2) "append" apos) [e] [] cpos) pos) (dSdA i ea eb) := by
  obtain ⟨tk, pk, vk⟩ := hb
  obtain ⟨t, p, v⟩ := he
  refine ⟨tDrop (tBM K "list" rAppend (tDSetd (tVar i) tk (tLst tNil)) (tCons t tNil)), fun j => hK j ▸ hp j (pe_dsetd (px j) (pk j) (pe_lst pa_nil) (hm j)) (p j), fun C σ δ H D Dd k s e q => ?_⟩
  subst k
  unfold dSdA at e
  split at e
  · rename_i a es h
    obtain ⟨h1, _, h3, u, h5, h6⟩ := s.sl i _ h
    obtain ⟨kvs0, rfl, ol0⟩ := h6.kls
    refine ⟨.ref a, h1, a, rfl, .inl ⟨kvs0, .inl h5⟩, vk C σ δ H _ _ rfl s e fun y dy H1 e1 r1 e => ?_⟩
    obtain ⟨k, hk, hz, e⟩ := e
    have s1 := s.step e1
    refine ⟨Nat.zero_le _, fun p np => ?_⟩
    have e2 : Stp C.S H1 (upd H1 p (.lst [])) := Stp.new np
    have s2 := s1.step e2
    obtain ⟨_, _, _, u, g5, g6⟩ := s2.sl i _ h
    obtain ⟨kvs, rfl, ol⟩ := g6.kls
    have hl : kvs.length = es.length := by rw [ol.ks, List.length_map]
    have ey : y = kV k := rep_ky r1 hk
    -- the list that is told, and the state behind
    have go : ∀ (H2 : Hp) (b : Addr), (∃ ds, (k, b, ds) ∈ sdE es k p) → Sok C H2 σ (δ.set i (.own a (.kl (sdE es k p)))) → tyV C.K "list" (.ref b) H2 ∧ tCons t tNil σ H2 fun xs H3 => rAppend (.ref b) xs H3 fun _ H4 => D.nx σ H4 := by
      rintro H2 b ⟨ds, hin⟩ s3
      have hi : i < δ.length := own_lt s h
      have hat : (δ.set i (.own a (.kl (sdE es k p))))[i]? = some (.own a (.kl (sdE es k p))) := List.getElem?_set_self hi
      obtain ⟨_, _, _, u3, g7, g8⟩ := s3.sl i _ hat
      obtain ⟨kvs3, rfl, ol3⟩ := g8.kls
      obtain ⟨xs3, hx3, _⟩ := ol3.ls _ hin
      refine ⟨.inl ⟨rfl, xs3, SqL.of hx3⟩, v C σ _ H2 _ _ rfl s3 (e p) fun w d H3 e3 r3 e => ?_⟩
      obtain ⟨hsz, e⟩ := e
      have s4 := s3.step e3
      obtain ⟨_, _, _, u4, g9, g10⟩ := s4.sl i _ hat
      obtain ⟨kvs4, rfl, ol4⟩ := g10.kls
      obtain ⟨xs4, hx4, rl4⟩ := ol4.ls _ hin
      have nb : a ≠ b := fun z => by
        rw [← z] at hx4
        have := g9.symm.trans hx4
        cases this
      refine ⟨b, xs4, w, rfl, rfl, hx4, by rw [rl4.l]; exact hsz _ hin, q.nx σ _ _ ?_ e⟩
      have o5 := ol4.app hin hx4 r3 fun c hc => inn_zd hat (.inr hc)
      have s5 := s4.upG (es := .kl (apE (sdE es k p) k d)) (H' := upd H3 b (.lst (xs4 ++ [w]))) (ys := .dK kvs4) hat (fun c o n x => by
        rw [upd_ne (fun (z : c = b) => n (.inr (List.mem_map.mpr ⟨_, hin, z.symm⟩)))]
        exact x) (by rw [upd_ne nb]; exact g9) ?_ (fun c hc => .inl (show c ∈ (sdE es k p).map fun e => e.2.1 from by rw [← apE_inn (sdE es k p) k d]; exact hc))
      · rw [List.set_set] at s5
        exact s5
      · refine (ORep.mono (av := Zd C (δ.set i (.own a (.kl (sdE es k p))))) (show ORep C.K _ _ (.dK kvs4) (.kl _) from o5) fun c z => z.elim id fun z => ?_)
        have z : c ∈ (apE (sdE es k p) k d).map fun e => e.2.1 := z
        rw [apE_inn] at z
        exact inn_zd hat (.inr z)
    refine ⟨kvs, k, g5, ey, by rw [hl]; exact hz, fun w hw => ?_, fun hw => ?_⟩
    · have hmem : ∃ e ∈ es, e.1 = k ∧ w = .ref e.2.1 := by
        rw [ol.ks] at hw
        unfold valV at hw
        rw [List.find?_map, Option.map_map] at hw
        obtain ⟨e0, h0, rfl⟩ := Option.map_eq_some_iff.mp hw
        have h2 := List.find?_some h0
        exact ⟨e0, List.mem_of_find?_eq_some h0, by simpa using h2, rfl⟩
      obtain ⟨e0, he0, rfl, rfl⟩ := hmem
      have es1 : sdE es e0.1 p = es := by
        unfold sdE
        rw [if_pos (List.any_eq_true.mpr ⟨e0, he0, decide_eq_true rfl⟩)]
      refine go _ e0.2.1 ⟨e0.2.2, by rw [es1]; exact he0⟩ ?_
      rw [es1, set_same h]
      exact s2
    · have ha : (es.any fun e => decide (e.1 = k)) = false := by
        cases q0 : es.any fun e => decide (e.1 = k) with
        | false => rfl
        | true =>
          obtain ⟨e0, he0, z⟩ := List.any_eq_true.mp q0
          have z := of_decide_eq_true z
          rw [ol.ks] at hw
          unfold valV at hw
          rw [List.find?_map, Option.map_map, Option.map_eq_none_iff, List.find?_eq_none] at hw
          exact absurd (decide_eq_true z) (by simpa using hw e0 he0)
      have es1 : sdE es k p = es ++ [(k, p, [])] := by
        unfold sdE
        rw [if_neg (by rw [ha]; exact Bool.noConfusion)]
      have pk1 : putK kvs k (.ref p) = kvs ++ [(k, .ref p)] := putK_new _ hw
      refine go _ p ⟨[], by rw [es1]; simp⟩ ?_
      rw [es1, pk1]
      have npa : p ≠ a := fun z => by
        obtain ⟨_, _, _, u9, z5, _⟩ := s1.sl i _ h
        rw [← z, np] at z5
        cases z5
      have s1c := s1
      obtain ⟨_, _, _, u9, z5, z6⟩ := s1.sl i _ h
      obtain ⟨kvs9, rfl, ol9⟩ := z6.kls
      have ek : kvs = kvs9 := by rw [ol.ks, ol9.ks]
      subst ek
      refine s1.upG (es := .kl (es ++ [(k, p, [])])) h (fun c o n x => ?_) upd_same (?_ : ORep _ _ _ (.dK _) (.kl _)) fun c hc => ?_
      · rw [upd_ne (fun (z : c = a) => n (.inl z.symm)), upd_ne (fun z => by rw [z, np] at x; cases x)]
        exact x
      · refine OLs.new ol9 ha np (by rw [upd_ne npa]; exact upd_same) (fun c o n x => ?_) (fun c z => ?_) fun c hc o x => ?_
        · rw [upd_ne (fun (z : c = a) => n (by rw [z]; exact inn_zd h (.inl rfl))), upd_ne (fun z => by rw [z, np] at x; cases x)]
          exact x
        · rcases z with z | z
          · exact .inl z
          · have z : c ∈ ((es ++ [(k, p, [])]).map fun (e : Key × Addr × List Dt) => e.2.1) := z
            rw [List.map_append] at z
            rcases List.mem_append.mp z with z | z
            · exact .inl (inn_zd h (.inr z))
            · have : c = p := by simpa using z
              rw [this]
              exact .inr np
        · have na : c ≠ a := fun z => by
            obtain ⟨e0, he0, z0⟩ := List.mem_map.mp hc
            obtain ⟨xs0, w0, _⟩ := ol9.ls e0 he0
            rw [z0, z] at w0
            have := z5.symm.trans w0
            cases this
          rw [upd_ne na, upd_ne (fun z => by rw [z, np] at x; cases x)]
          exact x
      · have hc : c ∈ ((es ++ [(k, p, [])]).map fun (e : Key × Addr × List Dt) => e.2.1) := hc
        rw [List.map_append] at hc
        rcases List.mem_append.mp hc with z | z
        · exact .inl z
        · have : c = p := by simpa using z
          rw [this]
          exact .inr np
  · exact e.elim
end
end Dl
set_option maxHeartbeats 4000000
namespace StO
open PySem PySem.Spec PyProof.Rows L2
section
variable {X : Cx}
/-- sorted(t), t a tuple of ints -/
def rSortTI (K : PySem.W.Frag) : List V → Hp → VK → Prop := fun vs H Q => ∃ (a : Addr) (ns : List Int), vs = [V.ref a] ∧ SqT K H a (ns.map V.int) ∧ ∀ (ms : List Int) (p : Addr), ms.Perm ns → ms.Pairwise (· ≤ ·) → H p = none → Q (.ref p) (upd H p (.lst (ms.map V.int)))
theorem cr_sortTI : CallR X (.builtin "sorted") (rSortTI X.K) := by
  intro pins s σ H vs us Q I r h
  obtain ⟨a, ns, rfl, hs, q⟩ := h
  rw [Vals.ref1 r]
  obtain ⟨its, rv, ⟨o, ho, hc, n, hd⟩, hz⟩ := I.tuple hs
  have hI := rv.ints
  have hz' : its.length ≤ sizeLine := by rw [← rv.length]; exact hz
  refine Calls.call_function_entry kind_sorted plain_sorted entry_sorted (args_sorted1 _) ?_; unfold Builtin.«sorted»
  refine wpAny_bind (m := checkCount "sorted" 1 1 _) (wpAny_pure (wpAny_bind (wpAny_collect_seq a (.inr rfl) ho hc hd (fun h' kp => ?_) (by rw [List.size_toArray]; exact hz'))))
  have I1 : Inv X pins σ H { s with heap := h' } := I.kept (t' := s.toks) kp
  rw [List.toList_toArray]
  refine wpAny_bind (wpAny_newList ?_ hz')
  have hoL : (h'.push (seqObj "list" its.toArray 0)).get? h'.objs.size = some (seqObj "list" its.toArray 0) := Heap.get?_push_size _ rfl
  show wpAny _ _ _ _ _ { s with heap := h'.push (seqObj "list" its.toArray 0) }
  refine wpAny_bind (wpAny_holding (wpAny_call_entry slot_list_sort ⟨_, hoL, rfl⟩ entry_list_sort (SrtO.list_sort_ord SrtO.swo_int hoL hz' (fun h2 => SrtO.ints_sortable hI h2) fun out a1 a2 => ⟨_, rfl, ?_⟩) (args_list_sort _)))
  obtain ⟨c1, c2, c3⟩ := SrtO.ints_out hI a1 a2
  obtain ⟨e', he'⟩ := sortedHeap_at (vs := its) (out := out.toArray) hoL
  have hlen : ((out.map SrtO.iv).map V.int).length ≤ sizeLine := by rw [List.length_map, c2.length_eq]; rw [List.length_map] at hz; exact hz
  refine wpAny_pure ⟨_, rfl, .ref h'.objs.size, upd H h'.objs.size (.lst ((out.map SrtO.iv).map V.int)), I1.laid (t' := s.toks) (fun b u e => ?_) (Nat.le_refl _) (show ObjOk X.prog X.w _ _ _ (.lst ((out.map SrtO.iv).map V.int)) from ⟨hlen, out, e', vals_of_ints c1, he'⟩), rfl, q _ _ c2 c3 (I1.hok.fresh (Nat.le_refl _))⟩
  have hb : b < h'.objs.size := Heap.lt_size e
  rw [sortedHeap_old (Nat.ne_of_lt hb) (by rw [size_push']; exact Nat.lt_succ_of_lt hb)]; exact Heap.get?_push_of_some _ e
end
end StO
set_option maxHeartbeats 1000000
/-! several names assigned at once, own lists among them -/
namespace Dl
open PySem PySem.Spec PyProof.Rows L2 Lcn Sq
inductive Nw where
  | v (d : Dt) | o (ds : List Dt)
inductive Got (K : PySem.W.Frag) (Z : Addr → Prop) (H : Hp) : List V → List Nw → List Addr → Prop
  | nil : Got K Z H [] [] []
  | v {x : V} {d : Dt} {vs : List V} {ns : List Nw} {ps : List Addr} (r : Rep K Z H x d) (t : Got K Z H vs ns ps) : Got K Z H (x :: vs) (.v d :: ns) ps
  | o {p : Addr} {xs : List V} {ds : List Dt} {vs : List V} {ns : List Nw} {ps : List Addr} (h : H p = some (.lst xs)) (r : RepL K Z H xs ds) (t : Got K Z H vs ns ps) : Got K Z H (.ref p :: vs) (.o ds :: ns) (p :: ps)
def Ctx.plusL (C : Ctx) (ps : List Addr) : Ctx := { C with av := fun b => C.av b ∨ b ∈ ps }
section
variable {C : Ctx} {H H' : Hp} {σ : L2.St} {δ : List Sl}
theorem zd_plusL {ps : List Addr} {b : Addr} : Zd (C.plusL ps) δ b ↔ Zd C δ b ∨ b ∈ ps := by
  unfold Zd Ctx.plusL
  constructor
  · rintro ((h | h) | h)
    · exact .inl (.inl h)
    · exact .inr h
    · exact .inl (.inr h)
  · rintro ((h | h) | h)
    · exact .inl (.inl h)
    · exact .inr h
    · exact .inl (.inr h)
theorem plusL_nil : C.plusL [] = C := by
  unfold Ctx.plusL
  have : (fun b => C.av b ∨ b ∈ ([] : List Addr)) = C.av := by
    funext b
    simp
  rw [this]
theorem plus_plusL {p : Addr} {ps : List Addr} : (C.plus p).plusL ps = C.plusL (p :: ps) := by
  unfold Ctx.plusL Ctx.plus
  have : (fun b => (C.av b ∨ b = p) ∨ b ∈ ps) = fun b => C.av b ∨ b ∈ p :: ps := by
    funext b
    simp [or_assoc]
  rw [this]
theorem Sok.unplus {p : Addr} {ps : List Addr} {i : Nat} {xs : List V} {ds : List Dt} (s : Sok (C.plusL (p :: ps)) H σ δ) (h0 : C.H0 p = none) (na : ¬ (C.plusL ps).av p) (hs : ∀ b, sa C.S b → C.av b) (hp : H p = some (.lst xs)) (r : RepL C.K (Zd (C.plusL (p :: ps)) δ) H xs ds) : Sok (C.plusL ps) H (σ.set i (some (.ref p))) (δ.set i (.own p (.l ds))) := by
  have up : ∀ b, (C.plusL ps).av b → (C.plusL (p :: ps)).av b := fun b z => z.imp id fun z => List.mem_cons_of_mem _ z
  have m : ∀ b, Zd (C.plusL ps) (δ.set i (.own p (.l ds))) b → Zd (C.plusL (p :: ps)) δ b := fun b z => by
    rcases zd_set z with z | z
    · exact z.imp (up b) id
    · rcases z with z | z
      · exact .inl (.inr (by rw [z]; exact List.mem_cons_self ..))
      · cases z
  have avp : (C.plusL (p :: ps)).av p := .inr (List.mem_cons_self ..)
  have old : ∀ (l : Nat) (x : Sl) (b : Addr), (δ.set i (Sl.own p (.l ds)))[l]? = some x → x.at b → (i = l ∧ x = .own p (.l ds) ∧ b = p) ∨ (i ≠ l ∧ δ[l]? = some x ∧ b ≠ p) := fun l x b h hb => by
    by_cases hl : i = l
    · subst hl
      have hi : i < δ.length := by
        rcases Nat.lt_or_ge i δ.length with z | z
        · exact z
        · rw [List.getElem?_eq_none (by simpa using z)] at h
          cases h
      rw [List.getElem?_set_self hi] at h
      cases h
      rcases hb with hb | hb
      · exact .inl ⟨rfl, rfl, hb.symm⟩
      · cases hb
    · rw [List.getElem?_set_ne hl] at h
      refine .inr ⟨hl, h, fun z => ?_⟩
      cases x with
      | own a c => exact (s.regn h hb).2.1 (by rw [z]; exact avp)
      | _ => exact hb
  refine ⟨by simp [s.len], fun j w h => ?_, fun j l x y b h1 h2 g1 g2 => ?_, fun j a c h b hb => ?_, s.g, s.st, fun b z => .inl (hs b z), fun b z => s.ava b (up b z), fun q mq => (s.gh q mq).mono m⟩
  · by_cases hj : i = j
    · subst hj
      have hi : i < δ.length := by
        rcases Nat.lt_or_ge i δ.length with z | z
        · exact z
        · rw [List.getElem?_eq_none (by simpa using z)] at h
          cases h
      rw [List.getElem?_set_self hi] at h
      cases h
      rw [List.getElem?_set_self (by rw [s.len]; exact hi)]
      exact ⟨rfl, h0, na, _, hp, r.mono m⟩
    · rw [List.getElem?_set_ne hj] at h
      rw [List.getElem?_set_ne hj]
      have q := s.sl j w h
      cases w with
      | any => trivial
      | val d =>
        obtain ⟨v, h1, h2⟩ := q
        exact ⟨v, h1, h2.mono m⟩
      | own a es =>
        obtain ⟨h1, h2, h3, ys, h5, h6⟩ := q
        exact ⟨h1, h2, fun z => h3 (up a z), ys, h5, h6.mono m⟩
      | src => exact q
      | srt T => exact q
  · rcases old j x b h1 g1 with ⟨e1, _, e3⟩ | ⟨e1, e2, e3⟩
    · rcases old l y b h2 g2 with ⟨f1, _, f3⟩ | ⟨f1, f2, f3⟩
      · rw [← e1, ← f1]
      · exact absurd e3 f3
    · rcases old l y b h2 g2 with ⟨f1, _, f3⟩ | ⟨f1, f2, f3⟩
      · exact absurd f3 e3
      · exact s.uqr j l x y b e2 f2 g1 g2
  · rcases old j _ a h (.inl rfl) with ⟨_, e2, _⟩ | ⟨_, e2, _⟩
    · cases e2
      cases hb
    · obtain ⟨q1, q2⟩ := s.inn j a c e2 b hb
      exact ⟨q1, fun z => q2 (up b z)⟩
def stV : L2.St → List Nat → List V → L2.St
  | σ, i :: is, v :: vs => stV (σ.set i (some v)) is vs
  | σ, _, _ => σ
def stN : List Sl → List Nat → List Nw → (List Sl → Prop) → Prop
  | δ, i :: is, .v d :: ns, Q => stN (δ.set i (.val d)) is ns Q
  | δ, i :: is, .o ds :: ns, Q => ∀ a, stN (δ.set i (.own a (.l ds))) is ns Q
  | δ, [], [], Q => Q δ
  | _, _, _, _ => False
theorem Got.mono {K : PySem.W.Frag} {Z Z' : Addr → Prop} {H : Hp} {vs : List V} {ns : List Nw} {ps : List Addr} (g : Got K Z H vs ns ps) (m : ∀ b, Z' b → Z b) : Got K Z' H vs ns ps := by
  induction g with
  | nil => exact .nil
  | v r _ ih => exact .v (r.mono m) ih
  | o h r _ ih => exact .o h (r.mono m) ih
theorem asg_all {Z : Addr → Prop} {Qd : List Sl → Prop} {vs : List V} {ns : List Nw} {ps : List Addr} (g : Got C.K Z H vs ns ps) : ∀ (is : List Nat) (σ : L2.St) (δ : List Sl), Sok (C.plusL ps) H σ δ → (∀ b, Zd (C.plusL ps) δ b → Z b) → (∀ p, p ∈ ps → C.H0 p = none ∧ ¬ C.av p) → ps.Nodup → (∀ b, sa C.S b → C.av b) → stN δ is ns Qd → vs.length = is.length ∧ ∃ δ', Sok C H (stV σ is vs) δ' ∧ Qd δ' := by
  induction g with
  | nil =>
    intro is σ δ s _ _ _ _ e
    rw [plusL_nil] at s
    cases is with
    | nil => exact ⟨rfl, δ, s, e⟩
    | cons => exact e.elim
  | v r _ ih =>
    intro is σ δ s m f nd hs e
    cases is with
    | nil => exact e.elim
    | cons i is =>
      obtain ⟨hl, q⟩ := ih is _ _ (s.setV (i := i) (r.mono m)) (fun b z => m b ((zd_set z).resolve_right fun z => z)) f nd hs e
      exact ⟨by rw [List.length_cons, List.length_cons, hl], q⟩
  | @o p xs ds vs ns ps h r _ ih =>
    intro is σ δ s m f nd hs e
    cases is with
    | nil => exact e.elim
    | cons i is =>
      have np := List.nodup_cons.mp nd
      obtain ⟨f1, f2⟩ := f p (List.mem_cons_self ..)
      have kk : ∀ b, Zd (C.plusL ps) (δ.set i (.own p (.l ds))) b → Zd (C.plusL (p :: ps)) δ b := fun b z => by
        rcases zd_set z with z | z
        · exact z.imp (fun z => z.imp id (List.mem_cons_of_mem _)) id
        · rcases z with z | z
          · exact .inl (.inr (by rw [z]; exact List.mem_cons_self ..))
          · cases z
      obtain ⟨hl, q⟩ := ih is _ _ (s.unplus (i := i) f1 (fun z => z.elim f2 np.1) hs h (r.mono m)) (fun b z => m b (kk b z)) (fun q hq => f q (List.mem_cons_of_mem _ hq)) np.2 hs (e p)
      exact ⟨by rw [List.length_cons, List.length_cons, hl], q⟩
end
/-! ### lists of things and of own lists -/
abbrev EvNw := List Sl → (List Nw → Prop) → Prop
def VAO (K : PySem.W.Frag) (te : TA) (ev : EvNw) : Prop := ∀ (C : Ctx) (σ : L2.St) (δ : List Sl) (H : Hp) (Q : List V → Hp → Prop) (Qd : List Nw → Prop), C.K = K → Sok C H σ δ → ev δ Qd →
  (∀ vs ns ps H', Stp C.S H H' → Sok (C.plusL ps) H' σ δ → (∀ p, p ∈ ps → H p = none) → ps.Nodup → Got K (Zd (C.plusL ps) δ) H' vs ns ps → Qd ns → Q vs H') → te σ H Q
def DAO {ι : Type} (K : PySem.W.Frag) (X : ι → Cx) (es : List Expr) (ev : EvNw) : Prop := ∃ te, (∀ i, PA (X i) es te) ∧ VAO K te ev
section
variable {ι : Type} {K : PySem.W.Frag} {X : ι → Cx} {z : Bool} {pos : Pos} {e a b c : Expr} {es : List Expr} {ea : EvE} {en : EvN} {et : EvNw}
theorem dao_nil : DAO K X [] (fun _ Q => Q []) := ⟨_, fun _ => pa_nil, fun C σ δ H Q Qd k s e q => q [] [] [] H (Stp.refl H) (by rw [plusL_nil]; exact s) (fun p h => nomatch h) .nil .nil e⟩
theorem dao_v (ha : DE true K X e ea) (hr : DAO K X es et) (hs : ∀ i, starEach (e :: es) (X i).env = (false, eval e (X i).env) :: starEach es (X i).env := by intro _; rfl) : DAO K X (e :: es) (fun δ Q => ea δ fun d => et δ fun ns => Q (.v d :: ns)) := by
  obtain ⟨t, p, v⟩ := ha
  obtain ⟨t2, p2, v2⟩ := hr
  refine ⟨_, fun i => pa_cons (p i) (p2 i) (hs i), fun C σ δ H Q Qd k s e q => ?_⟩
  subst k
  refine v C σ δ H _ _ rfl s e fun x d H1 e1 r1 e => ?_
  refine v2 C σ δ H1 _ _ rfl (s.step e1) e fun vs ns ps H2 e2 s2 f nd g e => q _ _ ps H2 (e1.trans e2) s2 (fun p hp => ?_) nd (.v ?_ g) e
  · have h1 := f p hp
    cases hq : H p with
    | none => rfl
    | some o =>
      by_cases c : ch C.S p
      · obtain ⟨o', h', _⟩ := (s.step e1).ava p (s.avs p (ch_sa c))
        rw [h1] at h'
        cases h'
      · rw [e1.keep p o c hq] at h1
        cases h1
  · refine Rep.move (av := Zd C δ) r1 (fun b o n x => e2.keep b o (fun c => n (zch s c)) x) fun b z => ?_
    rcases zd_plusL.mp z with z | z
    · exact .inl z
    · exact .inr (f b z)
theorem dao_o (ha : DN K X e en) (hr : DAO K X es et) (hs : ∀ i, starEach (e :: es) (X i).env = (false, eval e (X i).env) :: starEach es (X i).env := by intro _; rfl) : DAO K X (e :: es) (fun δ Q => en δ fun ds => et δ fun ns => Q (.o ds :: ns)) := by
  obtain ⟨t, p, v⟩ := ha
  obtain ⟨t2, p2, v2⟩ := hr
  refine ⟨_, fun i => pa_cons (p i) (p2 i) (hs i), fun C σ δ H Q Qd k s e q => ?_⟩
  subst k
  refine v C σ δ H _ _ rfl s e fun p xs ds H1 n e1 hp r e => ?_
  have nch : ¬ ch C.S p := fun c => (s.ava.na n) (s.avs p (ch_sa c))
  have sP : Sok (C.plus p) (upd H p (.lst xs)) σ δ := s.plus n
  have s1 : Sok (C.plus p) H1 σ δ := sP.plusStep (fun b o c nb x => e1.keep b o c (by rw [upd_ne nb] at x; exact x)) (e1.on s.g) (s.h0 n) ⟨_, hp, nt_lst⟩
  refine v2 (C.plus p) σ δ H1 _ _ rfl s1 e fun vs ns ps H2 e2 s2 f nd g e => q _ _ (p :: ps) H2 (e1.trans e2) (by rw [← plus_plusL]; exact s2) (fun b hb => ?_) ?_ (.o (e2.keep p _ nch hp) ?_ (by rw [← plus_plusL]; exact g)) e
  · rcases List.mem_cons.mp hb with rfl | hb
    · exact n
    · have h1 := f b hb
      cases hq : H b with
      | none => rfl
      | some o =>
        by_cases c : ch C.S b
        · obtain ⟨o', h', _⟩ := s1.ava b (.inl (s.avs b (ch_sa c)))
          rw [h1] at h'
          cases h'
        · rw [e1.keep b o c hq] at h1
          cases h1
  · refine List.nodup_cons.mpr ⟨fun m => ?_, nd⟩
    have := f p m
    rw [hp] at this
    cases this
  · refine RepL.move (av := fun b => Zd C δ b ∨ b = p) r (fun b o nz x => e2.keep b o (fun c => nz (.inl (zch s c))) x) fun b z => ?_
    rcases zd_plusL.mp z with z | z
    · exact .inl (.inl z)
    · rcases List.mem_cons.mp z with z | z
      · exact .inl (.inr z)
      · exact .inr (f b z)
theorem vao_end {te : TA} (v : VAO K te et) {C : Ctx} {σ : L2.St} {δ : List Sl} {H : Hp} {D : Ends} {Dd : DEnds} (k : C.K = K) (s : Sok C H σ δ) {is : List Nat} (e : et δ fun ns => stN δ is ns Dd.nx) (q : EndsR C D Dd) {Q : List V → Hp → Prop} (hQ : ∀ vs H', vs.length = is.length → (∀ H'', Same H' H'' → D.nx (stV σ is vs) H'') → Q vs H') : te σ H Q := by
  subst k
  refine v C σ δ H _ _ rfl s e fun vs ns ps H' e1 s1 f nd g e => ?_
  obtain ⟨hl, δ', s', e⟩ := asg_all g is σ δ s1 (fun _ z => z) (fun p hp => ⟨s.h0 (f p hp), s.ava.na (f p hp)⟩) nd s.avs e
  exact hQ vs H' hl fun H'' sm => q.nx _ _ _ (s'.step (Stp.of sm)) e
theorem ds_par2 {i j : Nat} {x y : Str} {px py pt : Pos} {kt : Nat} {k2 : Nat} {pt2 : Pos} (hp : ∀ {ta : TA} l, PA (X l) [a, b] ta → PS (X l) (.Assign [.Tuple [.Name x px, .Name y py] kt pt] (.Tuple [a, b] k2 pt2) pos) (tPar i j ta)) (h : DAO K X [a, b] et) : DS K X (.Assign [.Tuple [.Name x px, .Name y py] kt pt] (.Tuple [a, b] k2 pt2) pos) (fun D δ => et δ fun ns => stN δ [i, j] ns D.nx) := by
  obtain ⟨t, p, v⟩ := h
  refine ⟨_, fun l => hp l (p l), fun C σ δ H D Dd k s e q => vao_end v k s e q fun vs H' hl nx => ?_⟩
  match vs, hl with
  | [v, w], _ => exact ⟨v, w, rfl, nx H' (Same.refl H')⟩
theorem ds_par3 {i j l : Nat} {x y w : Str} {px py pw pt : Pos} {kt : Nat} {k2 : Nat} {pt2 : Pos} (hp : ∀ {ta : TA} m, PA (X m) [a, b, c] ta → PS (X m) (.Assign [.Tuple [.Name x px, .Name y py, .Name w pw] kt pt] (.Tuple [a, b, c] k2 pt2) pos) (tPar3 i j l ta)) (h : DAO K X [a, b, c] et) : DS K X (.Assign [.Tuple [.Name x px, .Name y py, .Name w pw] kt pt] (.Tuple [a, b, c] k2 pt2) pos) (fun D δ => et δ fun ns => stN δ [i, j, l] ns D.nx) := by
  obtain ⟨t, p, v⟩ := h
  refine ⟨_, fun l => hp l (p l), fun C σ δ H D Dd k s e q => vao_end v k s e q fun vs H' hl nx => ?_⟩
  match vs, hl with
  | [v, w, u], _ => exact ⟨v, w, u, rfl, nx H' (Same.refl H')⟩
/-- by way of a tuple -/
theorem ds_asg2 {i j : Nat} {x y : Str} {px py pt : Pos} {kt : Nat} {k2 : Nat} {pt2 : Pos} (hp : ∀ {te : TE} {g : TG} l, PE (X l) (.Tuple [a, b] k2 pt2) te → PG (X l) (.Tuple [.Name x px, .Name y py] kt pt) g → PS (X l) (.Assign [.Tuple [.Name x px, .Name y py] kt pt] (.Tuple [a, b] k2 pt2) pos) (tAsg te g))
    (hg : ∀ l, PG (X l) (.Tuple [.Name x px, .Name y py] kt pt) (gTup (X l).K 2 (gCons (gName i) (gCons (gName j) gNil)))) (h : DAO K X [a, b] et) (hK : ∀ i, (X i).K = K := by intro _; rfl) : DS K X (.Assign [.Tuple [.Name x px, .Name y py] kt pt] (.Tuple [a, b] k2 pt2) pos) (fun D δ => et δ fun ns => stN δ [i, j] ns D.nx) := by
  obtain ⟨t, p, v⟩ := h
  refine ⟨tAsg (tTup t) (gTup K 2 (gCons (gName i) (gCons (gName j) gNil))), fun l => hK l ▸ hp l (pe_tup (p l)) (hg l), fun C σ δ H D Dd k s e q => vao_end v k s e q fun vs H' hl nx => ?_⟩
  match vs, hl with
  | [v, w], _ => exact ⟨by show 2 ≤ sizeLine; decide, fun p hp => ⟨p, [v, w], rfl, SqT.of upd_same, rfl, v, [w], rfl, w, [], rfl, rfl, nx _ (same_new hp)⟩⟩
theorem ds_asg3 {i j m : Nat} {x y u : Str} {px py pu pt : Pos} {kt : Nat} {k2 : Nat} {pt2 : Pos} (hp : ∀ {te : TE} {g : TG} l, PE (X l) (.Tuple [a, b, c] k2 pt2) te → PG (X l) (.Tuple [.Name x px, .Name y py, .Name u pu] kt pt) g → PS (X l) (.Assign [.Tuple [.Name x px, .Name y py, .Name u pu] kt pt] (.Tuple [a, b, c] k2 pt2) pos) (tAsg te g))
    (hg : ∀ l, PG (X l) (.Tuple [.Name x px, .Name y py, .Name u pu] kt pt) (gTup (X l).K 3 (gCons (gName i) (gCons (gName j) (gCons (gName m) gNil))))) (h : DAO K X [a, b, c] et) (hK : ∀ i, (X i).K = K := by intro _; rfl) : DS K X (.Assign [.Tuple [.Name x px, .Name y py, .Name u pu] kt pt] (.Tuple [a, b, c] k2 pt2) pos) (fun D δ => et δ fun ns => stN δ [i, j, m] ns D.nx) := by
  obtain ⟨t, p, v⟩ := h
  refine ⟨tAsg (tTup t) (gTup K 3 (gCons (gName i) (gCons (gName j) (gCons (gName m) gNil)))), fun l => hK l ▸ hp l (pe_tup (p l)) (hg l), fun C σ δ H D Dd k s e q => vao_end v k s e q fun vs H' hl nx => ?_⟩
  match vs, hl with
  | [v, w, u], _ => exact ⟨by show 3 ≤ sizeLine; decide, fun p hp => ⟨p, [v, w, u], rfl, SqT.of upd_same, rfl, v, [w, u], rfl, w, [u], rfl, u, [], rfl, rfl, nx _ (same_new hp)⟩⟩
/-- name = {}, lists to come -/
theorem ds_dnewL {i : Nat} {x : Str} {pos' : Pos} (hp : ∀ {te : TE} j, PE (X j) e te → PS (X j) (.Assign [.Name x pos'] e pos) (tAsg te (gName i))) (he : ∀ j, PE (X j) e tDNewK) : DS K X (.Assign [.Name x pos'] e pos) (fun D δ => ∀ a, D.nx (δ.set i (.own a (.kl [])))) := by
  refine ⟨_, fun j => hp j (he j), fun C σ δ H D Dd k s e q => ?_⟩
  subst k
  exact fun p hp => q.nx _ _ _ (s.setO (xs := .dK []) (ds := .kl []) hp (Stp.new hp) upd_same (show ORep _ _ _ _ (.kl []) from ⟨rfl, .nil, .nil, fun _ h => nomatch h⟩)) (e p)
end
/-! ### sorted of a list of pairs, of a tuple of ints -/
section
variable {K : PySem.W.Frag} {X : Cx}
def dSortP (ds : List Dt) (Q : Dt → Prop) : Prop := ∃ ks : List (Int × Int), ds = [.lst (ks.map pD)] ∧ ∀ ms : List (Int × Int), ms.Perm ks → ms.Pairwise (fun x y => SrtO.lexB y x = false) → Q (.lst (ms.map pD))
/-- the two ints of a pair in the heap -/
def pkV (H : Hp) (x : V) : Int × Int := match x with
  | .ref t => match H t with
    | some (.tup [.int i, .int j]) => (i, j)
    | _ => (0, 0)
  | _ => (0, 0)
theorem cr_sortP (hK : X.K = K) : CallR X (.builtin "sorted") (rSortedPO K) := hK ▸ cr_sortedPO
theorem rep_pD {av : Addr → Prop} {H : Hp} {x : V} {k : Int × Int} (r : Rep K av H x (pD k)) : ∃ t, x = .ref t ∧ H t = some (.tup [.int k.1, .int k.2]) := by
  obtain ⟨t, xs, rfl, h, l⟩ := r.tup_inv
  obtain ⟨u, w, rfl, r1, r2⟩ := repl2 l
  rw [r1.int_inv, r2.int_inv] at h
  exact ⟨t, rfl, h.2⟩
theorem pk_map {av : Addr → Prop} {H : Hp} : ∀ {xs : List V} {ks : List (Int × Int)}, RepL K av H xs (ks.map pD) → xs.map (pkV H) = ks
  | [], [], _ => rfl
  | [], _ :: _, r => by have := r.l; simp at this
  | _ :: _, [], r => by have := r.l; simp at this
  | x :: xs, k :: ks, r => by
    obtain ⟨t, rfl, ht⟩ := rep_pD (r.head.1 : Rep K av H x (pD k))
    rw [List.map_cons, pk_map r.head.2]
    unfold pkV
    simp only [ht]
theorem repl_pk {av : Addr → Prop} {H : Hp} : ∀ {ys : List V}, (∀ y, y ∈ ys → Rep K av H y (pD (pkV H y))) → RepL K av H ys ((ys.map (pkV H)).map pD)
  | [], _ => .nil
  | y :: ys, h => .cons (h y (List.mem_cons_self ..)) (repl_pk fun z m => h z (List.mem_cons_of_mem _ m))
theorem rc_sortP : RcOk K (rSortedPO K) dSortP := fun av H xs ds Q Qd al r d q => by
  obtain ⟨ks, rfl, d⟩ := d
  obtain ⟨x, rfl, rr⟩ := repl1 r
  obtain ⟨a, xs, rfl, hx, lx⟩ := rr.lst_inv
  have hm := pk_map lx
  have each : ∀ x, x ∈ xs → Rep K av H x (pD (pkV H x)) ∧ ∃ t, x = V.ref t ∧ H t = some (.tup [.int (pkV H x).1, .int (pkV H x).2]) := fun x m => by
    obtain ⟨i, hi⟩ := List.mem_iff_getElem?.mp m
    have hk : (ks.map pD)[i]? = some (pD (pkV H x)) := by rw [← hm, List.map_map, List.getElem?_map, hi]; rfl
    have r := lx.f i x _ hi hk
    exact ⟨r, rep_pD r⟩
  refine ⟨a, xs, pkV H, rfl, hx.sq, fun x m => (each x m).2, fun ys p h1 h2 hp => ?_⟩
  have pm := h2.perm
  refine q _ (.lst ((ys.map (pkV H)).map pD)) _ (same_new hp) (rep_newL al hp (repl_pk fun y m => (each y (pm.mem_iff.mp m)).1)) (d _ ?_ ?_)
  · rw [← hm]
    exact pm.map _
  · exact List.pairwise_map.mpr h1
/-- sorted(t), t a tuple of ints -/
def dSortTI (ds : List Dt) (Q : Dt → Prop) : Prop := ∃ ns : List Int, ds = [.tup (ns.map .int)] ∧ ∀ ms : List Int, ms.Perm ns → ms.Pairwise (· ≤ ·) → Q (.lst (ms.map .int))
theorem cr_sortTI (hK : X.K = K) : CallR X (.builtin "sorted") (StO.rSortTI K) := hK ▸ StO.cr_sortTI
theorem rc_sortTI : RcOk K (StO.rSortTI K) dSortTI := fun av H xs ds Q Qd al r d q => by
  obtain ⟨ns, rfl, d⟩ := d
  obtain ⟨x, rfl, rr⟩ := repl1 r
  obtain ⟨a, xs, rfl, hx, lx⟩ := rr.tup_inv
  rw [repl_ints lx] at hx
  exact ⟨a, ns, rfl, hx.sq, fun ms p h1 h2 hp => q _ _ _ (same_new hp) (rep_newL al hp (repl_of_ints ms)) (d ms h1 h2)⟩
end
section
variable {ι : Type} {K : PySem.W.Frag} {X : ι → Cx} {z : Bool} {pos p2 p3 : Pos}
/-- sorted(own), an own dict by pairs of ints -/
def dSrtO (i : Nat) : EvE := fun δ Q => match δ[i]? with
  | some (.own _ (.t es)) => dSrtDP [.dt es] Q
  | _ => False
theorem de_sortDPO {i : Nat} {x : Str} (p : ∀ j, PE (X j) (.Name x p2) (tVar i)) (hc : ∀ j, (X j).calm = true) (hg : ∀ j, Gl (X j) "sorted") (hm : ∀ j, (X j).mg "sorted" = none) (hs : ∀ j, starEach [.Name x p2] (X j).env = (false, eval (.Name x p2) (X j).env) :: starEach [] (X j).env := by intro _; rfl) : DE z K X (.Call (.Name "sorted" p3) [.Name x p2] [] pos) (dSrtO i) := by
  refine ⟨tCB StO.rSortDP (tCons (tVar i) tNil), fun j => pe_callB (StO.cr_sortDP (hc j)) (hg j) (hm j) (by decide +kernel) (pa_cons (p j) pa_nil (hs j)) (he := hs j), fun C σ δ H Q Qd k s e q => ?_⟩
  subst k
  unfold dSrtO at e
  split at e
  · rename_i a es h
    obtain ⟨h1, u, h5, h6⟩ := s.ownAt h
    obtain ⟨kvs, rfl, e1, e2⟩ := h6.dt
    obtain ⟨es0, e3, hz, e⟩ := e
    injection e3 with e3 _
    injection e3 with e3
    subst e3
    refine ⟨.ref a, h1, a, kvs, es0.map (·.1), rfl, .inl h5, by rw [e1, List.map_map, List.map_map]; rfl, by rw [List.length_map]; exact hz, fun L p pm hL pw hp => ?_⟩
    exact q _ _ _ (Stp.new hp) (rep_newL s.al hp (rep_pairs s.al L hL)) (e _ pm pw)
  · exact e.elim
end
end Dl
set_option maxHeartbeats 1000000
/-! d.items() where the keys are tuples: each turn a new pair of the key's own tuple and the value -/
namespace ItT
open PySem PySem.Spec PyProof.Rows L2
section
variable {X : Cx} {pins : List (Addr × Obj)} {σ : L2.St} {H : Hp} {s : Shared} {d : Addr} {o : Obj}
/-- the raw look of a dict by tuples that stands still -/
theorem still {kvs : List (List Key × V)} (I : Inv X pins σ H s) (h : H d = some (.frz o (.dT kvs))) :
    (d == sysModules) = false ∧ ∃ (es : Array DictEntry) (ep : Nat), o.data = .dict es ep ∧ DT.Raw s.heap d es ep ∧ es.size = kvs.length ∧
      ∀ (i : Nat) (k : List Key) (v : V), kvs[i]? = some (k, v) → ∃ (en : DictEntry) (q : Addr), es[i]? = some en ∧ en.key = .ref q ∧ H q = some (.tup (k.map kV)) ∧ RelV v en.val := by
  obtain ⟨hd, z, hs, xs, pr, o', es, ep, ho, hx, hdt, he, _⟩ := I.hok d _ h
  have eo : o' = o := by
    rw [hd] at ho
    exact (Option.some.inj ho).symm
  subst eo
  have len := size_of_entries he
  refine ⟨hs, es, ep, hdt, ⟨_, hd, hx, hdt⟩, by rw [len]; exact (Paired.length pr).symm, fun i k v e => ?_⟩
  obtain ⟨b, hb, e1, e2, e3⟩ := paired_get pr e
  have q := entry_at he i
  rw [hb] at q
  exact ⟨_, b.2.1, q, rfl, e2, e3⟩
end
def Itit (d : Addr) (o : Obj) (kvs : List (List Key × V)) : It where
  go := fun i H => H d = some (.frz o (.dT kvs)) ∧ i < kvs.length
  yld := fun i H x H' => ∃ (T q : Addr) (k : List Key) (v : V), kvs[i]? = some (k, v) ∧ H q = some (.tup (k.map kV)) ∧ x = .ref T ∧ H T = none ∧ H' = upd H T (.tup [.ref q, v])
  stop := fun i H => H d = some (.frz o (.dT kvs)) ∧ kvs.length ≤ i
section
variable {P : Program} {w : World} {K : PySem.W.Frag} {d : Addr} {o : Obj} {es : Array DictEntry} {ep : Nat}
theorem turn_itemsT {kvs : List (List Key × V)} {elts : List Expr} {kk : Nat} {tpos : Pos} (it : Addr) (hod : o.data = .dict es ep) :
    Turn P w K (.Tuple elts kk tpos) (Itit d o kvs) [it] it (fun i h => ∃ a b, IsItemIter h it d i kvs.length ep a b) where
  mem := List.mem_singleton.mpr rfl
  obj := fun i h ⟨a, b, e⟩ c hc => by
    cases List.mem_singleton.mp hc
    exact ⟨_, e, fun _ => nofun⟩
  keep := fun i h h' ⟨a, b, e⟩ k => ⟨a, b, k it (List.mem_singleton.mpr rfl) _ e⟩
  item := by
    intro X hP hw hK hc i pins s σ H E I hf st hg
    subst hP hw hK
    obtain ⟨hd, hi⟩ := hg
    obtain ⟨hs, es', ep', hdt, raw, hsz, ent⟩ := still I hd
    obtain ⟨rfl, rfl⟩ := dict_ep hod hdt
    obtain ⟨en, q, hen, hkey, hq, hv⟩ := ent i kvs[i].1 kvs[i].2 (List.getElem?_eq_getElem hi)
    obtain ⟨a, b, he⟩ := st
    rw [← hsz] at he
    have hi' : i < es'.size := by omega
    have ee : es'[i] = en := by
      rw [Array.getElem?_eq_getElem hi'] at hen
      exact Option.some.inj hen
    have hlt : it < s.heap.objs.size := Heap.lt_size he
    refine DT.nextI he raw hi' fun h1 out new hz kept => ?_
    rw [ee, hkey] at out new
    refine ⟨_, rfl, wpAny_letOwnedTupleGo_items (s := { s with heap := h1 }) out fun h2 he2 sb => ?_⟩
    have ne : s.heap.objs.size ≠ it := Nat.ne_of_gt hlt
    have at2 := (sb.2 _ ne).trans new
    have I1 : Inv X pins σ (upd H s.heap.objs.size (.tup [.ref q, kvs[i].2])) { s with heap := h2 } :=
      I.turnedNew (t' := s.toks) (ch := [it]) (fun c ob hc q => (sb.2 c fun z => hc (List.mem_singleton.mpr z)).trans (kept c ob (fun z => hc (List.mem_singleton.mpr z)) q)) hf (Nat.le_refl _)
        ⟨show 2 ≤ sizeLine by decide, [.ref q, en.val], .cons rfl (.cons hv .nil), ⟨_, at2, rfl, _, rfl⟩⟩
    refine ⟨.ref s.heap.objs.size, _, I1, rfl, ⟨_, q, _, _, List.getElem?_eq_getElem hi, hq, rfl, I.hok.fresh (Nat.le_refl _), rfl⟩, ⟨.ref q, en.val, ?_⟩, fun c hc => ?_⟩
    · rw [← hsz]
      exact he2
    · cases List.mem_singleton.mp hc
      rw [upd_ne ne.symm]
      exact (hf it (List.mem_singleton.mpr rfl)).1
  done := by
    intro X hP hw hK hc i pins s σ H E I hf st hg
    subst hP hw hK
    obtain ⟨hd, hi⟩ := hg
    obtain ⟨g0, g1, g2, g3, g4, g5⟩ := hf it (List.mem_singleton.mpr rfl)
    obtain ⟨hs, es', ep', hdt, raw, hsz, _⟩ := still I hd
    obtain ⟨rfl, rfl⟩ := dict_ep hod hdt
    obtain ⟨a, b, he⟩ := st
    rw [← hsz] at he
    exact DT.endI (I.ok.hd hc) he raw (by omega) fun h1 eb => ⟨rfl, I.turned (t' := s.toks) (fun c ob hc q => eb c ob hc q) g0 g1 g3 g4 g5⟩
  self := fun A i s Q E ⟨_, _, e⟩ h => PySem.W.kcp_self e h
end
/-- the dict is locked -/
def iItemsT (td : TE) : TI := fun σ H R => td σ H fun x H1 => ∃ d o kvs, x = .ref d ∧ H1 d = some (.frz o (.dT kvs)) ∧ R (Itit d o kvs) H1
theorem pi_itemsT {X : Cx} {e : Expr} {td : TE} {apos cpos tpos : Pos} {elts : List Expr} {kk : Nat} (he : PE X e td) (hbase : attributeBase e "items" X.env (eval e X.env) = eval e X.env := by rfl) (hline : (apos.endLine == cpos.line) = true := by rfl) :
    PI X (.Tuple elts kk tpos) (.Call (.Attribute e "items" apos) [] [] cpos) (iItemsT td) := by
  refine ⟨fun pins s σ H R I h => ?_⟩
  refine wpAny_Call_method (T := "dict") (id := "dict.items") hbase rfl hline F.plainAttrs_dict F.slot_dict_items F.type_dict_items (thn (he.run pins s σ H _ I h) ?_)
  rintro u s1 ⟨x, H1, I1, rx, d, o, kvs, rfl, hd, q⟩
  cases rx
  obtain ⟨hs, es, ep, hdt, raw, hsz, _⟩ := still I1 hd
  refine ⟨raw.typeIs, ?_, ?_⟩
  · obtain ⟨ob, hob, hx, hda⟩ := raw
    intro a ea
    cases ea
    exact ⟨ob, hob, hx.2.1⟩
  have I2 : Inv X pins σ H1 { s1 with heap := s1.heap.push { cls := .type "dict_items", data := .fields #[.ref d] } } := I1.kept (t' := s1.toks) fun b ob q => Heap.get?_push_of_some _ q
  have fin : wpAny (model X.prog X.w) X.A (pyIter (.ref s1.heap.objs.size)) (PIE X pins σ (.Tuple elts kk tpos) R) X.xe { s1 with heap := s1.heap.push { cls := .type "dict_items", data := .fields #[.ref d] } } :=
    DT.iterI (d := d) ⟨_, Heap.get?_push_size _ rfl, rfl, rfl⟩ (raw.push _) (pi_one (tk := s1.toks) I2 _ (turn_itemsT _ hdt) ⟨.none, .none, by rw [← hsz]; exact Heap.get?_push_size _ rfl⟩ q)
  show wpAny _ _ (callWith cpos (.builtin "dict.items") [.ref d] [] []) _ X.xe s1
  exact method_meetsIn F.slot_dict_items F.entry_dict_items rfl (PySem.evalArgs_none ⟨rfl, raw.typeIs, F.args_dict_items_1 _, _, DT.meetsItems hs, raw, fin⟩)
end ItT
set_option maxHeartbeats 1000000
/-! dicts that are walked: they stand still (locked) while they are -/
namespace Dl
open PySem PySem.Spec PyProof.Rows L2 Lcn Sq
def dicH : HO → Prop
  | .dK _ => True
  | .dT _ => True
  | _ => False
theorem dicH.mut {u : HO} (h : dicH u) : Mut (some u) := by
  cases u <;> first | trivial | exact h.elim
theorem dicH.nc {u : HO} (h : dicH u) (c : Addr) (q : Str) : u ≠ LamX.CodeO c q := fun e => by
  unfold LamX.CodeO at e
  rw [e] at h
  exact h.elim
/-- nothing but the dict at d changes, and that reads as before -/
structure Sw (d : Addr) (H H' : Hp) : Prop where
  o : ∀ b, b ≠ d → H' b = H b
  r : ∀ u, dicH u → Rd H d u → Rd H' d u
  x : ∃ u, dicH u ∧ Rd H d u
section
variable {K : PySem.W.Frag} {av : Addr → Prop} {d : Addr} {H H' : Hp}
theorem Sw.ne (w : Sw d H H') {b : Addr} {o : HO} (h : H b = some o) (n : ∀ u, dicH u → o ≠ u ∧ ∀ od, o ≠ .frz od u) : b ≠ d := fun z => by
  obtain ⟨u, hu, r⟩ := w.x
  rw [z] at h
  rcases r with r | ⟨od, r⟩
  · rw [h] at r
    exact (n u hu).1 (Option.some.inj r)
  · rw [h] at r
    exact (n u hu).2 od (Option.some.inj r)
theorem Sw.at (w : Sw d H H') {b : Addr} {o : HO} (h : H b = some o) (n : ∀ u, dicH u → o ≠ u ∧ ∀ od, o ≠ .frz od u) : H' b = some o := by
  rw [w.o b (w.ne h n)]
  exact h
theorem Sw.rd (w : Sw d H H') {b : Addr} {u : HO} (hu : dicH u) (h : Rd H b u) : Rd H' b u := by
  by_cases e : b = d
  · rw [e] at h ⊢
    exact w.r u hu h
  · unfold Rd
    rw [w.o b e]
    exact h
theorem Rep.sw {v : V} {x : Dt} (h : Rep K av H v x) (w : Sw d H H') : Rep K av H' v x := by
  induction h with
  | non => exact .non
  | bl b => exact .bl b
  | int i => exact .int i
  | str s => exact .str s
  | lst h l _ ih => exact .lst ⟨h.1, w.at h.2 fun u hu => ⟨fun z => by rw [← z] at hu; exact hu, fun od => HO.noConfusion⟩⟩ l ih
  | tup h l _ ih => exact .tup ⟨h.1, w.at h.2 fun u hu => ⟨fun z => by rw [← z] at hu; exact hu, fun od => HO.noConfusion⟩⟩ l ih
  | ins na h l _ ih => exact .ins na (w.at h fun u hu => ⟨fun z => by rw [← z] at hu; exact hu, fun od => HO.noConfusion⟩) l ih
  | dk na h l _ ih => exact .dk na (w.rd trivial h) l ih
  | dt na h l _ ih => exact .dt na (w.rd trivial h) l ih
theorem RepL.sw {xs : List V} {ds : List Dt} (h : RepL K av H xs ds) (w : Sw d H H') : RepL K av H' xs ds := ⟨h.l, fun i x e h1 h2 => (h.f i x e h1 h2).sw w⟩
theorem OLs.sw {κ : Type} {kvs : List (κ × V)} {es : List (κ × Addr × List Dt)} (h : OLs K av H kvs es) (w : Sw d H H') : OLs K av H' kvs es := ⟨h.ks, h.nd, h.kd, fun e he => by
  obtain ⟨xs, h1, h2⟩ := h.ls e he
  exact ⟨xs, w.at h1 (fun u hu => ⟨fun z => by rw [← z] at hu; exact hu, fun od => HO.noConfusion⟩), h2.sw w⟩⟩
theorem ORep.sw {u : HO} {c : Oc} (h : ORep K av H u c) (w : Sw d H H') : ORep K av H' u c := by
  unfold ORep at h ⊢
  split at h
  · exact RepL.sw h w
  · exact ⟨h.1, h.2.sw w⟩
  · exact ⟨h.1, h.2.sw w⟩
  · exact ⟨h.1, h.2.1, h.2.2.sw w⟩
  · exact OLs.sw h w
  · exact OLs.sw h w
  · exact h.elim
end
section
variable {C : Ctx} {H H' : Hp} {σ : L2.St} {δ : List Sl} {d : Addr}
theorem Sok.sw {H0 : Hp} (s : Sok C H σ δ) (w : Sw d H H') (nz : ¬ Zd C δ d) (st : ∀ g : Gs C.S H', Stp C.S H0 H') (hn : ∀ b, b ≠ d → C.H0 b = none → H0 b = none) : Sok { C with H0 := H0 } H' σ δ := by
  have nd : ∀ b, Zd C δ b → b ≠ d := fun b z e => nz (by rw [← e]; exact z)
  have g : Gs C.S H' := s.g.dep (fun b o c h => by
    rw [w.o b (nd b (.inl (s.avs b c)))]
    exact h) fun b c q h => w.at h fun u hu => ⟨fun z => hu.nc c q z.symm, fun od => HO.noConfusion⟩
  refine ⟨s.len, fun i u hu => ?_, s.uqr, fun i a c h b hb => ?_, g, st g, s.avs, fun b z => ?_, fun p m => (s.gh p m).sw w⟩
  · have q := s.sl i u hu
    cases u with
    | any => trivial
    | val x =>
      obtain ⟨v, h1, h2⟩ := q
      exact ⟨v, h1, h2.sw w⟩
    | own a es =>
      obtain ⟨h1, h2, h3, xs, h5, h6⟩ := q
      have na : a ≠ d := nd a (.inr ⟨_, List.mem_iff_getElem?.mpr ⟨i, hu⟩, .inl rfl⟩)
      exact ⟨h1, hn a na h2, h3, xs, by rw [w.o a na]; exact h5, h6.sw w⟩
    | src => exact q
    | srt T => exact q
  · exact ⟨hn b (nd b (.inr ⟨_, List.mem_iff_getElem?.mpr ⟨i, h⟩, .inr hb⟩)) (s.inn i a c h b hb).1, (s.inn i a c h b hb).2⟩
  · obtain ⟨o, h, q⟩ := s.ava b z
    exact ⟨o, by rw [w.o b (nd b (.inl z))]; exact h, q⟩
/-- the same context, the dict at d locked -/
def Ctx.lk (C : Ctx) (d : Addr) (F : HO) : Ctx := { C with H0 := upd C.H0 d F }
theorem sw_lock {od : Obj} {u : HO} (hu : dicH u) (h : H d = some u) : Sw d H (upd H d (.frz od u)) := by
  refine ⟨fun b n => upd_ne n, fun x hx r => ?_, u, hu, .inl h⟩
  rcases r with r | ⟨o, r⟩
  · rw [h] at r
    cases r
    exact .inr ⟨od, upd_same⟩
  · rw [h] at r
    cases r
    exact hu.elim
theorem sw_unlock {od : Obj} {u : HO} (hu : dicH u) (h : H d = some (.frz od u)) : Sw d H (upd H d u) := by
  refine ⟨fun b n => upd_ne n, fun x hx r => ?_, u, hu, .inr ⟨od, h⟩⟩
  rcases r with r | ⟨o, r⟩
  · rw [h] at r
    cases r
    exact hx.elim
  · rw [h] at r
    cases r
    exact .inl upd_same
theorem Sok.lock {od : Obj} {u : HO} (s : Sok C H σ δ) (hu : dicH u) (h : H d = some u) (nz : ¬ Zd C δ d) : Sok (C.lk d (.frz od u)) (upd H d (.frz od u)) σ δ := by
  refine s.sw (sw_lock hu h) nz (fun g => ⟨fun b o c x => ?_, fun _ => g⟩) fun b n x => ?_
  · by_cases e : b = d
    · rw [e, upd_same] at x ⊢
      exact x
    · rw [upd_ne e] at x ⊢
      exact s.st.keep b o c x
  · rw [upd_ne n]
    exact x
theorem nz_lk {F : HO} (s : Sok (C.lk d F) H σ δ) (na : ¬ C.av d) : ¬ Zd (C.lk d F) δ d := fun z => by
  rcases z with z | ⟨x, hx, e⟩
  · exact na z
  · obtain ⟨i, hi⟩ := List.mem_iff_getElem?.mp hx
    cases x with
    | own a c =>
      have q := (s.regn hi e).1
      have q : upd C.H0 d F d = none := q
      rw [upd_same] at q
      cases q
    | _ => exact e.elim
theorem stp_back {F u : HO} {H1 : Hp} (e : Stp C.S (upd C.H0 d F) H1) (nsa : ∀ b, sa C.S b → b ≠ d) (h0 : ∀ o, C.H0 d = some o → o = u) (nu : ∀ c q, u ≠ LamX.CodeO c q) (nF : ∀ c q, F ≠ LamX.CodeO c q) : Stp C.S C.H0 (upd H1 d u) := by
  refine ⟨fun b o c x => ?_, fun g => ?_⟩
  · by_cases z : b = d
    · rw [z] at x ⊢
      rw [upd_same, h0 o x]
    · rw [upd_ne z]
      exact e.keep b o c (by rw [upd_ne z]; exact x)
  · have n : ¬ sa C.S d := fun c => nsa d c rfl
    refine (e.on (g.upd n fun c q h => ?_)).upd n fun c q h => ?_
    · exact nu c q (h0 _ h).symm
    · rw [e.keep d F (fun c => n (ch_sa c)) upd_same] at h
      exact nF c q (Option.some.inj h)
theorem Sok.unlock {od : Obj} {u : HO} (s : Sok (C.lk d (.frz od u)) H σ δ) (hu : dicH u) (h : H d = some (.frz od u)) (na : ¬ C.av d) (h0 : ∀ o, C.H0 d = some o → o = u) : Sok C (upd H d u) σ δ := by
  have r := s.sw (H0 := C.H0) (sw_unlock hu h) (nz_lk s na) (fun g => ?_) fun b n x => ?_
  · exact r
  · exact stp_back s.st (fun b c z => na (by rw [← z]; exact s.avs b c)) h0 hu.nc (fun _ _ => HO.noConfusion)
  · have x : upd C.H0 d (.frz od u) b = none := x
    rw [upd_ne n] at x
    exact x
/-- locked already -/
theorem Sok.lkd {F : HO} (s : Sok C H σ δ) (h : H d = some F) (nz : ¬ Zd C δ d) : Sok (C.lk d F) H σ δ := by
  refine ⟨s.len, fun i u hu => ?_, s.uqr, fun i a c g b hb => ⟨?_, (s.inn i a c g b hb).2⟩, s.g, ⟨fun b o c x => ?_, fun _ => s.g⟩, s.avs, s.ava, s.gh⟩
  · have q := s.sl i u hu
    cases u with
    | own a es =>
      obtain ⟨h1, h2, h3, xs, h5, h6⟩ := q
      have na : a ≠ d := fun e => nz (by rw [← e]; exact .inr ⟨_, List.mem_iff_getElem?.mpr ⟨i, hu⟩, .inl rfl⟩)
      exact ⟨h1, by show upd C.H0 d F a = none; rw [upd_ne na]; exact h2, h3, xs, h5, h6⟩
    | _ => exact q
  · have nb : b ≠ d := fun e => nz (by rw [← e]; exact .inr ⟨_, List.mem_iff_getElem?.mpr ⟨i, g⟩, .inr hb⟩)
    show upd C.H0 d F b = none
    rw [upd_ne nb]
    exact (s.inn i a c g b hb).1
  · have x : upd C.H0 d F b = some o := x
    by_cases e : b = d
    · rw [e, upd_same] at x
      rw [e, h]
      exact x
    · rw [upd_ne e] at x
      exact s.st.keep b o c x
theorem Sok.unlkd {F : HO} (s : Sok (C.lk d F) H σ δ) (h : H d = some F) (na : ¬ C.av d) (h0 : ∀ o, C.H0 d = some o → o = F) (nF : ∀ c q, F ≠ LamX.CodeO c q) : Sok C H σ δ := by
  have nz := nz_lk s na
  have st : Stp C.S C.H0 H := by
    have r := stp_back (u := F) s.st (fun b c z => na (by rw [← z]; exact s.avs b c)) h0 nF nF
    have e : upd H d F = H := by
      funext b
      by_cases z : b = d
      · rw [z, upd_same, h]
      · rw [upd_ne z]
    rw [e] at r
    exact r
  refine ⟨s.len, fun i u hu => ?_, s.uqr, fun i a c g b hb => ⟨?_, (s.inn i a c g b hb).2⟩, s.g, st, s.avs, s.ava, s.gh⟩
  · have q := s.sl i u hu
    cases u with
    | own a es =>
      obtain ⟨h1, h2, h3, xs, h5, h6⟩ := q
      have na : a ≠ d := fun e => nz (by rw [← e]; exact .inr ⟨_, List.mem_iff_getElem?.mpr ⟨i, hu⟩, .inl rfl⟩)
      have h2 : upd C.H0 d F a = none := h2
      rw [upd_ne na] at h2
      exact ⟨h1, h2, h3, xs, h5, h6⟩
    | _ => exact q
  · have nb : b ≠ d := fun e => nz (by rw [← e]; exact .inr ⟨_, List.mem_iff_getElem?.mpr ⟨i, g⟩, .inr hb⟩)
    have q : upd C.H0 d F b = none := (s.inn i a c g b hb).1
    rw [upd_ne nb] at q
    exact q
end
/-! ### the statement, locked or as it is -/
def tLk (t : TS) : TS := fun D σ H => t D σ H ∨ tLock t D σ H
theorem ps_lk {X : Cx} {st : Stmt} {t : TS} (h : PS X st t) : PS X st (tLk t) :=
  ⟨fun pins s σ H D I hw => hw.elim (h.run pins s σ H D I) ((ps_lock h).run pins s σ H D I)⟩
def tLkE (t : TE) : TE := fun σ H Q => t σ H Q ∨ tLockE t σ H Q
theorem pe_lk {X : Cx} {e : Expr} {t : TE} (h : PE X e t) : PE X e (tLkE t) :=
  ⟨fun pins s σ H Q I hw => hw.elim (h.run pins s σ H Q I) ((pe_lock h).run pins s σ H Q I)⟩
/-- slot i names a dict that is locked -/
def LkAt (C : Ctx) (σ : L2.St) (i : Nat) : Prop := ∃ d od u, σ[i]? = some (some (.ref d)) ∧ C.H0 d = some (.frz od u) ∧ ¬ ch C.S d ∧ dicH u
/-- a dict stands in slot i -/
def dicAt (δ : List Sl) (i : Nat) : Prop := ∃ x, δ[i]? = some (.val x) ∧ isDic x = true
theorem dic_place {C : Ctx} {H : Hp} {σ : L2.St} {δ : List Sl} {i : Nat} (s : Sok C H σ δ) (h : dicAt δ i) : ∃ d u, σ[i]? = some (some (.ref d)) ∧ dicH u ∧ Rd H d u ∧ ¬ Zd C δ d := by
  obtain ⟨x, hx, hd⟩ := h
  obtain ⟨v, h1, h2⟩ := s.sl i _ hx
  cases x with
  | dk es =>
    obtain ⟨a, kvs, rfl, na, r, _⟩ := h2.dk_inv
    exact ⟨a, .dK kvs, h1, trivial, r, na⟩
  | dt es =>
    obtain ⟨a, kvs, rfl, na, r, _⟩ := h2.dt_inv
    exact ⟨a, .dT kvs, h1, trivial, r, na⟩
  | _ => cases hd
theorem vs_lk {K : PySem.W.Frag} {t : TS} {sv : EvS} {i : Nat} (v : ∀ (C : Ctx) (σ : L2.St) (δ : List Sl) (H : Hp) (D : Ends) (Dd : DEnds), LkAt C σ i → C.K = K → Sok C H σ δ → sv Dd δ → EndsR C D Dd → t D σ H) : VS K (tLk t) (fun D δ => dicAt δ i ∧ sv D δ) := by
  intro C σ δ H D Dd k s e q
  obtain ⟨hd, e⟩ := e
  obtain ⟨d, u, h1, hu, r, nz⟩ := dic_place s hd
  have na : ¬ C.av d := fun z => nz (.inl z)
  have nsa : ∀ b, sa C.S b → b ≠ d := fun b c z => na (by rw [← z]; exact s.avs b c)
  have nch : ¬ ch C.S d := fun c => nsa d (ch_sa c) rfl
  rcases r with r | ⟨od, r⟩
  · refine .inr ⟨d, u, r, hu.mut, fun od => ?_⟩
    have h0 : ∀ o, C.H0 d = some o → o = u := fun o x => by
      have y := s.st.keep d o nch x
      rw [r] at y
      exact (Option.some.inj y).symm
    have F : ∀ {H' : Hp}, Stp C.S (upd C.H0 d (.frz od u)) H' → H' d = some (.frz od u) := fun z => z.keep d _ nch upd_same
    refine v (C.lk d (.frz od u)) σ δ _ _ _ ⟨d, od, u, h1, upd_same, nch, hu⟩ k (s.lock hu r nz) e ⟨fun σ' δ' H' s' e => ?_, fun w x H' st rw' gh e => ?_, fun σ' δ' H' s' e => ?_, fun σ' δ' H' s' e => ?_⟩
    · exact ⟨F s'.st, q.nx _ _ _ (s'.unlock hu (F s'.st) na h0) e⟩
    · have sw : Sw d H' (upd H' d u) := sw_unlock hu (F st)
      exact ⟨F st, q.rt w x _ (stp_back st nsa h0 hu.nc (fun _ _ => HO.noConfusion)) (rw'.sw sw) (fun g m => (gh g m).sw sw) e⟩
    · exact ⟨F s'.st, q.bk _ _ _ (s'.unlock hu (F s'.st) na h0) e⟩
    · exact ⟨F s'.st, q.ct _ _ _ (s'.unlock hu (F s'.st) na h0) e⟩
  · refine .inl ?_
    have h0 : ∀ o, C.H0 d = some o → o = .frz od u := fun o x => by
      have y := s.st.keep d o nch x
      rw [r] at y
      exact (Option.some.inj y).symm
    have F : ∀ {H' : Hp}, Stp C.S (upd C.H0 d (.frz od u)) H' → H' d = some (.frz od u) := fun z => z.keep d _ nch upd_same
    refine v (C.lk d (.frz od u)) σ δ _ _ _ ⟨d, od, u, h1, upd_same, nch, hu⟩ k (s.lkd r nz) e ⟨fun σ' δ' H' s' e => ?_, fun w x H' st rw' gh e => ?_, fun σ' δ' H' s' e => ?_, fun σ' δ' H' s' e => ?_⟩
    · exact q.nx _ _ _ (s'.unlkd (F s'.st) na h0 (fun _ _ => HO.noConfusion)) e
    · refine q.rt w x _ ?_ rw' gh e
      have z := stp_back (u := .frz od u) st nsa h0 (fun _ _ => HO.noConfusion) (fun _ _ => HO.noConfusion)
      have ee : upd H' d (.frz od u) = H' := by
        funext b
        by_cases z : b = d
        · rw [z, upd_same, F st]
        · rw [upd_ne z]
      rw [ee] at z
      exact z
    · exact q.bk _ _ _ (s'.unlkd (F s'.st) na h0 (fun _ _ => HO.noConfusion)) e
    · exact q.ct _ _ _ (s'.unlkd (F s'.st) na h0 (fun _ _ => HO.noConfusion)) e
end Dl
set_option maxHeartbeats 1000000
/-! for k in d, for k, v in d.items() -/
namespace Dl
open PySem PySem.Spec PyProof.Rows L2 Lcn Sq
/-- a key, as a thing -/
def keyD : Key → Dt
  | .inl i => .int i
  | .inr x => .str x
theorem rep_key {K : PySem.W.Frag} {av : Addr → Prop} {H : Hp} (k : Key) : Rep K av H (kV k) (keyD k) := by
  cases k
  · exact .int _
  · exact .str _
theorem repl_keys {K : PySem.W.Frag} {av : Addr → Prop} {H : Hp} : ∀ ks : List Key, RepL K av H (ks.map kV) (ks.map keyD)
  | [] => .nil
  | k :: ks => .cons (rep_key k) (repl_keys ks)
def keysT (k : List Key) : Dt := .tup (k.map keyD)
theorem rep_keys {K : PySem.W.Frag} {av : Addr → Prop} {H : Hp} (al : Al av H) {q : Addr} {k : List Key} (h : H q = some (.tup (k.map kV))) : Rep K av H (.ref q) (keysT k) :=
  have r : RepL K av H (k.map kV) (k.map keyD) := repl_keys k
  .tup ⟨al.nTup h, h⟩ r.l r.f
/-- the keys, in their order -/
def ivKeys (i : Nat) : EvA := fun δ Q => match δ[i]? with
  | some (.val (.dk es)) => Q (es.map fun e => keyD e.1)
  | some (.val (.dt es)) => Q (es.map fun e => keysT e.1)
  | _ => False
def ivItems (i : Nat) : EvA := fun δ Q => match δ[i]? with
  | some (.val (.dk es)) => Q (es.map fun e => .tup [keyD e.1, e.2])
  | _ => False
def ivItemsT (i : Nat) : EvA := fun δ Q => match δ[i]? with
  | some (.val (.dt es)) => Q (es.map fun e => .tup [keysT e.1, e.2])
  | _ => False
section
variable {C : Ctx} {H : Hp} {σ : L2.St} {δ : List Sl} {i : Nat}
theorem lk_dk {es : List (Key × Dt)} (s : Sok C H σ δ) (lk : LkAt C σ i) (h : δ[i]? = some (.val (.dk es))) : ∃ d od kvs, σ[i]? = some (some (.ref d)) ∧ C.H0 d = some (.frz od (.dK kvs)) ∧ H d = some (.frz od (.dK kvs)) ∧ ¬ ch C.S d ∧ kvs.map Prod.fst = es.map Prod.fst ∧ RepL C.K (Zd C δ) H (kvs.map Prod.snd) (es.map Prod.snd) := by
  obtain ⟨d, od, u, h1, h2, nch, hu⟩ := lk
  obtain ⟨v, g1, g2⟩ := s.sl i _ h
  rw [h1] at g1
  cases g1
  obtain ⟨a, kvs, e, na, r, l, f⟩ := g2.dk_inv
  cases e
  have hd := s.st.keep d _ nch h2
  rcases r with r | ⟨o, r⟩
  · rw [hd] at r
    cases r
  · rw [hd] at r
    cases r
    exact ⟨d, od, kvs, h1, h2, hd, nch, l, f⟩
theorem lk_dt {es : List (List Key × Dt)} (s : Sok C H σ δ) (lk : LkAt C σ i) (h : δ[i]? = some (.val (.dt es))) : ∃ d od kvs, σ[i]? = some (some (.ref d)) ∧ C.H0 d = some (.frz od (.dT kvs)) ∧ H d = some (.frz od (.dT kvs)) ∧ ¬ ch C.S d ∧ kvs.map Prod.fst = es.map Prod.fst ∧ RepL C.K (Zd C δ) H (kvs.map Prod.snd) (es.map Prod.snd) := by
  obtain ⟨d, od, u, h1, h2, nch, hu⟩ := lk
  obtain ⟨v, g1, g2⟩ := s.sl i _ h
  rw [h1] at g1
  cases g1
  obtain ⟨a, kvs, e, na, r, l, f⟩ := g2.dt_inv
  cases e
  have hd := s.st.keep d _ nch h2
  rcases r with r | ⟨o, r⟩
  · rw [hd] at r
    cases r
  · rw [hd] at r
    cases r
    exact ⟨d, od, kvs, h1, h2, hd, nch, l, f⟩
end
/-- what stands at the same place of both -/
theorem ent_at {κ : Type} {kvs : List (κ × V)} {es : List (κ × Dt)} (l : kvs.map Prod.fst = es.map Prod.fst) {j : Nat} {k : κ} {v : V} {e : κ × Dt} (h : kvs[j]? = some (k, v)) (he : es[j]? = some e) : e.1 = k := by
  have q := congrArg (fun xs : List κ => xs[j]?) l
  simp only [List.getElem?_map, h, he, Option.map_some] at q
  exact (Option.some.inj q).symm
theorem ent_len {κ : Type} {kvs : List (κ × V)} {es : List (κ × Dt)} (l : kvs.map Prod.fst = es.map Prod.fst) : es.length = kvs.length := by
  have := congrArg List.length l
  simpa using this.symm
theorem map_at {α : Type} {f : α → Dt} {xs : List α} {j : Nat} {x : Dt} (h : (xs.map f)[j]? = some x) : ∃ e, xs[j]? = some e ∧ x = f e := by
  rw [List.getElem?_map] at h
  obtain ⟨e, he, rfl⟩ := Option.map_eq_some_iff.mp h
  exact ⟨e, he, rfl⟩
theorem ghost_at {κ : Type} {K : PySem.W.Frag} {av : Addr → Prop} {H : Hp} {kvs : List (κ × V)} {es : List (κ × Dt)} (h : ∀ g, g ∈ (kvs.map Prod.snd).zip (es.map Prod.snd) → Rep K av H g.1 g.2) {j : Nat} {k : κ} {v : V} {e : κ × Dt} (h1 : kvs[j]? = some (k, v)) (h2 : es[j]? = some e) : Rep K av H v e.2 := by
  refine h (v, e.2) (List.mem_iff_getElem?.mpr ⟨j, ?_⟩)
  rw [List.getElem?_zip_eq_some]
  exact ⟨by rw [List.getElem?_map, h1]; rfl, by rw [List.getElem?_map, h2]; rfl⟩
section
variable {K : PySem.W.Frag} {C : Ctx} {H : Hp} {σ : L2.St} {δ : List Sl} {i : Nat} {o : Bool}
theorem vi_keys (lk : LkAt C σ i) : VIat o K (iKeys (tVar i)) (ivKeys i) C σ δ H := by
  intro R Qd k s e q
  subst k
  unfold ivKeys at e
  split at e
  · rename_i es h
    obtain ⟨d, od, kvs, h1, h0, hd, nch, l, f⟩ := lk_dk s lk h
    refine ⟨.ref d, h1, d, od, rfl, .inl ⟨kvs, hd, q _ _ _ _ (es.map fun e => keyD e.1) H (fun H => H d = some (.frz od (.dK kvs))) [] walk_keys (by rw [List.length_map]; exact ent_len l) (Stp.refl H) (fun _ H st => st.keep d _ nch h0) (fun H' k => k d _ nch hd) (fun g m => nomatch m) ⟨fun av H al hb _ => hb, fun j x av H v H' hx al hb _ y => ?_⟩ e⟩⟩
    obtain ⟨rfl, k, w, hk, rfl⟩ := y
    obtain ⟨e0, he0, rfl⟩ := map_at hx
    rw [ent_at l hk he0]
    exact ⟨Same.refl _, rep_key k⟩
  · rename_i es h
    obtain ⟨d, od, kvs, h1, h0, hd, nch, l, f⟩ := lk_dt s lk h
    refine ⟨.ref d, h1, d, od, rfl, .inr ⟨kvs, hd, q _ _ _ _ (es.map fun e => keysT e.1) H (fun H => H d = some (.frz od (.dT kvs))) [] walk_keysT (by rw [List.length_map]; exact ent_len l) (Stp.refl H) (fun _ H st => st.keep d _ nch h0) (fun H' k => k d _ nch hd) (fun g m => nomatch m) ⟨fun av H al hb _ => hb, fun j x av H v H' hx al hb _ y => ?_⟩ e⟩⟩
    obtain ⟨rfl, k, w, p, hk, rfl, hp⟩ := y
    obtain ⟨e0, he0, rfl⟩ := map_at hx
    rw [ent_at l hk he0]
    exact ⟨Same.refl _, rep_keys al hp⟩
  · exact e.elim
theorem vi_items (lk : LkAt C σ i) : VIat o K (iItems (tVar i)) (ivItems i) C σ δ H := by
  intro R Qd k s e q
  subst k
  unfold ivItems at e
  split at e
  · rename_i es h
    obtain ⟨d, od, kvs, h1, h0, hd, nch, l, f⟩ := lk_dk s lk h
    refine ⟨.ref d, h1, d, od, kvs, rfl, hd, q _ _ _ _ (es.map fun e => .tup [keyD e.1, e.2]) H (fun H => H d = some (.frz od (.dK kvs))) ((kvs.map Prod.snd).zip (es.map Prod.snd)) walk_items (by rw [List.length_map]; exact ent_len l) (Stp.refl H) (fun _ H st => st.keep d _ nch h0) (fun H' k => k d _ nch hd) (repl_ghost (C := C) f) ⟨fun av H al hb _ => hb, fun j x av H v H' hx al hb gh y => ?_⟩ e⟩
    obtain ⟨T, a, b, rfl, hT, rfl, ha, hb'⟩ := y
    obtain ⟨kv, hkv, rfl⟩ := Option.map_eq_some_iff.mp ha
    have hb' : Option.map Prod.snd kvs[j]? = some b := hb'
    rw [hkv] at hb'
    cases hb'
    obtain ⟨e0, he0, rfl⟩ := map_at hx
    have rv := ghost_at (k := kv.1) (v := kv.2) gh hkv he0
    rw [ent_at (k := kv.1) (v := kv.2) l hkv he0]
    exact ⟨same_new hT, rep_newT al hT (.cons (rep_key _) (.cons rv .nil))⟩
  · exact e.elim
theorem walk_itemsT {d : Addr} {od : Obj} {kvs : List (List Key × V)} : Walk (ItT.Itit d od kvs) kvs.length (fun H => H d = some (.frz od (.dT kvs))) (ItT.Itit d od kvs).yld :=
  ⟨fun _ _ hi q => ⟨q, hi⟩, fun _ q => ⟨q, Nat.le_refl _⟩, fun _ _ _ _ _ _ y => y⟩
theorem vi_itemsT (lk : LkAt C σ i) : VIat o K (ItT.iItemsT (tVar i)) (ivItemsT i) C σ δ H := by
  intro R Qd k s e q
  subst k
  unfold ivItemsT at e
  split at e
  · rename_i es h
    obtain ⟨d, od, kvs, h1, h0, hd, nch, l, f⟩ := lk_dt s lk h
    refine ⟨.ref d, h1, d, od, kvs, rfl, hd, q _ _ _ _ (es.map fun e => .tup [keysT e.1, e.2]) H (fun H => H d = some (.frz od (.dT kvs))) ((kvs.map Prod.snd).zip (es.map Prod.snd)) walk_itemsT (by rw [List.length_map]; exact ent_len l) (Stp.refl H) (fun _ H st => st.keep d _ nch h0) (fun H' k => k d _ nch hd) (repl_ghost (C := C) f) ⟨fun av H al hb _ => hb, fun j x av H v H' hx al hb gh y => ?_⟩ e⟩
    obtain ⟨T, p, k, w, hk, hp, rfl, hT, rfl⟩ := y
    obtain ⟨e0, he0, rfl⟩ := map_at hx
    have rv := ghost_at gh hk he0
    rw [ent_at l hk he0]
    exact ⟨same_new hT, rep_newT al hT (.cons (rep_keys al hp) (.cons rv .nil))⟩
  · exact e.elim
end
/-! ### the statement -/
section
variable {ι : Type} {K : PySem.W.Frag} {X : ι → Cx} {pos p2 apos cpos tpos : Pos} {tg : Expr} {gv : Dt → List Sl → (List Sl → Prop) → Prop} {body : List Stmt} {sv : EvS} {i : Nat} {x : Str} {is : List Nat} {elts : List Expr} {kk : Nat}
def dForD (i : Nat) (iv : EvA) (gv : Dt → List Sl → (List Sl → Prop) → Prop) (bv : EvS) : EvS := fun D δ => dicAt δ i ∧ dFor iv gv bv D δ
theorem ds_forKeys (px : ∀ j, PE (X j) (.Name x p2) (tVar i)) (hc : ∀ i, (X i).calm = true) (hg : DG K X tg gv is) (hb : DSs K X body sv) (hpo : ∀ i, PassesOwn (model (X i).prog (X i).w) (X i).A (X i).env (X i).xe) (hs : ∀ i, ∀ y, foldedSetIterable (.Name x p2) (X i).env y = pure y := by intro _ _; rfl) :
    DS K X (.For tg (.Name x p2) body [] pos) (dForD i (ivKeys i) gv sv) := by
  obtain ⟨g, pg, vg⟩ := hg
  obtain ⟨tb, pb, vb⟩ := hb
  exact ⟨_, fun j => ps_lk (ps_for (hpo j) (hc j) (pi_keys (px j)) (pg j) (pb j) (hs j)), vs_lk fun C σ δ H D Dd lk k s e q => vs_for_at (vi_keys lk) vg vb k s e q⟩
theorem ds_forItems (px : ∀ j, PE (X j) (.Name x p2) (tVar i)) (hc : ∀ i, (X i).calm = true) (hg : DG K X (.Tuple elts kk tpos) gv is) (hb : DSs K X body sv) (hpo : ∀ i, PassesOwn (model (X i).prog (X i).w) (X i).A (X i).env (X i).xe)
    (hbase : ∀ i, attributeBase (.Name x p2) "items" (X i).env (eval (.Name x p2) (X i).env) = eval (.Name x p2) (X i).env := by intro _; rfl) (hline : (apos.endLine == cpos.line) = true := by rfl) (hs : ∀ i, ∀ y, foldedSetIterable (.Call (.Attribute (.Name x p2) "items" apos) [] [] cpos) (X i).env y = pure y := by intro _ _; rfl) :
    DS K X (.For (.Tuple elts kk tpos) (.Call (.Attribute (.Name x p2) "items" apos) [] [] cpos) body [] pos) (dForD i (ivItems i) gv sv) := by
  obtain ⟨g, pg, vg⟩ := hg
  obtain ⟨tb, pb, vb⟩ := hb
  exact ⟨_, fun j => ps_lk (ps_for (hpo j) (hc j) (pi_items (px j) (hbase j) hline) (pg j) (pb j) (hs j)), vs_lk fun C σ δ H D Dd lk k s e q => vs_for_at (vi_items lk) vg vb k s e q⟩
theorem ds_forItemsT (px : ∀ j, PE (X j) (.Name x p2) (tVar i)) (hc : ∀ i, (X i).calm = true) (hg : DG K X (.Tuple elts kk tpos) gv is) (hb : DSs K X body sv) (hpo : ∀ i, PassesOwn (model (X i).prog (X i).w) (X i).A (X i).env (X i).xe)
    (hbase : ∀ i, attributeBase (.Name x p2) "items" (X i).env (eval (.Name x p2) (X i).env) = eval (.Name x p2) (X i).env := by intro _; rfl) (hline : (apos.endLine == cpos.line) = true := by rfl) (hs : ∀ i, ∀ y, foldedSetIterable (.Call (.Attribute (.Name x p2) "items" apos) [] [] cpos) (X i).env y = pure y := by intro _ _; rfl) :
    DS K X (.For (.Tuple elts kk tpos) (.Call (.Attribute (.Name x p2) "items" apos) [] [] cpos) body [] pos) (dForD i (ivItemsT i) gv sv) := by
  obtain ⟨g, pg, vg⟩ := hg
  obtain ⟨tb, pb, vb⟩ := hb
  exact ⟨_, fun j => ps_lk (ps_for (hpo j) (hc j) (ItT.pi_itemsT (px j) (hbase j) hline) (pg j) (pb j) (hs j)), vs_lk fun C σ δ H D Dd lk k s e q => vs_for_at (vi_itemsT lk) vg vb k s e q⟩
end
end Dl
set_option maxHeartbeats 2000000
/-! a dict comprehension, its keys ints, texts or tuples -/
namespace Dct
open PySem PySem.Spec PyProof.Rows L2 Lcn
section
variable {X : Cx} {kx vx tg iter : Expr} {ifs : List Expr} {scope : Scope} {pos : Pos} {own : List (Str × Nat)}
/-- the pair, put -/
def tEndD (tk tv : TE) : TB := fun D σ H Nx => tk σ H fun y H1 => tv σ H1 fun z H2 => ∃ H3, DPut H2 D y z H3 ∧ Nx H3
/-- the whole; O is the dict at its start -/
def tDcG (O : HO) (wi : TI) (g : TG) (tt : TT) (tk tv : TE) (vs : List Nat) : TE := fun σ H Q => wi σ H fun J H1 => ∀ D, H1 D = none → tTurns g tt (tEndD tk tv) vs J D σ (fun H' => Q (.ref D) H') (upd H1 D O)
theorem put_ok {pins : List (Addr × Obj)} {σ : L2.St} {H H' : Hp} {s : Shared} {D : Addr} {y z : V} {u r : Value} {Q : Unit → Shared → Prop} {E : Value → Shared → Prop} (hu : X.A.units + 1 < cLine) (I : L2.Inv X pins σ H s) (p : DPut H D y z H') (ry : L2.RelV y u) (rz : L2.RelV z r) (h : ∀ s', L2.Inv X pins σ H' s' → Q () s') :
    wpAny (model X.prog X.w) X.A (dictSet D u r) Q E s := by
  rcases p with ⟨kvs, k, hD, rfl, hz, rfl⟩ | ⟨kvs, k, b, hD, rfl, hb, hz, rfl⟩
  · exact d_dictSet I hD hz ry rz h
  · cases ry
    obtain ⟨sz, nsys, xs, rel, dd⟩ := dt_of I.hok hD
    have room : (putK kvs k z).length ≤ sizeLine := by
      have := length_putK kvs k z
      omega
    refine wpAny_dictSet_heap (hsz := by rw [← Paired.length rel]; exact sz) (Nat.lt_of_succ_lt hu) (key_of I.hok hb) dd fun h1 ⟨q, es, ep, hq, x2, x3, x4, _, x5⟩ sb => h _ ?_
    refine d_write I (by rw [hD]; exact True.intro) sb ⟨q, hq⟩ ⟨room, nsys, _, (rel.put k hb rz).keeps fun c ys ec => ?_, q, es, ep, hq, x2, x3, x4, x5⟩
    rw [upd_ne (ne_of ec hD fun z => nomatch z)]
    exact ec
variable {g : TG} {tt : TT} {tk tv : TE} {vs : List Nat} {J : It} {fp : List Addr} {it : Addr} {tn : Nat → Heap → Prop} {pins : List (Addr × Obj)} {s : Shared} {σ : L2.St} {H : Hp} {D : Addr} {S : Hp → Prop} {R : Result → Shared → Prop}
theorem loop_d (hx : X.xe = fun _ _ => False) (hc : X.calm = true) (hu : X.A.units + 1 < cLine) (pg : PG X tg g) (pt : PTs X ifs tt) (pk : PE X kx tk) (pv : PE X vx tv) (T : Turn X.prog X.w X.K tg J fp it tn)
    (stat : ∀ {σ' : L2.St} {H' : Hp} {s' : Shared}, L2.Inv X pins σ' H' s' → (∀ b ∈ fp, H' b = none) → ∀ b ∈ fp, FpOk X pins H' b)
    (I : L2.Inv X pins (wipe σ vs) H s) (st : tn 0 s.heap) (nf : ∀ b ∈ fp, H b = none) (h : tTurns g tt (tEndD tk tv) vs J D σ S H)
    (hR : ∀ s' H', L2.Inv X pins (wipe σ vs) H' s' → S H' → R (.ok .next) s') :
    codeAny (model X.prog X.w) X.A (.compLoop (.DictComp kx vx [⟨tg, iter, ifs, 0⟩] scope pos) 0 (.ref it) (.ref D) X.env) R s := by
  obtain ⟨W, ⟨m0, w0⟩, turn⟩ := h
  refine compLoop_anyD (fun n s' => ∃ i H', L2.Inv X pins (wipe σ vs) H' s' ∧ tn i s'.heap ∧ (∀ b ∈ fp, H' b = none) ∧ W i n H') ?_ m0 ⟨0, H, I, st, nf, w0⟩
  rintro n sa ⟨i, Ha, Ia, sta, na, wa⟩
  rcases turn i n Ha wa with ⟨stop, z⟩ | ⟨go, Nx, hNx, step⟩
  · refine thnF (T.done X rfl rfl rfl hc i pins sa _ Ha (fun _ _ => False) Ia (stat Ia na) sta stop) fun r sb ⟨hr, Ib⟩ => ?_
    subst hr
    exact hR sb Ha Ib z
  · refine thnF (T.item X rfl rfl rfl hc i pins sa _ Ha (fun _ _ => False) Ia (stat Ia na) sta go) fun r sb ⟨u, hr, hb'⟩ => ?_
    subst hr
    refine thnF hb' fun _ sc ⟨x, Hc, Ic, rc, yc, stc, nc⟩ => ?_
    have Ip := Ic.pinned (stat Ic nc) (T.obj _ _ stc)
    have r1 := pg.run _ sc _ Hc x u _ Ip rc (step x Hc yc)
    rw [hx] at r1
    refine thnF r1 fun _ sd ⟨σd, Hd, Id, hw, qd⟩ => ?_
    have r2 := pt.run _ sd σd Hd _ Id qd
    rw [hx] at r2
    refine thnF r2 fun b se ⟨He, Ie, qe⟩ => ?_
    have fin : ∀ {s' : Shared} {H' : Hp}, L2.Inv X (pins ++ pinsAt fp sc.heap) σd H' s' → Nx H' → ∃ m, m < n ∧ ∃ i H', L2.Inv X pins (wipe σ vs) H' s' ∧ tn i s'.heap ∧ (∀ b ∈ fp, H' b = none) ∧ W i m H' := fun {s' H'} I' nx => by
      obtain ⟨m', hm, w'⟩ := hNx H' nx
      have pin' : ∀ b ∈ fp, ∀ o, sc.heap.get? b = some o → s'.heap.get? b = some o ∧ H' b = none := fun b hb o e =>
        let z := I'.pin (b, o) (List.mem_append_right _ (List.mem_append_right _ (mem_pinsAt hb e)))
        ⟨z.1, z.2.1⟩
      refine ⟨m', hm, i + 1, H', I'.unpinned.weak ?_ (fun j v e => ?_), T.keep _ _ _ stc fun b hb o e => (pin' b hb o e).1, fun b hb => ?_, w'⟩
      · rw [← wipe_length σd vs, hw]
      · rw [← hw] at e
        exact (wipe_some e).1
      · obtain ⟨o, e, _⟩ := T.obj _ _ stc b hb
        exact (pin' b hb o e).2
    cases b with
    | false =>
      simp only [Bool.false_eq_true, if_false] at qe ⊢
      exact fin Ie qe
    | true =>
      simp only [if_true] at qe ⊢
      have r3 := pk.run _ se σd He _ Ie qe
      rw [hx] at r3
      refine thnF r3 fun kv sf ⟨y, Hf, If, ry, qf⟩ => ?_
      have r4 := pv.run _ sf σd Hf _ If qf
      rw [hx] at r4
      exact thnF r4 fun vv sg ⟨z, Hg, Ig, rz, H3, p, nx⟩ => put_ok hu Ig p ry rz fun sh Ih => fin Ih nx
/-- {kx: vx for tg in iter if ..}, and what is done with it -/
theorem dcg_core {use : Option (Value → Sem Unit)} {Qf : Value → Shared → Prop} {Q : VK} {pos' : Pos} {wi : TI} (O : HO) (hO : O = .dK [] ∨ O = .dT []) (hc : X.calm = true) (hu : X.A.units + 1 < cLine) (hN : X.N.Nodup) (hi : PI X tg iter wi) (ok : BlkOk X.N X.env.scope scope own)
    (hg : ∀ (s : Shared) (H : Hp) (C : Addr) (cl : List (Str × Addr)) (fp : List Addr), PG (X.blk s H scope (compEnvC scope cl C X.env) fp) tg g)
    (ht : ∀ (s : Shared) (H : Hp) (C : Addr) (cl : List (Str × Addr)) (fp : List Addr), PTs (X.blk s H scope (compEnvC scope cl C X.env) fp) ifs tt)
    (hk : ∀ (s : Shared) (H : Hp) (C : Addr) (cl : List (Str × Addr)) (fp : List Addr), PE (X.blk s H scope (compEnvC scope cl C X.env) fp) kx tk)
    (hv : ∀ (s : Shared) (H : Hp) (C : Addr) (cl : List (Str × Addr)) (fp : List Addr), PE (X.blk s H scope (compEnvC scope cl C X.env) fp) vx tv)
    (hs : ∀ x, foldedSetIterable iter X.env x = pure x) (I : L2.Inv X pins σ H s) (h : tDcG O wi g tt tk tv (own.map (·.2)) σ H Q)
    (then' : ∀ D C s' m H', L2.Inv X pins σ H' s' → Q (.ref D) H' → s'.heap.Ns C m → FpOk X pins H' C → compPost (model X.prog X.w) X.A X.xe use Qf (.ref D) C (.ok .next) s') :
    wpAny (model X.prog X.w) X.A (comprehension (.DictComp kx vx [⟨tg, iter, ifs, 0⟩] scope pos) scope X.env pos' newDict false (eval iter X.env) use) Qf X.xe s := by
  have seen : ∀ y ∈ scope.names, y.2 = .free → ∃ c, X.env.cells.lookup y.1 = some c := fun y hy e => (ok.free y hy e).elim (fun k => I.ok.has _ (.inl k)) fun k => I.ok.has _ (.inr k)
  refine wpAny_comprehension_free (use := use) rfl hs (closure_ok seen) ok.kind (fun y hy e => by rw [ok.uniq y hy, e])
    (thn (hi.run pins s σ H _ I h) fun xv s1 h1 => thn h1 fun itv s2 ⟨it, fp, tn, J, H2, e, I2, T, st2, f2, q⟩ => ?_)
  subst e
  refine wpAny_newObj_type (newEnv_comp ?_)
  have fresh : H2 s2.heap.objs.size = none := I2.hok.fresh (Nat.le_refl _)
  have qD := q _ fresh
  have new : ObjOk X.prog X.w (upd H2 s2.heap.objs.size O) (s2.heap.push { cls := .type "dict", data := .dict #[] }) s2.heap.objs.size O := by
    rcases hO with rfl | rfl
    · exact dk_empty s2.heap I2.big
    · exact dt_empty s2.heap I2.big
  generalize hD : s2.heap.objs.size = D at fresh qD new
  generalize hs3 : ({ s2 with heap := s2.heap.push { cls := .type "dict", data := .dict #[] } } : Shared) = s3
  have up : s3.heap = s2.heap.push { cls := .type "dict", data := .dict #[] } := by rw [← hs3]
  generalize hH3 : upd H2 D O = H3 at qD new
  have I3 : L2.Inv X pins σ H3 s3 := by
    rw [← hH3, ← hs3]
    exact I2.laid (t' := s2.toks) (fun b o e => Heap.get?_push_of_some _ e) (Nat.le_of_eq hD) (hH3 ▸ new)
  have f3 : ∀ b ∈ fp, FpOk X pins H3 b ∧ b < s3.heap.objs.size := fun b hb => by
    obtain ⟨o, e, _⟩ := T.obj _ _ st2 b hb
    have lt := Heap.lt_size e
    refine ⟨⟨?_, (f2 b hb).2⟩, by rw [up, Heap.size_push]; exact Nat.lt_succ_of_lt lt⟩
    rw [← hH3, upd_ne (by rw [← hD]; exact Nat.ne_of_lt lt)]
    exact (f2 b hb).1
  have I4 := block_start I3 ok hN f3
  have hg := hg s3 H3 s3.heap.objs.size (cellsFrom (s3.heap.objs.size + 1) scope.names (cloFrom X.env.cells scope.names [])) fp
  have ht := ht s3 H3 s3.heap.objs.size (cellsFrom (s3.heap.objs.size + 1) scope.names (cloFrom X.env.cells scope.names [])) fp
  have hk := hk s3 H3 s3.heap.objs.size (cellsFrom (s3.heap.objs.size + 1) scope.names (cloFrom X.env.cells scope.names [])) fp
  have hv := hv s3 H3 s3.heap.objs.size (cellsFrom (s3.heap.objs.size + 1) scope.names (cloFrom X.env.cells scope.names [])) fp
  generalize hce : compEnvC scope (cellsFrom (s3.heap.objs.size + 1) scope.names (cloFrom X.env.cells scope.names [])) s3.heap.objs.size X.env = ce at I4 hg ht hk hv
  have cL : ce.locals = s3.heap.objs.size := by subst hce; rfl
  generalize hs4 : ({ s3 with heap := pushCells (s3.heap.push { cls := .type "dict", data := .dict #[] }) scope.names } : Shared) = s4 at I4
  have st4 : tn 0 s4.heap := T.keep _ _ _ st2 fun b _ o e => by
    rw [← hs4]
    exact pushCells_keeps _ _ _ _ (Heap.get?_push_of_some _ (by rw [up]; exact Heap.get?_push_of_some _ e))
  have loop := loop_d (X := X.blk s3 H3 scope ce fp) (it := it) (iter := iter) (scope := scope) (pos := pos) (R := compPost (model X.prog X.w) X.A X.xe use Qf (.ref D) s3.heap.objs.size) rfl hc hu hg ht hk hv T
    (fun I' hn b hb => ⟨hn b hb, (I'.ok.exf b hb).1, I'.ok.exfs b hb, .inl hb, fun x c e => (I'.ok.exf b hb).2 x c e, fun p hp => absurd (show p ∈ ([] : List (Addr × Obj)) ++ [] from hp) (by simp)⟩)
    I4 st4 (fun b hb => (f3 b hb).1.1) qD fun s5 H5 I5 z => by
      have I6 : L2.Inv X pins σ H5 s5 := I3.call' (ch := fp) I5.os I5.base I5.hok I5.bare fun b hb => ⟨(f3 b hb).1.2.2.2.1, (f3 b hb).1.2.1, (f3 b hb).1.2.2.2.2.1, (f3 b hb).1.2.2.2.2.2⟩
      have nC : H5 s3.heap.objs.size = none := cL ▸ (I5.free : H5 ce.locals = none)
      obtain ⟨m, hn, _⟩ := I5.loc
      exact then' D s3.heap.objs.size s5 m H5 I6 z (cL ▸ (show s5.heap.Ns ce.locals m from hn)) (I3.fpOk (Nat.le_refl _) nC)
  subst hs3 hs4 hce hD
  exact codeAny_compStart_dict loop (T.self X.A 0 _ _ _ st4 loop)
/-- .. as a value -/
theorem pe_dcg {wi : TI} (O : HO) (hO : O = .dK [] ∨ O = .dT []) (hc : X.calm = true) (hu : X.A.units + 1 < cLine) (hN : X.N.Nodup) (hi : PI X tg iter wi) (ok : BlkOk X.N X.env.scope scope own)
    (hg : ∀ (s : Shared) (H : Hp) (C : Addr) (cl : List (Str × Addr)) (fp : List Addr), PG (X.blk s H scope (compEnvC scope cl C X.env) fp) tg g) (ht : ∀ (s : Shared) (H : Hp) (C : Addr) (cl : List (Str × Addr)) (fp : List Addr), PTs (X.blk s H scope (compEnvC scope cl C X.env) fp) ifs tt)
    (hk : ∀ (s : Shared) (H : Hp) (C : Addr) (cl : List (Str × Addr)) (fp : List Addr), PE (X.blk s H scope (compEnvC scope cl C X.env) fp) kx tk) (hv : ∀ (s : Shared) (H : Hp) (C : Addr) (cl : List (Str × Addr)) (fp : List Addr), PE (X.blk s H scope (compEnvC scope cl C X.env) fp) vx tv)
    (hs : ∀ x, foldedSetIterable iter X.env x = pure x := by intro _; rfl) : PE X (.DictComp kx vx [⟨tg, iter, ifs, 0⟩] scope pos) (tDcG O wi g tt tk tv (own.map (·.2))) := by
  refine ⟨fun pins s σ H Q I h => ?_⟩
  rw [arm_eval_DictComp]
  refine dcg_core O hO hc hu hN hi ok hg ht hk hv hs I h fun D C s' m H' I' q hn f => ⟨m, hn, fun h2 sb => ?_⟩
  obtain ⟨g0, g1, g2, g3, g4, g5⟩ := f
  exact ⟨.ref D, H', I'.turned (t' := s'.toks) (fun b o hb e => (sb.2 b hb).trans e) g0 g1 g3 g4 g5, rfl, q⟩
theorem swD_true {gs : List Comprehension} {py : Pos} {y : Str} {l : Nat} {env : Env} (kind : env.scope.kind = .function) (loc : env.scope.names.lookup y = some .local) (line : (py.line == pos.line) = true) (far : (scope.names.any fun (n, k) => n == y && (k == .local || k == .cell)) = false) :
    swapsWith (.DictComp kx vx gs scope pos) (some (.Name y py)) l env = pure true := by
  have k1 : env.kindOf y = some .local := loc
  have k2 : env.blockKind = .function := by
    unfold Env.blockKind
    rw [kind]
    rfl
  unfold swapsWith
  simp only [k2, k1, far, Expr.pos, line]
  rfl
/-- name = {..} on one line, the name a local -/
theorem ps_setDc {i : Nat} {y : Str} {py spos : Pos} {wi : TI} (O : HO) (hO : O = .dK [] ∨ O = .dT []) (hc : X.calm = true) (hu : X.A.units + 1 < cLine) (hN : X.N.Nodup) (hy : X.N[i]? = some y) (loc : X.env.scope.names.lookup y = some .local)
    (sw : swapsWith (.DictComp kx vx [⟨tg, iter, ifs, 0⟩] scope pos) (some (.Name y py)) spos.line X.env = pure true) (hi : PI X tg iter wi) (ok : BlkOk X.N X.env.scope scope own)
    (hg : ∀ (s : Shared) (H : Hp) (C : Addr) (cl : List (Str × Addr)) (fp : List Addr), PG (X.blk s H scope (compEnvC scope cl C X.env) fp) tg g) (ht : ∀ (s : Shared) (H : Hp) (C : Addr) (cl : List (Str × Addr)) (fp : List Addr), PTs (X.blk s H scope (compEnvC scope cl C X.env) fp) ifs tt)
    (hk : ∀ (s : Shared) (H : Hp) (C : Addr) (cl : List (Str × Addr)) (fp : List Addr), PE (X.blk s H scope (compEnvC scope cl C X.env) fp) kx tk) (hv : ∀ (s : Shared) (H : Hp) (C : Addr) (cl : List (Str × Addr)) (fp : List Addr), PE (X.blk s H scope (compEnvC scope cl C X.env) fp) vx tv)
    (hs : ∀ x, foldedSetIterable iter X.env x = pure x := by intro _; rfl) : PS X (.Assign [.Name y py] (.DictComp kx vx [⟨tg, iter, ifs, 0⟩] scope pos) spos) (tAsg (tDcG O wi g tt tk tv (own.map (·.2))) (gName i)) := by
  refine ⟨fun pins s σ H D I h => ?_⟩
  rw [exec_Assign_Name_used _ _ _ _ sw]
  refine wpAny_bind (wpAny_standAt (wpAny_bind ?_))
  have h : tDcG O wi g tt tk tv (own.map (·.2)) σ H (fun x H1 => gName i x σ H1 D.nx) := h
  refine wpAny_bind (thn (dcg_core (use := some (assign (.Name y py) X.env)) (Qf := fun _ s' => SP X pins D .next s') O hO hc hu hN hi ok hg ht hk hv hs I h fun L C s' m H' I' q hn f => ?_) fun _ s' hq => wpAny_pure (wpAny_pure hq))
  show wpAny _ _ (assign (.Name y py) X.env (.ref L)) _ _ _
  refine wpAny_assign_Name (store_ok2 (v := V.ref L) I' hN hy (.inl loc) rfl (fun s2 I2 ⟨a, sb, ha⟩ => ?_) (.inr loc))
  obtain ⟨g0, g1, g2, g3, g4, g5⟩ := f
  have apart : C ≠ a := ha.elim (fun z => by rw [z]; exact g1) fun z e => g4 y a z e.symm
  exact ⟨m, hn.sameBut sb apart, fun h3 sb3 => ⟨_, H', I2.turned (t' := s2.toks) (fun b o hb e => (sb3.2 b hb).trans e) g0 g1 g3 g4 g5, q⟩⟩
end
end Dct
set_option maxHeartbeats 1000000
/-! dict comprehensions -/
namespace Dl
open PySem PySem.Spec PyProof.Rows L2 Lcn Sq
def dDc (gv : Dt → List Sl → (List Sl → Prop) → Prop) (tv : EvT) (kv vv : EvE) (vs : List Nat) : List Dt → Oc → List Sl → (Oc → Prop) → Prop
  | [], c, _, Q => Q c
  | d :: r, c, δ, Q => gv d (wipeS δ vs) fun δ2 => tv δ2 fun b => if b = true then kv δ2 fun y => vv δ2 fun z => lenO c < sizeLine ∧ ∃ c', putO c y z = some c' ∧ dDc gv tv kv vv vs r c' δ Q else dDc gv tv kv vv vs r c δ Q
/-- c is the dict at its start: `.t []` or `.k []` -/
def dDcE (c : Oc) (iv : EvA) (gv : Dt → List Sl → (List Sl → Prop) → Prop) (tv : EvT) (kv vv : EvE) (vs : List Nat) : EvE := fun δ Q => iv δ fun ds => noOwn vs δ = true ∧ dDc gv tv kv vv vs ds c δ fun c => Q c.dt
def hoO : Oc → HO
  | .t _ => .dT []
  | _ => .dK []
/-- an empty dict of keys, or of tuples -/
inductive Mt0 : Oc → Prop
  | t : Mt0 (.t [])
  | k : Mt0 (.k [])
section
variable {K : PySem.W.Frag} {o z : Bool}
theorem ve_dc_at {wi : TI} {iv : EvA} {g : TG} {tt : TT} {tk tv' : TE} {is vs : List Nat} {gv : Dt → List Sl → (List Sl → Prop) → Prop} {tv : EvT} {kv vv : EvE} {c0 : Oc} (m0 : Mt0 c0) {C : Ctx} {σ : L2.St} {δ : List Sl} {H : Hp} {Q : VK} {Qd : Dt → Prop}
    (hi : VIat o K wi iv C σ δ H) (hg : VG K g gv is) (hv : ∀ i, i ∈ is → i ∈ vs) (ht : VT K tt tv) (hk : VE true K tk kv) (hvv : VE true K tv' vv) (k : C.K = K) (s : Sok C H σ δ) (e : dDcE c0 iv gv tv kv vv vs δ Qd)
    (q : ∀ v d H', Stp C.S H H' → Rep K (Zz z C δ) H' v d → Qd d → Q v H') : Dct.tDcG (hoO c0) wi g tt tk tv' vs σ H Q := by
  subst k
  refine hi _ _ rfl s e fun J n G Y ds H1 base gs w hn e1 hb0 hb hgs it e => ?_
  obtain ⟨no, e⟩ := e
  intro D hD
  have s1 := s.step e1
  have nsa : ¬ sa C.S D := fun c => (s1.ava.na hD) (s1.avs D c)
  have nch : ¬ ch C.S D := fun c => nsa (ch_sa c)
  have hD0 : H D = none := by
    cases x : H D with
    | none => rfl
    | some u =>
      rw [e1.keep D u nch x] at hD
      cases hD
  have h0 := s.h0 hD0
  have nto : nt (hoO c0) := by cases m0 <;> exact ⟨fun _ => HO.noConfusion, fun _ _ => HO.noConfusion⟩
  have sP : Sok (C.plus D) (upd H1 D (hoO c0)) σ δ := s1.plus hD nto
  have kp0 : ∀ b u, H1 b = some u → upd H1 D (hoO c0) b = some u := same_new hD
  let A : Addr → Prop := fun b => Zd C δ b ∨ b = D
  have hA : ∀ b, A b → Zd (C.plus D) δ b := fun b zb => zd_plus.mpr zb
  have hAc : ∀ b, ch C.S b → A b := fun b c => .inl (zch s1 c)
  have gP : ∀ g, g ∈ gs → Rep C.K (Zd (C.plus D) δ) (upd H1 D (hoO c0)) g.1 g.2 := fun g m => (hgs g m).move (fun b u nz h => kp0 b u h) fun b zb => by
    rcases zd_plus.mp zb with zb | zz
    · exact .inl zb
    · exact .inr (by rw [zz]; exact hD)
  have hbP : ∀ Hc, (∀ b u, ¬ ch C.S b → b ≠ D → upd H1 D (hoO c0) b = some u → Hc b = some u) → base Hc := fun Hc kp => hb Hc fun b u c h => kp b u c (fun zz => by rw [zz, hD] at h; cases h) (kp0 b u h)
  refine turns_it w (fun i Hc => (∀ b u, ¬ ch C.S b → b ≠ D → upd H1 D (hoO c0) b = some u → Hc b = some u) ∧ Gs C.S Hc ∧ ∃ u c, Hc D = some u ∧ ORep C.K A Hc u c ∧ c.inn = [] ∧ dDc gv tv kv vv vs (ds.drop i) c δ fun c => Qd c.dt) ?_ ?_ ?_ ?_
  · refine ⟨fun b u _ _ h => h, sP.g, _, c0, upd_same, ?_, ?_, by rw [List.drop_zero]; exact e⟩
    · cases m0
      · exact ⟨rfl, .nil⟩
      · exact ⟨rfl, .nil⟩
    · cases m0 <;> rfl
  · rintro i Hc _ ⟨kp, gs', u, c, hDl, ra, hin, e⟩
    have sC : Sok (C.plus D) Hc σ δ := sP.plusStep kp gs' h0 ⟨_, hDl, ra.nt⟩
    exact it.g (Zd (C.plus D) δ) Hc (fun b zb => sC.alz b zb) (hbP Hc kp) fun g m => (gP g m).move (fun b u nz h => kp b u (fun c => nz (zch sP c)) (fun zz => nz (zd_plus.mpr (.inr zz))) h) fun _ z => .inl z
  · rintro i x Hc H' hi2 ⟨kp, gs', u, c, hDl, ra, hin, e⟩ y
    have hid : i < ds.length := by omega
    have hdr : ds.drop i = ds[i] :: ds.drop (i + 1) := List.drop_eq_getElem_cons hid
    rw [hdr] at e
    have sC : Sok (C.plus D) Hc σ δ := sP.plusStep kp gs' h0 ⟨_, hDl, ra.nt⟩
    obtain ⟨sm, rx⟩ := it.y i ds[i] (Zd (C.plus D) δ) Hc x H' (List.getElem?_eq_getElem hid) (fun b zb => sC.alz b zb) (hbP Hc kp) (fun g m => (gP g m).move (fun b u nz h => kp b u (fun c => nz (zch sP c)) (fun zz => nz (zd_plus.mpr (.inr zz))) h) fun _ z => .inl z) y
    have sB : Sok (C.plus D) H' (L2.wipe σ vs) (wipeS δ vs) := (sC.step (Stp.of sm)).wipe vs
    refine hg (C.plus D) _ _ H' x ds[i] _ _ rfl sB (rx.mono fun b zb => zd_ow (ow_wipe δ vs) zb) e fun σ2 δ2 s2 w2 z2 o2 e => ⟨by rw [w2 vs hv, wipe_idem σ vs vs fun _ m => m], ?_⟩
    refine ht (C.plus D) σ2 δ2 H' _ _ rfl s2 e fun b H3 e3 e => ?_
    have k3 : ∀ b u, ¬ ch C.S b → Hc b = some u → H3 b = some u := fun b u c h => e3.keep b u c (sm b u h)
    have r3 : ORep C.K A H3 u c := ra.move (fun b u nz h => k3 b u (fun c => nz (hAc b c)) h) (fun _ z => .inl z) fun b hb => by rw [hin] at hb; cases hb
    cases b
    · rw [if_neg Bool.false_ne_true] at e ⊢
      exact ⟨fun b u c nz h => k3 b u c (kp b u c nz h), (s2.step e3).g, u, c, k3 D _ nch hDl, r3, hin, e⟩
    · rw [if_pos rfl] at e ⊢
      have ge : ∀ b, Zd (C.plus D) δ b → Zd (C.plus D) δ2 b := fun b zb => by
        have z1 : Zd (C.plus D) (wipeS δ vs) b := (ow_wipe δ vs).ge no zb
        refine o2.ge ?_ z1
        refine List.all_eq_true.mpr fun j mj => ?_
        cases hq : (wipeS δ vs)[j]? with
        | none => rfl
        | some u =>
          cases u with
          | own a es =>
            have h1 := (ow_wipe δ vs).old j a es hq
            have h2 := List.all_eq_true.mp no j (hv j mj)
            rw [h1] at h2
            cases h2
          | _ => rfl
      have s3 := s2.step e3
      refine hk (C.plus D) σ2 δ2 H3 _ _ rfl s3 e fun y dy H4 e4 ry e => ?_
      have s4 := s3.step e4
      refine hvv (C.plus D) σ2 δ2 H4 _ _ rfl s4 e fun zv dz H5 e5 rz e => ?_
      obtain ⟨hl, c', hp, e⟩ := e
      have k5 : ∀ b u, ¬ ch C.S b → H3 b = some u → H5 b = some u := fun b u c h => e5.keep b u c (e4.keep b u c h)
      have r5 : ORep C.K A H5 u c := r3.move (fun b u nz h => k5 b u (fun c => nz (hAc b c)) h) (fun _ z => .inl z) fun b hb => by rw [hin] at hb; cases hb
      have ry5 : Rep C.K A H5 y dy := (rep_st s4 e5 ry).mono fun b ab => ge b (hA b ab)
      have rz5 : Rep C.K A H5 zv dz := rz.mono fun b ab => ge b (hA b ab)
      have d5 := k5 D _ nch (k3 D _ nch hDl)
      obtain ⟨u', dp, r6⟩ := put_ok d5 r5 ry5 rz5 hp hl
      have hin' := putO_inn hp
      refine ⟨upd H5 D u', dp, fun b o c nb h => ?_, ?_, u', c', upd_same, ?_, hin', e⟩
      · rw [upd_ne nb]
        exact k5 b o c (k3 b o c (kp b o c nb h))
      · exact (s4.step e5).g.upd nsa fun c q h => by
          rw [d5] at h
          exact r5.nt.2 c q (Option.some.inj h)
      · refine r6.move (fun b o nz h => ?_) (fun _ z => .inl z) fun b hb => by rw [hin'] at hb; cases hb
        rw [upd_ne (fun (zz : b = D) => nz (.inr zz))]
        exact h
  · rintro Hc ⟨kp, gs', u, c, hDl, ra, hin, e⟩
    rw [List.drop_eq_nil_of_le (by omega)] at e
    have m : ∀ b, Zz z C δ b → A b := fun b h => .inl (by cases z; exact .inl h; exact h)
    refine q (.ref D) c.dt Hc ⟨fun b u c h => kp b u c (fun zz => by rw [zz, hD0] at h; cases h) (kp0 b u (e1.keep b u c h)), fun _ => gs'⟩ (orep_rep ra hDl m (s.al.na hD0) fun b hb => by rw [hin] at hb; cases hb) e
end
section
variable {ι : Type} {K : PySem.W.Frag} {X : ι → Cx} {z o : Bool} {pos p2 : Pos} {tg iter kx vx : Expr} {ifs : List Expr} {iv : EvA} {gv : Dt → List Sl → (List Sl → Prop) → Prop} {tv : EvT} {kv vv : EvE} {scope : Scope} {own : List (Str × Nat)} {is : List Nat}
theorem de_dc {c0 : Oc} (m0 : Mt0 c0) (hc : ∀ i, (X i).calm = true) (hu : ∀ i, (X i).A.units + 1 < cLine) (hN : ∀ i, (X i).N.Nodup) (hi : DI o K X tg iter iv) (ok : ∀ i, BlkOk (X i).N (X i).env.scope scope own)
    (hg : DG K (bk X scope) tg gv is) (ht : DTs K (bk X scope) ifs tv) (hk : DE true K (bk X scope) kx kv) (he : DE true K (bk X scope) vx vv) (hv : ∀ i, i ∈ is → i ∈ own.map (·.2)) (hs : ∀ i, ∀ x, foldedSetIterable iter (X i).env x = pure x := by intro _ _; rfl) :
    DE z K X (.DictComp kx vx [⟨tg, iter, ifs, 0⟩] scope pos) (dDcE c0 iv gv tv kv vv (own.map (·.2))) := by
  obtain ⟨wi, pi, vi⟩ := hi
  obtain ⟨g, pg, vg⟩ := hg
  obtain ⟨tt, pt, vt⟩ := ht
  obtain ⟨tk, pk, vk⟩ := hk
  obtain ⟨te, pe, ve⟩ := he
  exact ⟨_, fun i => Dct.pe_dcg (hoO c0) (by cases m0; exact .inr rfl; exact .inl rfl) (hc i) (hu i) (hN i) (pi i) (ok i) (fun s H C cl fp => pg (i, s, H, C, cl, fp)) (fun s H C cl fp => pt (i, s, H, C, cl, fp)) (fun s H C cl fp => pk (i, s, H, C, cl, fp)) (fun s H C cl fp => pe (i, s, H, C, cl, fp)) (hs i),
    fun C σ δ H Q Qd k s e q => ve_dc_at m0 (vi C σ δ H) vg hv vt vk ve k s e q⟩
/-- name = {..}, on one line -/
theorem ds_dcV {c0 : Oc} (m0 : Mt0 c0) {i : Nat} {y : Str} {py spos : Pos} (hc : ∀ i, (X i).calm = true) (hu : ∀ i, (X i).A.units + 1 < cLine) (hN : ∀ i, (X i).N.Nodup) (hy : ∀ j, (X j).N[i]? = some y) (hyl : ∀ j, (X j).env.scope.names.lookup y = some .local)
    (hsw : ∀ j, swapsWith (.DictComp kx vx [⟨tg, iter, ifs, 0⟩] scope pos) (some (.Name y py)) spos.line (X j).env = pure true) (hi : DI o K X tg iter iv) (ok : ∀ i, BlkOk (X i).N (X i).env.scope scope own)
    (hg : DG K (bk X scope) tg gv is) (ht : DTs K (bk X scope) ifs tv) (hk : DE true K (bk X scope) kx kv) (he : DE true K (bk X scope) vx vv) (hv : ∀ i, i ∈ is → i ∈ own.map (·.2)) (hs : ∀ i, ∀ x, foldedSetIterable iter (X i).env x = pure x := by intro _ _; rfl) :
    DS K X (.Assign [.Name y py] (.DictComp kx vx [⟨tg, iter, ifs, 0⟩] scope pos) spos) (fun D δ => dDcE c0 iv gv tv kv vv (own.map (·.2)) δ fun d => D.nx (δ.set i (.val d))) := by
  obtain ⟨wi, pi, vi⟩ := hi
  obtain ⟨g, pg, vg⟩ := hg
  obtain ⟨tt, pt, vt⟩ := ht
  obtain ⟨tk, pk, vk⟩ := hk
  obtain ⟨te, pe, ve⟩ := he
  exact ⟨_, fun j => Dct.ps_setDc (hoO c0) (by cases m0; exact .inr rfl; exact .inl rfl) (hc j) (hu j) (hN j) (hy j) (hyl j) (hsw j) (pi j) (ok j) (fun s H C cl fp => pg (j, s, H, C, cl, fp)) (fun s H C cl fp => pt (j, s, H, C, cl, fp)) (fun s H C cl fp => pk (j, s, H, C, cl, fp)) (fun s H C cl fp => pe (j, s, H, C, cl, fp)) (hs j),
    vs_asgV (i := i) fun C σ δ H Q Qd k s e q => ve_dc_at (z := true) m0 (vi C σ δ H) vg hv vt vk ve k s e q⟩
end
end Dl
set_option maxHeartbeats 1000000
/-! comprehensions over a dict that stands still -/
namespace Dl
open PySem PySem.Spec PyProof.Rows L2 Lcn Sq
section
variable {K : PySem.W.Frag} {z : Bool} {i : Nat} {t : TE}
theorem stp_swap {C : Ctx} {H H1 : Hp} {d : Addr} {F u : HO} (g : Gs C.S H) (nsa : ∀ b, sa C.S b → b ≠ d) (hu : H d = some u) (e : Stp C.S (upd H d F) H1) (nu : ∀ c q, u ≠ LamX.CodeO c q) (nF : ∀ c q, F ≠ LamX.CodeO c q) : Stp C.S H (upd H1 d u) := by
  refine ⟨fun b o c x => ?_, fun _ => ?_⟩
  · by_cases z : b = d
    · rw [z] at x ⊢
      rw [upd_same, ← hu, x]
    · rw [upd_ne z]
      exact e.keep b o c (by rw [upd_ne z]; exact x)
  · have n : ¬ sa C.S d := fun c => nsa d c rfl
    refine (e.on (g.upd n fun c q h => ?_)).upd n fun c q h => ?_
    · rw [hu] at h
      exact nu c q (Option.some.inj h)
    · rw [e.keep d F (fun c => n (ch_sa c)) upd_same] at h
      exact nF c q (Option.some.inj h)
theorem ve_lk {ev : EvE} (v : ∀ (C : Ctx) (σ : L2.St) (δ : List Sl) (H : Hp) (Q : VK) (Qd : Dt → Prop), LkAt C σ i → C.K = K → Sok C H σ δ → ev δ Qd → (∀ v d H', Stp C.S H H' → Rep K (Zz z C δ) H' v d → Qd d → Q v H') → t σ H Q) : VE z K (tLkE t) (fun δ Q => dicAt δ i ∧ ev δ Q) := by
  intro C σ δ H Q Qd k s e q
  obtain ⟨hd, e⟩ := e
  obtain ⟨d, u, h1, hu, r, nz⟩ := dic_place s hd
  have na : ¬ C.av d := fun z => nz (.inl z)
  have nsa : ∀ b, sa C.S b → b ≠ d := fun b c z => na (by rw [← z]; exact s.avs b c)
  have nch : ¬ ch C.S d := fun c => nsa d (ch_sa c) rfl
  rcases r with r | ⟨od, r⟩
  · refine .inr ⟨d, u, r, hu.mut, fun od => ?_⟩
    refine v (C.lk d (.frz od u)) σ δ _ _ _ ⟨d, od, u, h1, upd_same, nch, hu⟩ k (s.lock hu r nz) e fun w x H' st rw' e => ?_
    have F : H' d = some (.frz od u) := st.keep d _ nch upd_same
    exact ⟨F, q w x _ (stp_swap s.g nsa r st hu.nc (fun _ _ => HO.noConfusion)) (Rep.sw rw' (sw_unlock hu F)) e⟩
  · refine .inl ?_
    exact v (C.lk d (.frz od u)) σ δ _ _ _ ⟨d, od, u, h1, upd_same, nch, hu⟩ k (s.lkd r nz) e fun w x H' st rw' e => q w x _ st rw' e
theorem vn_lk {nv : EvN} (v : ∀ (C : Ctx) (σ : L2.St) (δ : List Sl) (H : Hp) (Q : VK) (Qd : List Dt → Prop), LkAt C σ i → C.K = K → Sok C H σ δ → nv δ Qd →
    (∀ (p : Addr) (xs : List V) (ds : List Dt) (H' : Hp), H p = none → Stp C.S H H' → H' p = some (.lst xs) → RepL K (fun b => Zd C δ b ∨ b = p) H' xs ds → Qd ds → Q (.ref p) H') → t σ H Q) : VN K (tLkE t) (fun δ Q => dicAt δ i ∧ nv δ Q) := by
  intro C σ δ H Q Qd k s e q
  obtain ⟨hd, e⟩ := e
  obtain ⟨d, u, h1, hu, r, nz⟩ := dic_place s hd
  have na : ¬ C.av d := fun z => nz (.inl z)
  have nsa : ∀ b, sa C.S b → b ≠ d := fun b c z => na (by rw [← z]; exact s.avs b c)
  have nch : ¬ ch C.S d := fun c => nsa d (ch_sa c) rfl
  rcases r with r | ⟨od, r⟩
  · refine .inr ⟨d, u, r, hu.mut, fun od => ?_⟩
    refine v (C.lk d (.frz od u)) σ δ _ _ _ ⟨d, od, u, h1, upd_same, nch, hu⟩ k (s.lock hu r nz) e fun p xs ds H' np st hp rl e => ?_
    have F : H' d = some (.frz od u) := st.keep d _ nch upd_same
    have npd : p ≠ d := fun z => by
      rw [z, upd_same] at np
      cases np
    refine ⟨F, q p xs ds _ (by rw [upd_ne npd] at np; exact np) (stp_swap s.g nsa r st hu.nc (fun _ _ => HO.noConfusion)) (by rw [upd_ne npd]; exact hp) (RepL.sw rl (sw_unlock hu F)) e⟩
  · refine .inl ?_
    exact v (C.lk d (.frz od u)) σ δ _ _ _ ⟨d, od, u, h1, upd_same, nch, hu⟩ k (s.lkd r nz) e fun p xs ds H' np st hp rl e => q p xs ds H' np st hp rl e
end
section
variable {ι : Type} {K : PySem.W.Frag} {X : ι → Cx} {z : Bool} {pos p2 : Pos} {tg elt kx vx : Expr} {ifs : List Expr} {gv : Dt → List Sl → (List Sl → Prop) → Prop} {tv : EvT} {ev kv vv : EvE} {scope : Scope} {own : List (Str × Nat)} {is : List Nat} {i : Nat} {x : Str}
/-- [elt for tg in d], d a name -/
theorem dn_lcKeys (px : ∀ j, PE (X j) (.Name x p2) (tVar i)) (hc : ∀ i, (X i).calm = true) (hN : ∀ i, (X i).N.Nodup) (ok : ∀ i, BlkOk (X i).N (X i).env.scope scope own)
    (hg : DG K (bk X scope) tg gv is) (ht : DTs K (bk X scope) ifs tv) (he : DE true K (bk X scope) elt ev) (hv : ∀ i, i ∈ is → i ∈ own.map (·.2)) (hs : ∀ i, ∀ y, foldedSetIterable (.Name x p2) (X i).env y = pure y := by intro _ _; rfl) :
    DN K X (.ListComp elt [⟨tg, .Name x p2, ifs, 0⟩] scope pos) (fun δ Q => dicAt δ i ∧ dLcN (ivKeys i) gv tv ev (own.map (·.2)) δ Q) := by
  obtain ⟨g, pg, vg⟩ := hg
  obtain ⟨tt, pt, vt⟩ := ht
  obtain ⟨te, pe, ve⟩ := he
  exact ⟨_, fun i => pe_lk (pe_lc (hc i) (hN i) (pi_keys (px i)) (ok i) (fun s H C cl fp => pg (i, s, H, C, cl, fp)) (fun s H C cl fp => pt (i, s, H, C, cl, fp)) (fun s H C cl fp => pe (i, s, H, C, cl, fp)) (hs i)),
    vn_lk fun C σ δ H Q Qd lk k s e q => vn_lc_at (o := true) (vi_keys lk) vg hv vt ve k s e q⟩
/-- {kx: vx for tg in d}, d a name -/
theorem de_dcKeys {c0 : Oc} (m0 : Mt0 c0) (px : ∀ j, PE (X j) (.Name x p2) (tVar i)) (hc : ∀ i, (X i).calm = true) (hu : ∀ i, (X i).A.units + 1 < cLine) (hN : ∀ i, (X i).N.Nodup) (ok : ∀ i, BlkOk (X i).N (X i).env.scope scope own)
    (hg : DG K (bk X scope) tg gv is) (ht : DTs K (bk X scope) ifs tv) (hk : DE true K (bk X scope) kx kv) (he : DE true K (bk X scope) vx vv) (hv : ∀ i, i ∈ is → i ∈ own.map (·.2)) (hs : ∀ i, ∀ y, foldedSetIterable (.Name x p2) (X i).env y = pure y := by intro _ _; rfl) :
    DE z K X (.DictComp kx vx [⟨tg, .Name x p2, ifs, 0⟩] scope pos) (fun δ Q => dicAt δ i ∧ dDcE c0 (ivKeys i) gv tv kv vv (own.map (·.2)) δ Q) := by
  obtain ⟨g, pg, vg⟩ := hg
  obtain ⟨tt, pt, vt⟩ := ht
  obtain ⟨tk, pk, vk⟩ := hk
  obtain ⟨te, pe, ve⟩ := he
  exact ⟨_, fun i => pe_lk (Dct.pe_dcg (hoO c0) (by cases m0; exact .inr rfl; exact .inl rfl) (hc i) (hu i) (hN i) (pi_keys (px i)) (ok i) (fun s H C cl fp => pg (i, s, H, C, cl, fp)) (fun s H C cl fp => pt (i, s, H, C, cl, fp)) (fun s H C cl fp => pk (i, s, H, C, cl, fp)) (fun s H C cl fp => pe (i, s, H, C, cl, fp)) (hs i)),
    ve_lk fun C σ δ H Q Qd lk k s e q => ve_dc_at (o := true) m0 (vi_keys lk) vg hv vt vk ve k s e q⟩
end
end Dl
set_option maxHeartbeats 1000000
/-! repr of a list or a tuple, where nothing else is being shown -/
namespace Dl
open PySem PySem.Spec PyProof.Rows L2 Lcn Sq
/-- a list or a tuple that can be shown -/
def shwD (d : Dt) : Bool := (match d with
  | .lst _ => true
  | .tup _ => true
  | _ => false) && (shD d && ((py d).showable && decide ((py d).shown.length ≤ sizeLine)))
def rRepr (K : PySem.W.Frag) : List V → Hp → VK → Prop := fun vs H Q => ∃ (a : Addr) (d : PyData), vs = [.ref a] ∧ Dp K H (.ref a) d ∧ d.canLay0 = true ∧ d.depth ≤ 64 ∧ d.showable = true ∧ d.shown.length ≤ sizeLine ∧ Q (.str d.shown) H
theorem cr_repr {X : Cx} (hg : X.A.guards = some []) (hu : X.A.units + 66 < cLine) : CallR X (.builtin "repr") (rRepr X.K) := by
  intro pins s σ H xs us Q I r h
  obtain ⟨a, d, rfl, hd, hl, hdp, hs, hz, q⟩ := h
  rw [Vals.ref1 r]
  obtain ⟨as, rd⟩ := Dp.reads I d (.ref a) (.ref a) hd rfl
  exact repr_of_reads' rd hs (PyData.noDict_hsm (PyData.hasDict_of_canLay d hl)) hg (by omega) (fun _ _ e => e) (fun h' u tk hk => ⟨.str d.shown, H, I.kept hk, ⟨u, rfl⟩, q⟩) hz
def dRepr (ds : List Dt) (Q : Dt → Prop) : Prop := ∃ d, ds = [d] ∧ shwD d = true ∧ Q (.str (py d).shown)
theorem rc_repr {K : PySem.W.Frag} : RcOk K (rRepr K) dRepr := fun av H xs ds Q Qd al r e q => by
  obtain ⟨d, rfl, hs, e⟩ := e
  obtain ⟨x, rfl, rx⟩ := repl1 r
  unfold shwD at hs
  simp only [Bool.and_eq_true, decide_eq_true_eq] at hs
  obtain ⟨hk, hsh, h1, h2⟩ := hs
  obtain ⟨s1, s2⟩ := sh_py hsh
  have dp := dp_of d x s2 rx
  have hdp : (py d).depth ≤ 64 := by
    unfold shD at hsh
    rw [Bool.and_eq_true] at hsh
    exact of_decide_eq_true hsh.2
  have fin : ∀ a, x = .ref a → rRepr K [x] H Q := fun a ea => by
    subst ea
    exact ⟨a, py d, rfl, dp, lay_py d s2, hdp, h1, h2, q _ _ H (Same.refl _) (.str _) e⟩
  cases d with
  | lst ds =>
    obtain ⟨a, ys, rfl, _⟩ := rx.lst_inv
    exact fin a rfl
  | tup ds =>
    obtain ⟨a, ys, rfl, _⟩ := rx.tup_inv
    exact fin a rfl
  | _ => cases hk
end Dl
set_option maxHeartbeats 2000000
/-! promises of defs that are called where nothing is being shown: what repr of a list wants -/
namespace Gd
open PySem PySem.Spec PyProof.Rows L2
variable {P : Program} {w : World} {K : PySem.W.Frag} {mg : Str → Option Value} {base : Heap} {CX : CXT}
structure FnG (P : Program) (w : World) (K : PySem.W.Frag) (mg : Str → Option Value) (base : Heap) (CX : CXT) (k : Nat) (f : Addr) (fd : FuncData) (ps : List Str) (sp : Sp) : Prop where
  ln : ∀ xs H Q E, sp xs H Q E → xs.length = ps.length
  go : ∀ (A : Around) (up : List Env) (s : Shared) (H : Hp) (ar : Args) (us : List Value) (xs : List V) (Q : VK) (E : XK), A.guards = some [] → Room k A → Env0 P w K mg base A up s H → BindsTo s fd ar (ps.zip us) → Vals xs us → sp xs H Q E →
    codeAny (model P w) A (.call (.ref f) ar) (CR CX up P w H s Q E) s
theorem of_ok {k : Nat} {f : Addr} {fd : FuncData} {ps : List Str} {sp : Sp} (F : FnOk P w K mg base CX k f fd ps sp) : FnG P w K mg base CX k f fd ps sp :=
  ⟨F.len, fun A up s H ar us xs Q E _ => F.run A up s H ar us xs Q E⟩
/-- a def, by its body -/
theorem fund_g {name qual : Str} {params : Arguments} {body : List Stmt} {scope : Scope} {dvs : List V} {kws : List (Str × V)} {f : Addr} {fd : FuncData} {N ps : List Str} {k : Nat} {sp : Sp} (F : FunD K name qual params body scope dvs kws f fd) (S : FnScope N ps scope)
    (ln : ∀ xs H Q E, sp xs H Q E → xs.length = ps.length)
    (bd : ∀ (cd : Value) (A : Around) (up : List Env) (s : Shared) (H : Hp) (xs : List V) (Q : VK) (E : XK), A.guards = some [] → Room k (A.deeper (envOfC qual scope s.heap.objs.size f cd)) → sp xs H Q E →
      ∃ t, PSs (cxOf CX P w K mg base N qual scope f cd A up s H E) body t ∧ t { nx := fun _ H' => Q .non H', rt := Q } (start N xs) H) : FnG P w K mg base CX (k + 1) f fd ps sp := by
  obtain ⟨_, _, dV, kV, doc, pm, an, cd, ct, _, rfl, lk, hcd, _, _⟩ := F.ex
  refine ⟨ln, fun A up s H ar us xs Q E hg hr e0 hb rv hs => ?_⟩
  have kin : K.In s.heap := e0.mod.kin.keeps fun b o z => (e0.bs b o z).1
  have nolim : s.heap.NoLimit := e0.mod.nolimit.keeps fun b o z => (e0.bs b o z).1
  have kinds : ∀ y ∈ ps.zip us, scope.names.lookup y.1 = some .local ∨ (scope.names.lookup y.1 = some .cell ∧ ((cellsFrom (s.heap.objs.size + 1) scope.names []).lookup y.1).isSome = true) := by
    intro y hy
    refine (S.par y.1 (List.of_mem_zip (a := y.1) (b := y.2) hy).1).imp id fun z => ⟨z, ?_⟩
    exact PySem.W.cellsFrom_some _ _ _ (.inl z)
  refine codeAny_call_function hr.depth (kin _ _ lk) rfl S.co S.gen rfl (PySem.W.codeRec_of kin hcd) (hb _ _ _ _ (wpAny_newFunctionEnv_cells S.kind kinds fun env he s1 fresh => ?_))
  subst he
  refine ⟨nolim.keeps fresh.toInCall.keep, codeAny_func ?_⟩
  obtain ⟨t, ps', hq⟩ := bd cd A up s H xs Q E hg (hr.deeper _) hs
  have I := inv_start (CX := CX) (E := E) S hr.hd e0 (ln _ _ _ _ hs) rv fresh
  refine wpAny_mono (ps'.run [] s1 (start N xs) H _ I hq) (fun fl s2 z => ?_) fun e s2 z => z
  cases fl with
  | ret u =>
    obtain ⟨v, _, H2, J, r, q⟩ := z
    exact ⟨v, H2, J.os, J.bare, J.base, J.hok, r, q⟩
  | next =>
    obtain ⟨_, H2, J, q⟩ := z
    exact ⟨V.non, H2, J.os, J.bare, J.base, J.hok, rfl, q⟩
  | brk => exact z.elim fun _ z => z.elim fun _ z => z.2.elim
  | cont => exact z.elim fun _ z => z.elim fun _ z => z.2.elim
section
variable {X : Cx} {k : Nat} {f : Addr} {fd : FuncData} {ps : List Str} {sp : Sp} {dvs : List V} {ds : List Value} {E : XK} {x : Str} {p pos : Pos} {e : Expr} {es : List Expr} {t : TA}
theorem goes {pins : List (Addr × Obj)} {σ : L2.St} {H : Hp} {s : Shared} {Q : VK} {us : List Value} {xs : List V} (F : FnG X.prog X.w X.K X.mg X.base CX k f fd ps sp) (hg : X.A.guards = some []) (hr : Room k X.A) (hb : Binds X.K fd ps ds) (hd : Vals dvs ds) (hx : Passes CX X E)
    (I : L2.Inv X pins σ H s) (r : Vals xs us) (h : sp (xs ++ dvs) H Q E) : wpAny (model X.prog X.w) X.A (call (.ref f) us) (EP X pins σ Q) X.xe s := by
  have all := r.append hd
  have len : (us ++ ds).length = ps.length := all.length.symm.trans (F.ln _ _ _ _ h)
  refine wpAny_call (codeAny_mono (F.go X.A X.stack s H ⟨us, []⟩ _ _ Q E hg hr I.env0 (hb s us I.kIn len) all h) fun o s2 z => ?_)
  match o, z with
  | .error x, z => exact hx pins σ H s x s2 I z
  | .ok (.ret u), z => exact I.after z
  | .ok .next, z => exact z.elim
  | .ok .brk, z => exact z.elim
  | .ok .cont, z => exact z.elim
theorem pe_callG (F : FnG X.prog X.w X.K X.mg X.base CX k f fd ps sp) (hG : X.A.guards = some []) (hr : Room k X.A) (hg : Gl X x) (hm : X.mg x = some (.ref f)) (hk : PySem.W.keepIn X.K (.ref f) = true) (hb : Binds X.K fd ps ds) (hd : Vals dvs ds) (hx : Passes CX X E)
    (ha : PA X (e :: es) t) (hdb : (x == ("__debug__" : Str)) = false := by decide) (he : starEach (e :: es) X.env = (false, eval e X.env) :: starEach es X.env := by rfl) (hpl : (backTo pos (starEach es X.env)).any (·.1) = false := by rfl) :
    PE X (.Call (.Name x p) (e :: es) [] pos) (tCall sp dvs E t) :=
  ⟨fun pins s σ H Q I h => wpAny_Call_Name_kw (ld_glob I hg hm (PySem.W.callWith_K (h₀ := X.base) I.ok.mod.kin hk (thn (ha.run pos pins s σ H _ I h) fun us s1 ⟨_, _, I1, r, q⟩ => ⟨I1.kIn, goes F hG hr hb hd hx I1 r q⟩) he hpl) hdb)⟩
end
end Gd
set_option maxHeartbeats 2000000
/-! a law's end, where its promise is one of FnG -/
namespace Gd
open PySem PySem.Spec PyProof.Rows L2
section
variable {P : Program} {w : World} {K : PySem.W.Frag} {mg mb : Str → Option Value} {CX : CXT} {k : Nat} {fa a : Addr} {fd : FuncData} {x : Str} {sp : Sp} {s : Shared} {us : List Value} {ns : List Int}
/-- what a law's call leaves -/
def Fin (s : Shared) : Result → Shared → Prop := fun r s2 => r = .ok (.ret (.bool true)) ∧ OldK s.heap s2.heap ∧ s2.os = s.os ∧ AllBare s2.gens
/-- the heap is told by H, in which the script alone may stand -/
theorem call_at {H : Hp} (kin : K.In s.heap) (nm : s.heap.Ns mainGlobals mg) (nb : s.heap.Ns builtinsNs mb) (bb : ∀ x : Str, x ≠ "__name__" → mb x = bootBuiltins x) (nolim : s.heap.NoLimit) (ng : s.gens = #[])
    (sc : s.heap.get? a = some { cls := .type "list", data := .seq us.toArray }) (hr : Room k callerA) (F : ∀ base : Heap, K.In base → base.Ns mainGlobals mg → FnG P w K mg base CX k fa fd [x] sp) (hb : ∀ (s : Shared) (u : Value), BindsTo s fd ⟨[u], []⟩ [(x, u)])
    (onl : Only H) (q : sp [.ref a] H (fun v _ => v = .bl true) fun _ _ _ => False) (noX : ∀ e s2, CX [] H s (fun _ _ _ => False) e s2 → False) (held : HOk P w H s.heap) (mine : ∀ b, H b ≠ none → b = a) (far : H a ≠ none → K.lookup a = none) :
    codeAny (model P w) callerA (.call (.ref fa) ⟨[.ref a], []⟩) (Fin s) s := by
  have out : ∀ {b : Addr}, b ≠ a → H b = none := fun {b} nb => Classical.byContradiction fun z => nb (mine b z)
  have under : ∀ {b : Addr} {o : Obj}, s.heap.get? b = some o → H b = none → (hidT s.heap H).get? b = some o := fun g n => hidT_get g n
  have dict : ∀ {b : Addr} {m : Str → Option Value}, s.heap.Ns b m → (hidT s.heap H).Ns b m := by
    rintro b m ⟨o, es, ep, g, dd, rest⟩
    refine ⟨o, es, ep, under g (out fun z => ?_), dd, rest⟩
    subst z
    rw [sc] at g
    cases g
    exact Data.noConfusion (show Data.seq us.toArray = Data.dict es ep from dd)
  have kin0 : K.In (hidT s.heap H) := fun b o l => under (kin b o l) (by
    cases hh : H b with
    | none => rfl
    | some v =>
      have eb := mine b (fun z => by rw [hh] at z; cases z)
      subst eb
      rw [far (fun z => by rw [hh] at z; cases z)] at l
      cases l)
  have mod : Mod K mg (hidT s.heap H) := by
    obtain ⟨mc, c1, c2⟩ := nolim
    exact ⟨kin0, dict nm, ⟨mb, dict nb, bb⟩, ⟨mc, dict c1, c2⟩⟩
  have env : Env0 P w K mg (hidT s.heap H) callerA [] s H := ⟨rfl, mod, fun b o g => of_hidT g, Nat.le_of_eq (hidT_size _ _), trivial, nofun, held, .of_eq ng⟩
  refine codeAny_mono ((F _ kin0 (dict nm)).go callerA [] s H ⟨[.ref a], []⟩ [.ref a] [.ref a] _ _ rfl hr env (hb s (.ref a)) (.cons rfl .nil) q) fun r s2 z => ?_
  match r, z with
  | .error e, z => exact (noX e s2 z).elim
  | .ok .next, z => exact z.elim
  | .ok .brk, z => exact z.elim
  | .ok .cont, z => exact z.elim
  | .ok (.ret u), z =>
    obtain ⟨v, H2, os, bare, un, held2, rel, (e1 : v = .bl true)⟩ := z
    subst e1
    cases (show u = Value.bool true from rel)
    refine ⟨rfl, OldK.of_keep fun b o g => ?_, os, bare⟩
    rcases onl b with n | ⟨ob, xs, n⟩
    · exact un.keep b o g n nofun nofun
    · have g2 := (held2 b _ (un.frzs b ob _ n)).1
      rw [(held b _ n).1] at g
      rw [← Option.some.inj g]
      exact g2
theorem law_call (kin : K.In s.heap) (nm : s.heap.Ns mainGlobals mg) (nb : s.heap.Ns builtinsNs mb) (bb : ∀ x : Str, x ≠ "__name__" → mb x = bootBuiltins x) (nolim : s.heap.NoLimit) (ng : s.gens = #[])
    (sc : s.heap.get? a = some { cls := .type "list", data := .seq us.toArray }) (wh : IntsAre us ns) (fit : ns.length ≤ sizeLine) (hr : Room k callerA) (F : ∀ base : Heap, K.In base → base.Ns mainGlobals mg → FnG P w K mg base CX k fa fd [x] sp) (hb : ∀ (s : Shared) (u : Value), BindsTo s fd ⟨[u], []⟩ [(x, u)])
    (q : ∀ H : Hp, Only H → SqL K H a (ns.map V.int) → sp [.ref a] H (fun v _ => v = .bl true) fun _ _ _ => False) (noX : ∀ H e s2, CX [] H s (fun _ _ _ => False) e s2 → False) :
    codeAny (model P w) callerA (.call (.ref fa) ⟨[.ref a], []⟩) (Fin s) s := by
  have vals := vals_ints wh
  cases hk : K.lookup a with
  | some o =>
    have g := kin a o hk
    rw [sc] at g
    cases g
    have onl : Only (fun _ => none) := fun _ => .inl rfl
    refine call_at kin nm nb bb nolim ng sc hr F hb onl (q _ onl (.inr ⟨_, us.toArray, _, hk, rfl, rfl, rfl, ?_, ?_⟩)) (noX _) nofun (fun b z => absurd rfl z) fun z => absurd rfl z
    · rw [List.size_toArray, wh.length]
      exact fit
    · simpa using vals
  | none =>
    let ob : Obj := { cls := .type "list", data := .seq us.toArray }
    let H : Hp := fun b => if b = a then some (.frz ob (.lst (ns.map V.int))) else none
    have at_a : H a = some (.frz ob (.lst (ns.map V.int))) := if_pos rfl
    have off : ∀ {b : Addr}, b ≠ a → H b = none := fun n => if_neg n
    have onl : Only H := fun b => (Classical.em (b = a)).elim (fun e => .inr ⟨_, _, e ▸ at_a⟩) fun n => .inl (off n)
    refine call_at kin nm nb bb nolim ng sc hr F hb onl (q H onl (.inl (.inr ⟨ob, at_a⟩))) (noX H) (fun b v g => ?_) (fun b z => Classical.byContradiction fun n => z (off n)) fun _ => hk
    by_cases n : b = a
    · subst n
      rw [at_a] at g
      cases g
      exact ⟨sc, by rw [List.length_map]; exact fit, us, _, vals, sc⟩
    · rw [off n] at g
      cases g
end
/-- the end of a law's row -/
theorem walk_ofG {l : PySem.W.OpenLaw} {n k : Nat} {q : Program} {loose : List Str} {XP : (Str → Option Value) → Heap → Prop} {YP : World → Heap → Prop} {d : DefRec} {CX : CXT} {x : Str}
    (hn : l.most = some n) (hn2 : n ≤ sizeLine) (hdf : d.params.defaults = []) (hr : Room k callerA)
    (F : ∀ (w : World) (mg : Str → Option Value) (fa : Addr) (h : Heap), YP w h → h.Ns mainGlobals mg → mg d.name = some (.ref fa) →
      ∃ (K : PySem.W.Frag) (fd : FuncData) (sp : Sp), K.In h ∧ (∀ (s : Shared) (u : Value), BindsTo s fd ⟨[u], []⟩ [(x, u)]) ∧
        (∀ (H : Hp) (a : Addr) (ns : List Int), ns.length ≤ n → Only H → SqL K H a (ns.map V.int) → sp [.ref a] H (fun v _ => v = .bl true) fun _ _ _ => False) ∧
        ∀ base : Heap, K.In base → base.Ns mainGlobals mg → FnG l.prog w K mg base CX k fa fd [x] sp)
    (noX : ∀ (H : Hp) (s : Shared) (e : Value) (s2 : Shared), CX [] H s (fun _ _ _ => False) e s2 → False) :
    PySem.W.WalkO q loose XP YP l.row.toRowW d [] (fun f vs => PySem.call f vs) :=
  Att.attach_call hn hdf fun w s0 s mg mb fa o pm cd doc a us ns G Y ho hd hcd hmg sc wh len ng => by
    obtain ⟨K, fd, sp, kin, hb, hq, go⟩ := F w mg fa _ Y G.T.g hmg
    exact law_call kin G.T.g G.T.b G.T.builtins G.T.nolimit ng sc wh (Nat.le_trans len hn2) hr go hb (fun H o t => hq H a ns len o t) fun H e s2 => noX H s e s2
end Gd
set_option maxHeartbeats 1000000
/-! defs that show (repr), over data -/
namespace Dl
open PySem PySem.Spec PyProof.Rows L2 Lcn Sq
section
variable {P : Program} {w : World} {K : PySem.W.Frag} {mg : Str → Option Value} {base : Heap}
theorem fn_dg {x qual : Str} {params : Arguments} {body : List Stmt} {scope : Scope} {dvs : List V} {kws : List (Str × V)} {f : Addr} {fd : FuncData} {N ps : List Str} {k : Nat} {sp : Spc} {sv : EvS} (F : FunD K x qual params body scope dvs kws f fd) (S : FnScope N ps scope)
    (hbody : ∀ (cdv : Value) (A : Around) (outer : List Env) (s : Shared) (H : Hp) (E : XK), (A.deeper (PyProof.Rows.envOfC qual scope s.heap.objs.size f cdv)).guards = some [] → Room k (A.deeper (PyProof.Rows.envOfC qual scope s.heap.objs.size f cdv)) → DSs K (fun _ : Unit => (cxOf CX0 P w K mg base N qual scope f cdv A outer s H E).nox) body sv)
    (hsp : ∀ (δ : List Sl) (Qd : Dt → Prop), δ.length = ps.length → sp δ Qd → sv { nx := fun _ => Qd .non, rt := Qd } (st0 N δ)) : Gd.FnG P w K mg base CX0 (k + 1) f fd ps (dsp K ps.length sp) := by
  refine Gd.fund_g F S (fun vs H Q E h => ?_) fun cdv A outer s H vs Q E hg hr h => ?_
  · obtain ⟨S, av, δ, Qd, _, _, _, a, l, _⟩ := h
    rw [a.l, l]
  · obtain ⟨S, av, δ, Qd, h1, h2, h3, a, l, hs, q⟩ := h
    obtain ⟨ts, p, v⟩ := hbody cdv A outer s H E hg hr
    refine ⟨ts, (p ()).nox, v ⟨K, S, av, H, []⟩ _ _ H _ _ rfl (sok_start h1 h2 h3 a) (hsp δ Qd l hs) ⟨fun σ δ H' s e => q .non .non H' s.st .non e, fun x d H' e r _ qd => q x d H' e r qd, fun _ _ _ _ e => e.elim, fun _ _ _ _ e => e.elim⟩⟩
end
end Dl
set_option maxHeartbeats 1000000
/-! < of tuples of ints, & 1, any of a tuple of ints, enumerate of either, {} as a thing -/
namespace Dl
open PySem PySem.Spec PyProof.Rows L2 Lcn Sq
/-! ### t < u -/
/-- from the first pair that differs on -/
def ltL : List Int → List Int → Bool
  | _, [] => false
  | [], _ :: _ => true
  | x :: xs, y :: ys => if x = y then ltL xs ys else decide (x < y)
theorem lexAt_sh {e r : Nat → Bool} {z : Bool} : ∀ (k i : Nat), Ob.lexAt e r z (i + 1) k = Ob.lexAt (fun j => e (j + 1)) (fun j => r (j + 1)) z i k
  | 0, i => rfl
  | k + 1, i => by rw [Ob.lexAt_succ, Ob.lexAt_succ, lexAt_sh k (i + 1)]
theorem lexAt_lt : ∀ ns ms : List Int, Ob.lexAt (fun j => decide (ns.getD j 0 = ms.getD j 0)) (fun j => decide (ns.getD j 0 < ms.getD j 0)) (decide (ns.length < ms.length)) 0 (min ns.length ms.length) = ltL ns ms
  | [], [] => rfl
  | [], y :: ys => by rw [List.length_nil, Nat.zero_min]; exact decide_eq_true (Nat.succ_pos _)
  | x :: xs, [] => rfl
  | x :: xs, y :: ys => by
    have m : min (x :: xs).length (y :: ys).length = min xs.length ys.length + 1 := by
      rw [List.length_cons, List.length_cons]
      omega
    rw [m, Ob.lexAt_succ, lexAt_sh]
    show (if decide (x = y) = true then _ else decide (x < y)) = _
    unfold ltL
    by_cases h : x = y
    · rw [if_pos (decide_eq_true h), if_pos h, ← lexAt_lt xs ys]
      have l : decide ((x :: xs).length < (y :: ys).length) = decide (xs.length < ys.length) := by
        rw [List.length_cons, List.length_cons]
        exact decide_eq_decide.mpr Nat.succ_lt_succ_iff
      rw [l]
      rfl
    · rw [if_neg (by simpa using h), if_neg h]
def rLtT (K : PySem.W.Frag) : R2 := fun x y H Q => ∃ (a b : Addr) (ns ms : List Int), x = .ref a ∧ y = .ref b ∧ SqT K H a (ns.map V.int) ∧ SqT K H b (ms.map V.int) ∧ Q (.bl (ltL ns ms)) H
theorem op_ltT {X : Cx} (hu : X.A.units < cLine) : OpR X (compareOp .Lt) (rLtT X.K) := by
  rintro pins s σ H x y v u Q I rx ry ⟨a, b, ns, ms, rfl, rfl, ha, hb, q⟩
  cases rx
  cases ry
  obtain ⟨us, va, pa, _⟩ := I.tuple ha
  obtain ⟨ws, vb, pb, _⟩ := I.tuple hb
  have ia : IntsAre us ns := va.ints
  have ib : IntsAre ws ms := vb.ints
  have la : us.toArray.size = ns.length := List.size_toArray.trans ia.length
  have lb : ws.toArray.size = ms.length := List.size_toArray.trans ib.length
  have one : ∀ (j : Nat) (h : j < us.toArray.size), ∃ t, us.toArray[j] = .int (ns.getD j 0) t := fun j h => ia.int_at _ _ (by simp at h; simp [h])
  have two : ∀ (j : Nat) (h : j < ws.toArray.size), ∃ t, ws.toArray[j] = .int (ms.getD j 0) t := fun j h => ib.int_at _ _ (by simp at h; simp [h])
  have all := Ob.RcOp.tuples_lt (A := X.A) (s := s) (e := fun j => decide (ns.getD j 0 = ms.getD j 0)) (r := fun j => decide (ns.getD j 0 < ms.getD j 0)) pa pb hu
    (fun j h1 h2 => by
      obtain ⟨t, e1⟩ := one j h1
      obtain ⟨t', e2⟩ := two j h2
      have z : decide (ns.getD j 0 = ms.getD j 0) = (ns.getD j 0 == ms.getD j 0) := by
        rw [Bool.eq_iff_iff, decide_eq_true_iff, beq_iff_eq]
      show SeqAt.EqAt _ _ _ _ (decide _)
      rw [e1, e2, z]
      exact SeqAt.EqAt.int_int _ _ _ _)
    (fun j h1 h2 _ => by
      obtain ⟨t, e1⟩ := one j h1
      obtain ⟨t', e2⟩ := two j h2
      rw [e1, e2]
      exact Ob.RcOp.lt_int _ _ _ _)
  rw [la, lb, lexAt_lt] at all
  have w : wpAny (model X.prog X.w) X.A (compareOp .Lt (.ref a) (.ref b)) (EP X pins σ Q) X.xe s := all X.prog X.w X.xe (EP X pins σ Q) ⟨.bl _, H, I, rfl, q⟩
  exact w
def dLtT (x y : Dt) (Q : Dt → Prop) : Prop := ∃ ns ms : List Int, x = .tup (ns.map .int) ∧ y = .tup (ms.map .int) ∧ Q (.bl (ltL ns ms))
section
variable {ι : Type} {K : PySem.W.Frag} {X : ι → Cx} {z o : Bool} {pos p2 : Pos} {a b e tg : Expr} {ea eb : EvE}
theorem ro_ltT : ROk K (rLtT K) dLtT := by
  intro av H x y dx dy Q Qd al rx ry d q
  obtain ⟨ns, ms, rfl, rfl, d⟩ := d
  obtain ⟨p, xs, rfl, h1, l1⟩ := rx.tup_inv
  obtain ⟨p2, ys, rfl, h2, l2⟩ := ry.tup_inv
  rw [repl_ints l1] at h1
  rw [repl_ints l2] at h2
  exact ⟨p, p2, ns, ms, rfl, rfl, h1.sq, h2.sq, q _ _ H (Same.refl H) (.bl _) d⟩
theorem cd_ltT (hu : ∀ i, (X i).A.units + 64 < cLine) (hK : ∀ i, (X i).K = K := by intro _; rfl) : CmpD K X .Lt dLtT := ⟨_, fun i => hK i ▸ op_ltT (Nat.lt_of_le_of_lt (Nat.le_add_right _ _) (hu i)), ro_ltT⟩
/-! ### i & 1 -/
theorem de_bit (ha : DE z K X a ea) (hb : DE z K X b eb) : DE z K X (.BinOp a .BitAnd b pos) (dOp (dI0 fun i j => .int (Builtin.bitAnd i j)) ea eb) := de_op (fun i => op_and) (ro_dI0 fun _ _ _ _ => .int _) ha hb
/-! ### any(t), t a tuple of ints -/
def rAnyT (K : PySem.W.Frag) : List V → Hp → VK → Prop := fun vs H Q => ∃ (p : Addr) (ns : List Int), vs = [V.ref p] ∧ SqT K H p (ns.map V.int) ∧ Q (.bl (ns.any fun n => n != 0)) H
theorem dp_nums {H : Hp} : ∀ ns : List Int, DpAll K H (ns.map V.int) (ns.map PyData.int)
  | [] => .nil
  | n :: ns => .cons (.int n) (dp_nums ns)
theorem plain_nums : ∀ ns : List Int, PyData.plainAll (ns.map PyData.int) = true
  | [] => by rw [List.map_nil, PyData.plainAll]
  | n :: ns => by rw [List.map_cons, PyData.plainAll, plain_nums ns, PyData.plain]; rfl
theorem cr_anyT {X : Cx} (hc : X.calm = true) : CallR X (.builtin "any") (rAnyT X.K) := by
  rintro pins s σ H vs us Q I r ⟨p, ns, rfl, hp, q⟩
  rw [Vals.ref1 r]
  obtain ⟨ws, rv, tp, _⟩ := I.tuple hp
  obtain ⟨as, rd⟩ := Dp.readsAll I (ns.map PyData.int) _ ws (dp_nums ns) rv
  refine PySem.W.any_tuple_data (I.ok.hd hc) tp rd (plain_nums ns) (fun x hx => ?_) fun h1 tk hk => ⟨.bl _, H, I.kept hk, ?_, q⟩
  · obtain ⟨n, _, rfl⟩ := List.mem_map.mp hx
    trivial
  · show Value.bool _ = Value.bool _
    rw [List.any_map]
    rfl
def dAnyT (ds : List Dt) (Q : Dt → Prop) : Prop := ∃ ns : List Int, ds = [.tup (ns.map .int)] ∧ Q (.bl (ns.any fun n => n != 0))
theorem cr_anyTK {X : Cx} (hc : X.calm = true) (hK : X.K = K) : CallR X (.builtin "any") (rAnyT K) := hK ▸ cr_anyT hc
theorem rc_anyT : RcOk K (rAnyT K) dAnyT := fun av H xs ds Q Qd al r d q => by
  obtain ⟨ns, rfl, d⟩ := d
  obtain ⟨x, rfl, rr⟩ := repl1 r
  obtain ⟨p, ys, rfl, h1, l1⟩ := rr.tup_inv
  rw [repl_ints l1] at h1
  exact ⟨p, ns, rfl, h1.sq, q _ _ H (Same.refl H) (.bl _) d⟩
/-! ### what is walked in one of two ways -/
theorem pi_or {X : Cx} {tg e : Expr} {w1 w2 : TI} (h1 : PI X tg e w1) (h2 : PI X tg e w2) : PI X tg e (fun σ H R => w1 σ H R ∨ w2 σ H R) :=
  ⟨fun pins s σ H R I h => h.elim (h1.run pins s σ H R I) (h2.run pins s σ H R I)⟩
theorem di_or {iv jv : EvA} (h1 : DI o K X tg e iv) (h2 : DI o K X tg e jv) : DI o K X tg e (fun δ Q => iv δ Q ∨ jv δ Q) := by
  obtain ⟨w1, p1, v1⟩ := h1
  obtain ⟨w2, p2, v2⟩ := h2
  exact ⟨_, fun i => pi_or (p1 i) (p2 i), fun C σ δ H R Qd k s e q => e.elim (fun e => .inl (v1 C σ δ H R Qd k s e q)) fun e => .inr (v2 C σ δ H R Qd k s e q)⟩
/-! ### {} as a thing -/
theorem de_emp : DE z K X (.Dict [] [] pos) (fun _ Q => Q (.dk [])) := by
  refine ⟨_, fun i => pe_dnewK, fun C σ δ H Q Qd k s e q => ?_⟩
  subst k
  refine fun p hp => q (.ref p) (.dk []) _ (Stp.new hp) (.dk (s.al.na hp) (.inl upd_same) rfl fun i x d h1 h2 => ?_) e
  cases i <;> cases h1
end
end Dl
set_option maxHeartbeats 1000000
/-! d.setdefault(t, x), t a tuple -/
namespace SdT
open PySem PySem.Spec PyProof.Rows L2
section
variable {X : Cx}
theorem sd_ok {pins : List (Addr × Obj)} {σ : L2.St} {H : Hp} {s : Shared} {a b : Addr} {kvs : List (List Key × V)} {k : List Key} {z : V} {r : Value} {Q : Value → Shared → Prop} {E : Value → Shared → Prop} (hu : X.A.units + 1 < cLine) (I : L2.Inv X pins σ H s)
    (hd : H a = some (.dT kvs)) (hb : H b = some (.tup (k.map kV))) (room : kvs.length < sizeLine) (rz : L2.RelV z r)
    (old : ∀ v, valV kvs k = some v → ∀ u s2, L2.Inv X pins σ H s2 → L2.RelV v u → Q u s2)
    (new : valV kvs k = none → ∀ s2, L2.Inv X pins σ (upd H a (.dT (putK kvs k z))) s2 → Q r s2) :
    wpAny (model X.prog X.w) X.A (call (.builtin "dict.setdefault") [.ref a, .ref b, r]) Q E s := by
  obtain ⟨size, nsys, xs, rel, dd⟩ := dt_of I.hok hd
  have look := rel.val k
  refine call_setdefault_heap hu (key_of I.hok hb) nsys dd (fun p hp => ?_) (fun hn h1 ⟨q, es, ep, hq, x2, x3, x4, _, x5⟩ sb => ?_) (hsz := by rw [← Paired.length rel]; exact size)
  · rw [hp] at look
    cases hv : valV kvs k with
    | none =>
      rw [hv] at look
      exact (show False from look).elim
    | some v =>
      rw [hv] at look
      exact old v hv _ _ (I.tok _) look
  · rw [hn] at look
    cases hv : valV kvs k with
    | some v =>
      rw [hv] at look
      exact (show False from look).elim
    | none =>
      have fits : (putK kvs k z).length ≤ sizeLine := by
        have := length_putK kvs k z
        omega
      refine new hv _ (d_write I (by rw [hd]; exact True.intro) sb ⟨q, hq⟩ ⟨fits, nsys, _, (rel.put k hb rz).keeps fun c ys ec => ?_, q, es, ep, hq, x2, x3, x4, x5⟩)
      rw [upd_ne (ne_of ec hd fun z => nomatch z)]
      exact ec
end
def tSdT (td ty tx : TE) : TE := fun σ H Q => td σ H fun x H1 => ∃ a, x = .ref a ∧ IsD H1 a ∧ ty σ H1 fun y H2 => tx σ H2 fun z H3 => ∃ (kvs : List (List Key × V)) (k : List Key) (b : Addr), H3 a = some (.dT kvs) ∧ y = .ref b ∧ H3 b = some (.tup (k.map kV)) ∧ kvs.length < sizeLine ∧
  (∀ v, valV kvs k = some v → Q v H3) ∧ (valV kvs k = none → Q z (upd H3 a (.dT (putK kvs k z))))
theorem pe_sdT {X : Cx} {o e f : Expr} {td ty tx : TE} {apos cpos : Pos} (hu : X.A.units + 1 < cLine) (ho : PE X o td) (he : PE X e ty) (hf : PE X f tx) (m : M2 X o "setdefault" apos e f cpos) : PE X (.Call (.Attribute o "setdefault" apos) [e, f] [] cpos) (tSdT td ty tx) := by
  refine ⟨fun pins s σ H Q I h => wpAny_Call_method m.base m.few m.line PySem.F.plainAttrs_dict PySem.F.slot_dict_setdefault PySem.F.type_dict_setdefault (thn (ho.run pins s σ H _ I h) ?_)⟩
  rintro u s1 ⟨x, H1, I1, rx, a, rfl, isd, h1⟩
  cases rx
  obtain ⟨typ, nod, _⟩ := isD_at I1 isd
  refine ⟨typ, nod, ?_⟩
  rw [m.trees]
  refine Calls.callWith_builtin rfl (Calls.evalArgs_plain (Calls.spliced_cons (thn (he.run pins s1 σ H1 _ I1 h1) ?_)))
  rintro ky s2 ⟨y, H2, I2, ry, h2⟩
  refine Calls.spliced_cons (thn (hf.run pins s2 σ H2 _ I2 h2) ?_)
  rintro fv s3 ⟨z, H3, I3, rz, kvs, k, b, hd, rfl, hb, room, old, new⟩
  cases ry
  exact Calls.spliced_nil (sd_ok hu I3 hd hb room rz (fun v hv u s4 I4 r => ⟨v, _, I4, r, old v hv⟩) fun hn s4 I4 => ⟨z, _, I4, rz, new hn⟩)
end SdT
set_option maxHeartbeats 1000000
/-! d.setdefault(t, []).append(e), t a tuple -/
namespace Dl
open PySem PySem.Spec PyProof.Rows L2 Lcn Sq
section
variable {ι : Type} {K : PySem.W.Frag} {X : ι → Cx} {z : Bool} {pos pos' p2 apos cpos : Pos} {a b c e f o : Expr} {ea eb ed : EvE}
/-- the statement -/
def dSdT (i : Nat) (ek ee : EvE) : EvS := fun D δ => match δ[i]? with
  | some (.own a (.tl es)) => ek δ fun y => ∃ ks k, y = .tup ks ∧ kysD ks = some k ∧ es.length < sizeLine ∧ ∀ p, ee (δ.set i (.own a (.tl (sdE es k p)))) fun d => (∀ e, e ∈ sdE es k p → e.2.2.length < sizeLine) ∧ D.nx (δ.set i (.own a (.tl (apE (sdE es k p) k d))))
  | _ => False
theorem ds_sdT {i : Nat} {x : Str} {p3 lp ap2 cp2 : Pos} (px : ∀ j, PE (X j) (.Name x p3) (tVar i))
    (hp : ∀ {to te : TE} j, PE (X j) (.Call (.Attribute (.Name x p3) "setdefault" ap2) [b, .List [] lp] [] cp2) to → PE (X j) e te → PS (X j) (.Expr (.Call (.Attribute (.Call (.Attribute (.Name x p3) "setdefault" ap2) [b, .List [] lp] [] cp2) "append" apos) [e] [] cpos) pos) (tDrop (tBM (X j).K "list" rAppend to (tCons te tNil))))
    (hb : DE true K X b ea) (he : DE true K X e eb) (hm : ∀ j, M2 (X j) (.Name x p3) "setdefault" ap2 b (.List [] lp) cp2 := by intro _; exact ⟨rfl, rfl, rfl, rfl⟩) (hu : ∀ j, (X j).A.units + 1 < cLine) (hK : ∀ i, (X i).K = K := by intro _; rfl) :
    DS K X (.Expr (.Call (.Attribute (.Call (.Attribute (.Name x p3) "setdefault" ap2) [b, .List [] lp] [] cp2) "append" apos) [e] [] cpos) pos) (dSdT i ea eb) := by
  obtain ⟨tk, pk, vk⟩ := hb
  obtain ⟨t, p, v⟩ := he
  refine ⟨tDrop (tBM K "list" rAppend (SdT.tSdT (tVar i) tk (tLst tNil)) (tCons t tNil)), fun j => hK j ▸ hp j (SdT.pe_sdT (hu j) (px j) (pk j) (pe_lst pa_nil) (hm j)) (p j), fun C σ δ H D Dd k s e q => ?_⟩
  subst k
  unfold dSdT at e
  split at e
  · rename_i a es h
    obtain ⟨h1, _, h3, u, h5, h6⟩ := s.sl i _ h
    obtain ⟨kvs0, rfl, ol0⟩ := h6.tls
    refine ⟨.ref a, h1, a, rfl, .inr ⟨kvs0, .inl h5⟩, vk C σ δ H _ _ rfl s e fun y dy H1 e1 r1 e => ?_⟩
    obtain ⟨ks, k, rfl, hk, hz, e⟩ := e
    obtain ⟨bk, xk, rfl, hbk, lxk⟩ := r1.tup_inv
    have hbk := hbk.2
    rw [rep_kys lxk hk] at hbk
    have s1 := s.step e1
    refine ⟨Nat.zero_le _, fun p np => ?_⟩
    have e2 : Stp C.S H1 (upd H1 p (.lst [])) := Stp.new np
    have s2 := s1.step e2
    obtain ⟨_, _, _, u, g5, g6⟩ := s2.sl i _ h
    obtain ⟨kvs, rfl, ol⟩ := g6.tls
    have hl : kvs.length = es.length := by rw [ol.ks, List.length_map]
    have hb2 : upd H1 p (.lst []) bk = some (.tup (k.map kV)) := same_new np _ _ hbk
    -- the list that is told, and the state behind
    have go : ∀ (H2 : Hp) (b : Addr), (∃ ds, (k, b, ds) ∈ sdE es k p) → Sok C H2 σ (δ.set i (.own a (.tl (sdE es k p)))) → tyV C.K "list" (.ref b) H2 ∧ tCons t tNil σ H2 fun xs H3 => rAppend (.ref b) xs H3 fun _ H4 => D.nx σ H4 := by
      rintro H2 b ⟨ds, hin⟩ s3
      have hi : i < δ.length := own_lt s h
      have hat : (δ.set i (.own a (.tl (sdE es k p))))[i]? = some (.own a (.tl (sdE es k p))) := List.getElem?_set_self hi
      obtain ⟨_, _, _, u3, g7, g8⟩ := s3.sl i _ hat
      obtain ⟨kvs3, rfl, ol3⟩ := g8.tls
      obtain ⟨xs3, hx3, _⟩ := ol3.ls _ hin
      refine ⟨.inl ⟨rfl, xs3, SqL.of hx3⟩, v C σ _ H2 _ _ rfl s3 (e p) fun w d H3 e3 r3 e => ?_⟩
      obtain ⟨hsz, e⟩ := e
      have s4 := s3.step e3
      obtain ⟨_, _, _, u4, g9, g10⟩ := s4.sl i _ hat
      obtain ⟨kvs4, rfl, ol4⟩ := g10.tls
      obtain ⟨xs4, hx4, rl4⟩ := ol4.ls _ hin
      have nb : a ≠ b := fun z => by
        rw [← z] at hx4
        have := g9.symm.trans hx4
        cases this
      refine ⟨b, xs4, w, rfl, rfl, hx4, by rw [rl4.l]; exact hsz _ hin, q.nx σ _ _ ?_ e⟩
      have o5 := ol4.app hin hx4 r3 fun c hc => inn_zd hat (.inr hc)
      have s5 := s4.upG (es := .tl (apE (sdE es k p) k d)) (H' := upd H3 b (.lst (xs4 ++ [w]))) (ys := .dT kvs4) hat (fun c o n x => by
        rw [upd_ne (fun (z : c = b) => n (.inr (List.mem_map.mpr ⟨_, hin, z.symm⟩)))]
        exact x) (by rw [upd_ne nb]; exact g9) ?_ (fun c hc => .inl (show c ∈ (sdE es k p).map fun e => e.2.1 from by rw [← apE_inn (sdE es k p) k d]; exact hc))
      · rw [List.set_set] at s5
        exact s5
      · refine (ORep.mono (av := Zd C (δ.set i (.own a (.tl (sdE es k p))))) (show ORep C.K _ _ (.dT kvs4) (.tl _) from o5) fun c z => z.elim id fun z => ?_)
        have z : c ∈ (apE (sdE es k p) k d).map fun e => e.2.1 := z
        rw [apE_inn] at z
        exact inn_zd hat (.inr z)
    refine ⟨kvs, k, bk, g5, rfl, hb2, by rw [hl]; exact hz, fun w hw => ?_, fun hw => ?_⟩
    · have hmem : ∃ e ∈ es, e.1 = k ∧ w = .ref e.2.1 := by
        rw [ol.ks] at hw
        unfold valV at hw
        rw [List.find?_map, Option.map_map] at hw
        obtain ⟨e0, h0, rfl⟩ := Option.map_eq_some_iff.mp hw
        have h2 := List.find?_some h0
        exact ⟨e0, List.mem_of_find?_eq_some h0, by simpa using h2, rfl⟩
      obtain ⟨e0, he0, rfl, rfl⟩ := hmem
      have es1 : sdE es e0.1 p = es := by
        unfold sdE
        rw [if_pos (List.any_eq_true.mpr ⟨e0, he0, decide_eq_true rfl⟩)]
      refine go _ e0.2.1 ⟨e0.2.2, by rw [es1]; exact he0⟩ ?_
      rw [es1, set_same h]
      exact s2
    · have ha : (es.any fun e => decide (e.1 = k)) = false := by
        cases q0 : es.any fun e => decide (e.1 = k) with
        | false => rfl
        | true =>
          obtain ⟨e0, he0, z⟩ := List.any_eq_true.mp q0
          have z := of_decide_eq_true z
          rw [ol.ks] at hw
          unfold valV at hw
          rw [List.find?_map, Option.map_map, Option.map_eq_none_iff, List.find?_eq_none] at hw
          exact absurd (decide_eq_true z) (by simpa using hw e0 he0)
      have es1 : sdE es k p = es ++ [(k, p, [])] := by
        unfold sdE
        rw [if_neg (by rw [ha]; exact Bool.noConfusion)]
      have pk1 : putK kvs k (.ref p) = kvs ++ [(k, .ref p)] := putK_new _ hw
      refine go _ p ⟨[], by rw [es1]; simp⟩ ?_
      rw [es1, pk1]
      have npa : p ≠ a := fun z => by
        obtain ⟨_, _, _, u9, z5, _⟩ := s1.sl i _ h
        rw [← z, np] at z5
        cases z5
      have s1c := s1
      obtain ⟨_, _, _, u9, z5, z6⟩ := s1.sl i _ h
      obtain ⟨kvs9, rfl, ol9⟩ := z6.tls
      have ek : kvs = kvs9 := by rw [ol.ks, ol9.ks]
      subst ek
      refine s1.upG (es := .tl (es ++ [(k, p, [])])) h (fun c o n x => ?_) upd_same (?_ : ORep _ _ _ (.dT _) (.tl _)) fun c hc => ?_
      · rw [upd_ne (fun (z : c = a) => n (.inl z.symm)), upd_ne (fun z => by rw [z, np] at x; cases x)]
        exact x
      · refine OLs.new ol9 ha np (by rw [upd_ne npa]; exact upd_same) (fun c o n x => ?_) (fun c z => ?_) fun c hc o x => ?_
        · rw [upd_ne (fun (z : c = a) => n (by rw [z]; exact inn_zd h (.inl rfl))), upd_ne (fun z => by rw [z, np] at x; cases x)]
          exact x
        · rcases z with z | z
          · exact .inl z
          · have z : c ∈ ((es ++ [(k, p, [])]).map fun (e : List Key × Addr × List Dt) => e.2.1) := z
            rw [List.map_append] at z
            rcases List.mem_append.mp z with z | z
            · exact .inl (inn_zd h (.inr z))
            · have : c = p := by simpa using z
              rw [this]
              exact .inr np
        · have na : c ≠ a := fun z => by
            obtain ⟨e0, he0, z0⟩ := List.mem_map.mp hc
            obtain ⟨xs0, w0, _⟩ := ol9.ls e0 he0
            rw [z0, z] at w0
            have := z5.symm.trans w0
            cases this
          rw [upd_ne na, upd_ne (fun z => by rw [z, np] at x; cases x)]
          exact x
      · have hc : c ∈ ((es ++ [(k, p, [])]).map fun (e : List Key × Addr × List Dt) => e.2.1) := hc
        rw [List.map_append] at hc
        rcases List.mem_append.mp hc with z | z
        · exact .inl z
        · have : c = p := by simpa using z
          rw [this]
          exact .inr np
  · exact e.elim
/-- name = {}, lists by tuples to come -/
theorem ds_dnewT {i : Nat} {x : Str} {pos' : Pos} (hp : ∀ {te : TE} j, PE (X j) e te → PS (X j) (.Assign [.Name x pos'] e pos) (tAsg te (gName i))) (he : ∀ j, PE (X j) e tDNewT) : DS K X (.Assign [.Name x pos'] e pos) (fun D δ => ∀ a, D.nx (δ.set i (.own a (.tl [])))) := by
  refine ⟨_, fun j => hp j (he j), fun C σ δ H D Dd k s e q => ?_⟩
  subst k
  exact fun p hp => q.nx _ _ _ (s.setO (xs := .dT []) (ds := .tl []) hp (Stp.new hp) upd_same (show ORep _ _ _ _ (.tl []) from ⟨rfl, .nil, .nil, fun _ h => nomatch h⟩)) (e p)
end
end Dl
set_option maxHeartbeats 1000000
/-! {k: v}, one pair, the key an int, a text or a tuple -/
namespace Dl
open PySem PySem.Spec PyProof.Rows L2 Lcn Sq
def tOne (O : HO) (tk tv : TE) : TE := fun σ H Q => ∀ p, H p = none → tk σ (upd H p O) fun y H1 => tv σ H1 fun z H2 => ∃ H3, DPut H2 p y z H3 ∧ Q (.ref p) H3
theorem pe_one {X : Cx} {k v : Expr} {pos : Pos} {tk tv : TE} (O : HO) (hO : O = .dK [] ∨ O = .dT []) (hu : X.A.units + 1 < cLine) (hk : PE X k tk) (hv : PE X v tv) : PE X (.Dict [some k] [v] pos) (tOne O tk tv) := by
  refine ⟨fun pins s σ H Q I h => ?_⟩
  have np := I.hok.fresh (Nat.le_refl s.heap.objs.size)
  have made : ObjOk X.prog X.w (upd H s.heap.objs.size O) (s.heap.push { cls := .type "dict", data := .dict #[] }) s.heap.objs.size O := by
    rcases hO with rfl | rfl
    · exact dk_empty s.heap I.big
    · exact dt_empty s.heap I.big
  have I1 : L2.Inv X pins σ (upd H s.heap.objs.size O) { s with heap := s.heap.push { cls := .type "dict", data := .dict #[] } } := I.laid (t' := s.toks) (fun _ _ q => Heap.get?_push_of_some _ q) (Nat.le_refl _) made
  refine wpAny_Dict_any (by rfl) rfl (by simp) (by show 1 ≤ 15; decide) (pairTrees_cons_walk (thn (hk.run pins _ σ _ _ I1 (h _ np)) ?_))
  rintro u s1 ⟨y, H1, I2, ry, h1⟩
  refine thn (hv.run pins s1 σ H1 _ I2 h1) ?_
  rintro r s2 ⟨z, H2, I3, rz, H3, dp, q⟩
  refine pairTrees_nil_walk ?_
  show wpAny _ _ (storeAll _ [(u, r)]) _ _ s2
  unfold storeAll
  rw [List.forIn_cons]
  refine wpAny_bind (wpAny_bind (Dct.put_ok hu I3 dp ry rz fun s3 I4 => wpAny_pure ?_))
  show wpAny _ _ (forIn ([] : List (Value × Value)) PUnit.unit _) _ _ s3
  rw [List.forIn_nil]
  exact wpAny_pure ⟨.ref s.heap.objs.size, H3, I4, rfl, q⟩
def dOne (c0 : Oc) (ek ev : EvE) : EvE := fun δ Q => ek δ fun y => ev δ fun z => ∃ c', putO c0 y z = some c' ∧ Q c'.dt
section
variable {ι : Type} {K : PySem.W.Frag} {X : ι → Cx} {z : Bool} {pos : Pos} {k v : Expr} {ek ev : EvE}
theorem de_one1 {c0 : Oc} (m0 : Mt0 c0) (hu : ∀ j, (X j).A.units + 1 < cLine) (hk : DE true K X k ek) (hv : DE true K X v ev) : DE z K X (.Dict [some k] [v] pos) (dOne c0 ek ev) := by
  obtain ⟨tk, pk, vk⟩ := hk
  obtain ⟨tv, pv, vv⟩ := hv
  refine ⟨_, fun j => pe_one (hoO c0) (by cases m0; exact .inr rfl; exact .inl rfl) (hu j) (pk j) (pv j), fun C σ δ H Q Qd hK s e q => ?_⟩
  subst hK
  intro p np
  have nto : nt (hoO c0) := by cases m0 <;> exact ⟨fun _ => HO.noConfusion, fun _ _ => HO.noConfusion⟩
  have nsa : ¬ sa C.S p := fun c => (s.ava.na np) (s.avs p c)
  have nch : ¬ ch C.S p := fun c => nsa (ch_sa c)
  have sP : Sok (C.plus p) (upd H p (hoO c0)) σ δ := s.plus np nto
  refine vk (C.plus p) σ δ _ _ _ rfl sP e fun y dy H1 e1 ry e => ?_
  have s1 := sP.step e1
  refine vv (C.plus p) σ δ H1 _ _ rfl s1 e fun w dw H2 e2 rw' e => ?_
  obtain ⟨c', hp, e⟩ := e
  have at2 : H2 p = some (hoO c0) := e2.keep p _ nch (e1.keep p _ nch upd_same)
  have o2 : ORep C.K (Zd (C.plus p) δ) H2 (hoO c0) c0 := by
    cases m0
    · exact ⟨rfl, .nil⟩
    · exact ⟨rfl, .nil⟩
  have l0 : lenO c0 < sizeLine := by
    cases m0 <;> (show 0 < sizeLine; decide)
  obtain ⟨u', dp, r6⟩ := put_ok at2 o2 (rep_st s1 e2 ry) rw' hp l0
  have hin := putO_inn hp
  refine ⟨_, dp, q (.ref p) c'.dt _ ⟨fun b o c x => ?_, fun g => ?_⟩ (orep_rep (Z := Zd (C.plus p) δ) (r6.move (fun b o nz x => ?_) (fun _ z => .inl z) fun b hb => ?_) upd_same (fun b hb => ?_) (s.al.na np) fun b hb => ?_) e⟩
  · have nb : b ≠ p := fun zz => by
      rw [zz, np] at x
      cases x
    rw [upd_ne nb]
    exact e2.keep b o c (e1.keep b o c (same_new np b o x))
  · exact (s1.step e2).g.upd nsa fun c q h => by
      rw [at2] at h
      exact o2.nt.2 c q (Option.some.inj h)
  · rw [upd_ne (fun (zz : b = p) => nz (zd_plus.mpr (.inr zz)))]
    exact x
  · rw [hin] at hb
    cases hb
  · refine zd_plus.mpr (.inl ?_)
    cases z
    · exact .inl hb
    · exact hb
  · rw [hin] at hb
    cases hb
end
end Dl
set_option maxHeartbeats 1000000
/-! sorted of a list of pairs of tuples of ints -/
namespace StR
open PySem PySem.Spec PyProof.Rows L2 Dl
theorem lt_asym : ∀ {x y : List Int}, ltL x y = true → ltL y x = false
  | _, [], h => by unfold ltL at h; cases h
  | [], _ :: _, _ => rfl
  | a :: x, b :: y, h => by
    unfold ltL at h ⊢
    by_cases e : a = b
    · rw [if_pos e] at h
      rw [if_pos e.symm]
      exact lt_asym h
    · rw [if_neg e] at h
      rw [if_neg (Ne.symm e)]
      have := of_decide_eq_true h
      exact decide_eq_false (by omega)
theorem lt_neg : ∀ {x y z : List Int}, ltL y x = false → ltL z y = false → ltL z x = false
  | [], _, _, _, _ => by simp [ltL]
  | a :: x, [], z, h, _ => by unfold ltL at h; cases h
  | a :: x, b :: y, [], _, h => by unfold ltL at h; cases h
  | a :: x, b :: y, c :: z, h1, h2 => by
    unfold ltL at h1 h2 ⊢
    by_cases e : b = a
    · by_cases f : c = b
      · rw [if_pos e] at h1
        rw [if_pos f] at h2
        rw [if_pos (f.trans e)]
        exact lt_neg h1 h2
      · rw [if_neg f] at h2
        have := of_decide_eq_false h2
        rw [if_neg (by omega)]
        exact decide_eq_false (by omega)
    · rw [if_neg e] at h1
      have i1 := of_decide_eq_false h1
      by_cases f : c = b
      · rw [if_neg (by omega)]
        exact decide_eq_false (by omega)
      · rw [if_neg f] at h2
        have := of_decide_eq_false h2
        rw [if_neg (by omega)]
        exact decide_eq_false (by omega)
theorem lt_eq : ∀ {x y : List Int}, ltL x y = false → ltL y x = false → x = y
  | [], [], _, _ => rfl
  | [], _ :: _, h, _ => by unfold ltL at h; cases h
  | _ :: _, [], _, h => by unfold ltL at h; cases h
  | a :: x, b :: y, h1, h2 => by
    unfold ltL at h1 h2
    by_cases e : a = b
    · rw [if_pos e] at h1
      rw [if_pos e.symm] at h2
      rw [e, lt_eq h1 h2]
    · rw [if_neg e] at h1
      rw [if_neg (Ne.symm e)] at h2
      have i1 := of_decide_eq_false h1
      have i2 := of_decide_eq_false h2
      omega
theorem lt_irr (x : List Int) : ltL x x = false := by
  cases h : ltL x x with
  | false => rfl
  | true => exact h.symm.trans (lt_asym h)
/-- by the first, then by the second -/
def ltT (p q : List Int × List Int) : Bool := if p.1 = q.1 then ltL p.2 q.2 else ltL p.1 q.1
theorem swo {α : Type} (f : α → List Int × List Int) : SrtO.Swo fun x y => ltT (f x) (f y) := by
  refine ⟨fun x y h => ?_, fun x y z h1 h2 => ?_⟩
  · unfold ltT at h ⊢
    by_cases e : (f x).1 = (f y).1
    · rw [if_pos e] at h
      rw [if_pos e.symm]
      exact lt_asym h
    · rw [if_neg e] at h
      rw [if_neg (Ne.symm e)]
      exact lt_asym h
  · unfold ltT at h1 h2 ⊢
    by_cases e : (f y).1 = (f x).1
    · by_cases g : (f z).1 = (f y).1
      · rw [if_pos e] at h1
        rw [if_pos g] at h2
        rw [if_pos (g.trans e)]
        exact lt_neg h1 h2
      · rw [if_neg g] at h2
        rw [if_neg (by rw [← e]; exact g), ← e]
        exact h2
    · rw [if_neg e] at h1
      by_cases g : (f z).1 = (f y).1
      · rw [if_neg (by rw [g]; exact e), g]
        exact h1
      · rw [if_neg g] at h2
        have h3 := lt_neg h1 h2
        by_cases k : (f z).1 = (f x).1
        · rw [k] at h2
          exact absurd (lt_eq h1 h2) e
        · rw [if_neg k]
          exact h3
section
variable {prog : Program} {w : World} {A : Around} {s : Shared}
/-- a tuple of the ints ns -/
def IT (h : Heap) (a : Addr) (ns : List Int) : Prop := ∃ us : List Value, IntsAre us ns ∧ IsTup h a us.toArray
theorem IT.key {h : Heap} {a : Addr} {ns : List Int} (x : IT h a ns) : IsTupleKey (mixKind prog w) h (ns.map (Sum.inl : Int → L2.Key)) a := by
  obtain ⟨us, ia, o, ho, hc, n, hd⟩ := x
  refine ⟨o, us.toArray, n, ho, hc, hd, ?_⟩
  have r : L2.Vals ((ns.map (Sum.inl : Int → L2.Key)).map kV) us := by
    rw [List.map_map]
    exact vals_ints ia
  exact items_are r
theorem IT.keeps {h h' : Heap} {a : Addr} {ns : List Int} (x : IT h a ns) (k : ∀ b o, h.get? b = some o → o.cls = .type "tuple" → h'.get? b = some o) : IT h' a ns := by
  obtain ⟨us, ia, o, ho, hc, r⟩ := x
  exact ⟨us, ia, o, k _ _ ho hc, hc, r⟩
theorem IT.lt {a b : Addr} {ns ms : List Int} (x : IT s.heap a ns) (y : IT s.heap b ms) (hu : A.units < cLine) : Ob.RcOp .Lt A s (.ref a) (.ref b) (ltL ns ms) := by
  obtain ⟨us, ia, pa⟩ := x
  obtain ⟨ws, ib, pb⟩ := y
  have la : us.toArray.size = ns.length := List.size_toArray.trans ia.length
  have lb : ws.toArray.size = ms.length := List.size_toArray.trans ib.length
  have one : ∀ (j : Nat) (h : j < us.toArray.size), ∃ t, us.toArray[j] = .int (ns.getD j 0) t := fun j h => ia.int_at _ _ (by simp at h; simp [h])
  have two : ∀ (j : Nat) (h : j < ws.toArray.size), ∃ t, ws.toArray[j] = .int (ms.getD j 0) t := fun j h => ib.int_at _ _ (by simp at h; simp [h])
  have all := Ob.RcOp.tuples_lt (A := A) (s := s) (e := fun j => decide (ns.getD j 0 = ms.getD j 0)) (r := fun j => decide (ns.getD j 0 < ms.getD j 0)) pa pb hu
    (fun j h1 h2 => by
      obtain ⟨t, e1⟩ := one j h1
      obtain ⟨t', e2⟩ := two j h2
      have z : decide (ns.getD j 0 = ms.getD j 0) = (ns.getD j 0 == ms.getD j 0) := by
        rw [Bool.eq_iff_iff, decide_eq_true_iff, beq_iff_eq]
      show SeqAt.EqAt _ _ _ _ (decide _)
      rw [e1, e2, z]
      exact SeqAt.EqAt.int_int _ _ _ _)
    (fun j h1 h2 _ => by
      obtain ⟨t, e1⟩ := one j h1
      obtain ⟨t', e2⟩ := two j h2
      rw [e1, e2]
      exact Ob.RcOp.lt_int _ _ _ _)
  rw [la, lb, lexAt_lt] at all
  exact all
/-- a pair of tuples of ints -/
def PT (h : Heap) (v : Value) (p : List Int × List Int) : Prop := ∃ a b c : Addr, v = .ref a ∧ IsTup h a #[.ref b, .ref c] ∧ IT h b p.1 ∧ IT h c p.2
theorem PT.keeps {h h' : Heap} {v : Value} {p : List Int × List Int} (x : PT h v p) (k : ∀ b o, h.get? b = some o → o.cls = .type "tuple" → h'.get? b = some o) : PT h' v p := by
  obtain ⟨a, b, c, e, ⟨o, ho, hc, r⟩, y, z⟩ := x
  exact ⟨a, b, c, e, ⟨o, k _ _ ho hc, hc, r⟩, y.keeps k, z.keeps k⟩
theorem eq_keys {ns ms : List Int} : decide (ns.map (Sum.inl : Int → L2.Key) = ms.map (Sum.inl : Int → L2.Key)) = decide (ns = ms) := by
  rw [Bool.eq_iff_iff, decide_eq_true_iff, decide_eq_true_iff]
  refine ⟨fun h => ?_, fun h => by rw [h]⟩
  exact List.map_inj_right (fun a b e => Sum.inl.inj e) |>.mp h
theorem ttup_cmp {vs : List Value} {f : Value → List Int × List Int} (hu : A.units < cLine) (hp : ∀ v, v ∈ vs → PT s.heap v (f v)) : SrtO.Cmp prog w A s (tuples' false) (fun p => p.1 ∈ vs) (SrtO.lt2 fun v u => ltT (f v) (f u)) := by
  intro p q mp mq
  show wpAny (model prog w) A (keyLt' (tuples' false) p.1 q.1) (fun r s' => s' = s ∧ r = ltT (f p.1) (f q.1)) (fun _ _ => False) s
  obtain ⟨a, b, c, e, ⟨o, ho, hc, n, hd⟩, x1, x2⟩ := hp _ mp
  obtain ⟨a', b', c', e', ⟨o', ho', hc', n', hd'⟩, y1, y2⟩ := hp _ mq
  generalize hr : ltT (f p.1) (f q.1) = r
  rw [e, e']
  refine PySem.W.kat_lt ho hd ho' hd' ?_
  show PySem.W.KatLex prog w A false (decide (2 < 2)) _ [(.ref b, .ref b'), (.ref c, .ref c')] 0 s
  refine PySem.W.kat_cons (wpAny_eqBool_tuple (knd := mixKind prog w) hu x1.key y1.key ?_)
  rw [eq_keys]
  refine PySem.W.kat_go (fun h1 => ?_) fun h1 => ?_
  · have e1 := of_decide_eq_true h1
    have t1 : r = ltL (f p.1).2 (f q.1).2 := hr.symm.trans (if_pos e1)
    refine PySem.W.kat_yes (PySem.W.kat_cons (wpAny_eqBool_tuple (knd := mixKind prog w) hu x2.key y2.key ?_))
    rw [eq_keys]
    refine PySem.W.kat_go (fun h2 => ?_) fun h2 => ?_
    · have e2 := of_decide_eq_true h2
      refine PySem.W.kat_yes (PySem.W.kat_nil ⟨rfl, ?_⟩)
      rw [t1, e2, lt_irr]
      rfl
    · exact PySem.W.kat_no (PySem.W.kat_one _ _ (x2.lt y2 hu prog w _ _ (show s = s ∧ _ = _ from ⟨rfl, t1.symm⟩)))
  · have e1 := of_decide_eq_false h1
    have t1 : r = ltL (f p.1).1 (f q.1).1 := hr.symm.trans (if_neg e1)
    exact PySem.W.kat_no (PySem.W.kat_one _ _ (x1.lt y1 hu prog w _ _ (show s = s ∧ _ = _ from ⟨rfl, t1.symm⟩)))
theorem ttup_firsts {h : Heap} {f : Value → List Int × List Int} : ∀ vs : List Value, (∀ v, v ∈ vs → PT h v (f v)) → ∃ fs : List Value, PySem.W.KatTups h vs fs ∧ fs.length = vs.length ∧ ∀ g, g ∈ fs → ∃ (q : Addr) (o : Obj), g = Value.ref q ∧ h.get? q = some o ∧ o.cls = .type "tuple"
  | [], _ => ⟨[], PySem.W.KatTups.nil, rfl, nofun⟩
  | v :: vs, x => by
    obtain ⟨fs, kt, len, each⟩ := ttup_firsts vs fun u m => x u (List.mem_cons_of_mem _ m)
    obtain ⟨a, b, c, e, ⟨o, ho, hc, n, hd⟩, ⟨us, _, o2, ho2, hc2, _⟩, _⟩ := x v (List.mem_cons_self ..)
    rw [e]
    refine ⟨.ref b :: fs, PySem.W.KatTups.cons ho hc hd rfl kt, congrArg Nat.succ len, fun g m => ?_⟩
    rcases List.mem_cons.mp m with rfl | m
    · exact ⟨b, o2, rfl, ho2, hc2⟩
    · exact each g m
theorem ttup_sortable {a : Addr} {vs : List Value} {f : Value → List Int × List Int} (hu : A.units < cLine) (h0 : 0 < vs.length) (hp : ∀ v, v ∈ vs → PT s.heap v (f v)) (ha : ∀ o, s.heap.get? a = some o → o.cls ≠ .type "tuple") : SrtO.SortableO prog w A s a vs fun v u => ltT (f v) (f u) := by
  intro h1 keep
  have hp1 : ∀ v, v ∈ vs → PT h1 v (f v) := fun v m => (hp v m).keeps fun b o g c => keep b o (fun z => by subst z; exact ha o g c) g
  obtain ⟨fs, kt, len, each⟩ := ttup_firsts vs hp1
  refine ⟨tuples' false, fun Q E q => ?_, ttup_cmp (s := { s with heap := h1 }) hu hp1⟩
  refine PySem.W.kat_kind (s := { s with heap := h1 }) (T := .type "tuple") kt (by omega) (fun g m => ?_) (by rfl) ?_
  · obtain ⟨b, o, rfl, ho, hc⟩ := each g m
    have z : PySem.W.Looks (model prog w) h1 (typeOf (.ref b)) o.cls := (PySem.W.Looks.ld ho).andThen .now
    rw [hc] at z
    exact z
  · have e : (Value.type "tuple" != Value.type "tuple") = false := by decide +kernel
    rw [e]
    exact q
end
def rSortTT (K : PySem.W.Frag) : List V → Hp → VK → Prop := fun vs H Q => ∃ (a : Addr) (xs : List V) (f : V → List Int × List Int), vs = [V.ref a] ∧ SqL K H a xs ∧
  (∀ x, x ∈ xs → ∃ t b c, x = V.ref t ∧ H t = some (.tup [.ref b, .ref c]) ∧ H b = some (.tup ((f x).1.map V.int)) ∧ H c = some (.tup ((f x).2.map V.int))) ∧
  ∀ ys p, ys.Perm xs → ys.Pairwise (fun x y => ltT (f y) (f x) = false) → H p = none → Q (.ref p) (upd H p (.lst ys))
theorem it_of {X : Cx} {pins : List (Addr × Obj)} {σ : L2.St} {H : Hp} {s : Shared} {b : Addr} {ns : List Int} (I : L2.Inv X pins σ H s) (h : H b = some (.tup (ns.map V.int))) : IT s.heap b ns := by
  obtain ⟨_, us, rv, tp⟩ := I.hok _ _ h
  exact ⟨us, rv.ints, tp⟩
theorem cr_sortTT {X : Cx} (hu : X.A.units + 66 < cLine) : CallR X (.builtin "sorted") (rSortTT X.K) := by
  rintro pins s σ H vs us Q I r ⟨a, xs, f, rfl, hs, hx, q⟩
  obtain ⟨ws, rv, hl, size⟩ := I.list hs
  rw [Vals.ref1 r]
  obtain ⟨back, refs⟩ := refs_back rv fun x m => by
    obtain ⟨t, _, _, e, _⟩ := hx x m
    exact ⟨t, e⟩
  have pts : ∀ v, v ∈ ws → PT s.heap v (f (backV v)) := fun v m => by
    obtain ⟨t, rfl⟩ := refs v m
    have mx : V.ref t ∈ xs := by
      rw [back]
      exact List.mem_map.mpr ⟨_, m, rfl⟩
    obtain ⟨t', b, c, e, h1, h2, h3⟩ := hx _ mx
    cases e
    obtain ⟨_, its, r2, tp⟩ := I.hok _ _ h1
    obtain ⟨u1, u2, rfl, r3, r4⟩ := vals2 r2
    cases r3
    cases r4
    exact ⟨t, b, c, rfl, tp, it_of I h2, it_of I h3⟩
  refine SrtO.sorted_ord (ltv := fun v u => ltT (f (backV v)) (f (backV u))) (swo _) hl.isList (by rw [← rv.length]; exact size) (fun h2 h1 d hd kk => ?_) fun out so st => ?_
  · refine ttup_sortable (s := { s with heap := h1 }) (f := fun v => f (backV v)) ?_ (by omega) (fun v m => (pts v m).keeps fun b o g _ => (kk b o g).2) fun o g => ?_
    · show X.A.units + 1 + 1 < cLine
      omega
    · cases g.symm.trans hd
      intro c
      exact absurd (Value.type.inj c) (by decide)
  · have refs2 : ∀ u, u ∈ out → ∃ t, u = Value.ref t := fun u m => refs u (st.perm.mem_iff.mp m)
    have perm : (out.map backV).Perm xs := by
      rw [back]
      exact st.perm.map _
    obtain ⟨n, at'⟩ := PyProof.Rows.sortedAll_at s.heap ws out.toArray
    refine ⟨.ref (s.heap.objs.size + 1), upd H (s.heap.objs.size + 1) (.lst (out.map backV)), I.laid (t' := s.toks) (fun b o g => PyProof.Rows.sortedAll_old g) (Nat.le_succ _) ⟨?_, out, n, vals_back refs2, at'⟩, rfl, q (out.map backV) _ perm (List.pairwise_map.mpr so) (I.hok.fresh (Nat.le_succ _))⟩
    rw [perm.length_eq]
    exact size
end StR
set_option maxHeartbeats 1000000
/-! sorted of a list of tuples of ints, none of them empty -/
namespace StT
open PySem PySem.Spec PyProof.Rows L2 Dl StR
theorem swoT {α : Type} (f : α → List Int) : SrtO.Swo fun x y => ltL (f x) (f y) := ⟨fun x y h => lt_asym h, fun x y z h1 h2 => lt_neg h1 h2⟩
section
variable {prog : Program} {w : World} {A : Around} {s : Shared}
theorem lex_all {Q : Bool → Shared → Prop} {b : Bool} : ∀ (ns ms : List Int) (xs ys : List Value) (i : Nat), IntsAre xs ns → IntsAre ys ms → Q (ltL ns ms) s → PySem.W.KatLex prog w A b (decide (xs.length < ys.length)) Q (xs.zip ys) i s
  | [], [], _, _, i, .nil, .nil, h => PySem.W.kat_nil h
  | [], m :: ms, _, _, i, .nil, .cons _ _ hy, h => by
    show PySem.W.KatLex prog w A b (decide (0 < _ + 1)) Q [] i s
    rw [decide_eq_true (Nat.succ_pos _)]
    exact PySem.W.kat_nil h
  | n :: ns, [], _, _, i, .cons _ _ hx, .nil, h => by
    show PySem.W.KatLex prog w A b (decide (_ + 1 < 0)) Q [] i s
    rw [decide_eq_false (Nat.not_lt_zero _)]
    exact PySem.W.kat_nil (by unfold ltL at h; exact h)
  | n :: ns, m :: ms, _, _, i, .cons (vs := xs) _ t hx, .cons (vs := ys) _ u hy, h => by
    have e0 : decide ((Value.int n t :: xs).length < (Value.int m u :: ys).length) = decide (xs.length < ys.length) := by
      rw [List.length_cons, List.length_cons]
      exact decide_eq_decide.mpr (by omega)
    rw [e0, List.zip_cons_cons]
    refine PySem.W.kat_cons (wpAny_eqBool_int ?_)
    unfold ltL at h
    by_cases e : n = m
    · rw [if_pos e] at h
      rw [show (n == m) = true from beq_iff_eq.mpr e]
      exact PySem.W.kat_yes (lex_all ns ms xs ys (i + 1) hx hy h)
    · rw [if_neg e] at h
      rw [show (n == m) = false from beq_eq_false_iff_ne.mpr e]
      exact PySem.W.kat_no (TS.oneLt_ints _ h)
def PI (h : Heap) (v : Value) (ns : List Int) : Prop := ∃ a : Addr, v = .ref a ∧ IT h a ns ∧ ns ≠ []
theorem PI.keeps {h h' : Heap} {v : Value} {p : List Int} (x : PI h v p) (k : ∀ b o, h.get? b = some o → o.cls = .type "tuple" → h'.get? b = some o) : PI h' v p := by
  obtain ⟨a, e, y, n⟩ := x
  exact ⟨a, e, y.keeps k, n⟩
theorem tup_cmp {vs : List Value} {f : Value → List Int} {b : Bool} (hp : ∀ v, v ∈ vs → PI s.heap v (f v)) : SrtO.Cmp prog w A s (tuples' b) (fun p => p.1 ∈ vs) (SrtO.lt2 fun v u => ltL (f v) (f u)) := by
  intro p q mp mq
  show wpAny (model prog w) A (keyLt' (tuples' b) p.1 q.1) (fun r s' => s' = s ∧ r = ltL (f p.1) (f q.1)) (fun _ _ => False) s
  obtain ⟨a, e, ⟨us, ia, o, ho, hc, n, hd⟩, _⟩ := hp _ mp
  obtain ⟨a', e', ⟨us', ia', o', ho', hc', n', hd'⟩, _⟩ := hp _ mq
  rw [e, e']
  refine PySem.W.kat_lt ho hd ho' hd' ?_
  exact lex_all _ _ us us' 0 ia ia' ⟨rfl, by rw [e, e']⟩
theorem tup_firsts {h : Heap} {f : Value → List Int} : ∀ vs : List Value, (∀ v, v ∈ vs → PI h v (f v)) → ∃ fs : List Value, PySem.W.KatTups h vs fs ∧ fs.length = vs.length ∧ ∀ g, g ∈ fs → ∃ n t, g = Value.int n t
  | [], _ => ⟨[], PySem.W.KatTups.nil, rfl, nofun⟩
  | v :: vs, x => by
    obtain ⟨fs, kt, len, each⟩ := tup_firsts vs fun u m => x u (List.mem_cons_of_mem _ m)
    obtain ⟨a, e, ⟨us, ia, o, ho, hc, n, hd⟩, ne⟩ := x v (List.mem_cons_self ..)
    generalize f v = ns at ia ne
    cases ia with
    | nil => exact absurd rfl ne
    | cons m t ia =>
      rw [e]
      refine ⟨_ :: fs, PySem.W.KatTups.cons ho hc hd rfl kt, congrArg Nat.succ len, fun g m => ?_⟩
      rcases List.mem_cons.mp m with rfl | m
      · exact ⟨_, _, rfl⟩
      · exact each g m
theorem tup_sortable {a : Addr} {vs : List Value} {f : Value → List Int} (h0 : 0 < vs.length) (hp : ∀ v, v ∈ vs → PI s.heap v (f v)) (ha : ∀ o, s.heap.get? a = some o → o.cls ≠ .type "tuple") : SrtO.SortableO prog w A s a vs fun v u => ltL (f v) (f u) := by
  intro h1 keep
  have hp1 : ∀ v, v ∈ vs → PI h1 v (f v) := fun v m => (hp v m).keeps fun b o g c => keep b o (fun z => by subst z; exact ha o g c) g
  obtain ⟨fs, kt, len, each⟩ := tup_firsts vs hp1
  refine ⟨tuples' true, fun Q E q => ?_, tup_cmp (s := { s with heap := h1 }) hp1⟩
  refine PySem.W.kat_kind (s := { s with heap := h1 }) (T := .type "int") kt (by omega) (fun g m => ?_) (by rfl) ?_
  · obtain ⟨n, t, rfl⟩ := each g m
    exact PySem.W.Looks.of_pure rfl
  · have e : (Value.type "int" != Value.type "tuple") = true := by decide +kernel
    rw [e]
    exact q
end
def rSortT (K : PySem.W.Frag) : List V → Hp → VK → Prop := fun vs H Q => ∃ (a : Addr) (xs : List V) (f : V → List Int), vs = [V.ref a] ∧ SqL K H a xs ∧
  (∀ x, x ∈ xs → f x ≠ [] ∧ ∃ t, x = V.ref t ∧ H t = some (.tup ((f x).map V.int))) ∧
  ∀ ys p, ys.Perm xs → ys.Pairwise (fun x y => ltL (f y) (f x) = false) → H p = none → Q (.ref p) (upd H p (.lst ys))
theorem cr_sortT {X : Cx} (hu : X.A.units + 66 < cLine) : CallR X (.builtin "sorted") (rSortT X.K) := by
  rintro pins s σ H vs us Q I r ⟨a, xs, f, rfl, hs, hx, q⟩
  obtain ⟨ws, rv, hl, size⟩ := I.list hs
  rw [Vals.ref1 r]
  obtain ⟨back, refs⟩ := refs_back rv fun x m => by
    obtain ⟨_, t, e, _⟩ := hx x m
    exact ⟨t, e⟩
  have pts : ∀ v, v ∈ ws → PI s.heap v (f (backV v)) := fun v m => by
    obtain ⟨t, rfl⟩ := refs v m
    have mx : V.ref t ∈ xs := by
      rw [back]
      exact List.mem_map.mpr ⟨_, m, rfl⟩
    obtain ⟨ne, t', e, h1⟩ := hx _ mx
    cases e
    exact ⟨t, rfl, it_of I h1, ne⟩
  refine SrtO.sorted_ord (ltv := fun v u => ltL (f (backV v)) (f (backV u))) (swoT _) hl.isList (by rw [← rv.length]; exact size) (fun h2 h1 d hd kk => ?_) fun out so st => ?_
  · refine tup_sortable (s := { s with heap := h1 }) (f := fun v => f (backV v)) (by omega) (fun v m => (pts v m).keeps fun b o g _ => (kk b o g).2) fun o g => ?_
    cases g.symm.trans hd
    intro c
    exact absurd (Value.type.inj c) (by decide)
  · have refs2 : ∀ u, u ∈ out → ∃ t, u = Value.ref t := fun u m => refs u (st.perm.mem_iff.mp m)
    have perm : (out.map backV).Perm xs := by
      rw [back]
      exact st.perm.map _
    obtain ⟨n, at'⟩ := PyProof.Rows.sortedAll_at s.heap ws out.toArray
    refine ⟨.ref (s.heap.objs.size + 1), upd H (s.heap.objs.size + 1) (.lst (out.map backV)), I.laid (t' := s.toks) (fun b o g => PyProof.Rows.sortedAll_old g) (Nat.le_succ _) ⟨?_, out, n, vals_back refs2, at'⟩, rfl, q (out.map backV) _ perm (List.pairwise_map.mpr so) (I.hok.fresh (Nat.le_succ _))⟩
    rw [perm.length_eq]
    exact size
end StT
set_option maxHeartbeats 1000000
/-! sorted of a list of pairs of tuples of ints, over data -/
namespace Dl
open PySem PySem.Spec PyProof.Rows L2 Lcn Sq
def tI (ns : List Int) : Dt := .tup (ns.map .int)
def pT (p : List Int × List Int) : Dt := .tup [tI p.1, tI p.2]
def numV : V → Int
  | .int i => i
  | _ => 0
/-- the ints of the tuple at b -/
def numsAt (H : Hp) (b : Addr) : List Int := match H b with
  | some (.tup xs) => xs.map numV
  | _ => []
def ptV (H : Hp) (x : V) : List Int × List Int := match x with
  | .ref t => match H t with
    | some (.tup [.ref b, .ref c]) => (numsAt H b, numsAt H c)
    | _ => ([], [])
  | _ => ([], [])
theorem numV_map : ∀ ns : List Int, (ns.map V.int).map numV = ns
  | [] => rfl
  | n :: ns => by rw [List.map_cons, List.map_cons, numV_map ns]; rfl
section
variable {K : PySem.W.Frag} {av : Addr → Prop} {H : Hp}
theorem rep_tI {x : V} {ns : List Int} (r : Rep K av H x (tI ns)) : ∃ b, x = .ref b ∧ H b = some (.tup (ns.map V.int)) := by
  obtain ⟨b, xs, rfl, h, l⟩ := r.tup_inv
  rw [repl_ints l] at h
  exact ⟨b, rfl, h.2⟩
theorem rep_pT {x : V} {p : List Int × List Int} (r : Rep K av H x (pT p)) : ptV H x = p ∧ ∃ t b c, x = .ref t ∧ H t = some (.tup [.ref b, .ref c]) ∧ H b = some (.tup (p.1.map V.int)) ∧ H c = some (.tup (p.2.map V.int)) := by
  obtain ⟨t, xs, rfl, h, l⟩ := r.tup_inv
  obtain ⟨u, w, rfl, r1, r2⟩ := repl2 l
  obtain ⟨b, rfl, hb⟩ := rep_tI r1
  obtain ⟨c, rfl, hc⟩ := rep_tI r2
  refine ⟨?_, t, b, c, rfl, h.2, hb, hc⟩
  show (match H t with
    | some (.tup [.ref b, .ref c]) => (numsAt H b, numsAt H c)
    | _ => ([], [])) = p
  rw [h.2]
  show (numsAt H b, numsAt H c) = p
  unfold numsAt
  rw [hb, hc]
  show ((p.1.map V.int).map numV, (p.2.map V.int).map numV) = p
  rw [numV_map, numV_map]
theorem pt_map : ∀ {xs : List V} {ks : List (List Int × List Int)}, RepL K av H xs (ks.map pT) → xs.map (ptV H) = ks
  | [], [], _ => rfl
  | [], _ :: _, r => by have := r.l; simp at this
  | _ :: _, [], r => by have := r.l; simp at this
  | x :: xs, k :: ks, r => by rw [List.map_cons, pt_map r.head.2, (rep_pT (r.head.1 : Rep K av H x (pT k))).1]
theorem repl_pt : ∀ {ys : List V}, (∀ y, y ∈ ys → Rep K av H y (pT (ptV H y))) → RepL K av H ys ((ys.map (ptV H)).map pT)
  | [], _ => .nil
  | y :: ys, h => .cons (h y (List.mem_cons_self ..)) (repl_pt fun z m => h z (List.mem_cons_of_mem _ m))
end
def dSortTT (ds : List Dt) (Q : Dt → Prop) : Prop := ∃ ks : List (List Int × List Int), ds = [.lst (ks.map pT)] ∧ ∀ ms : List (List Int × List Int), ms.Perm ks → ms.Pairwise (fun x y => StR.ltT y x = false) → Q (.lst (ms.map pT))
theorem cr_sortTTK {X : Cx} {K : PySem.W.Frag} (hu : X.A.units + 66 < cLine) (hK : X.K = K) : CallR X (.builtin "sorted") (StR.rSortTT K) := hK ▸ StR.cr_sortTT hu
theorem rc_sortTT {K : PySem.W.Frag} : RcOk K (StR.rSortTT K) dSortTT := fun av H xs ds Q Qd al r d q => by
  obtain ⟨ks, rfl, d⟩ := d
  obtain ⟨x, rfl, rr⟩ := repl1 r
  obtain ⟨a, xs, rfl, hx, lx⟩ := rr.lst_inv
  have hm := pt_map lx
  have each : ∀ x, x ∈ xs → Rep K av H x (pT (ptV H x)) := fun x m => by
    obtain ⟨i, hi⟩ := List.mem_iff_getElem?.mp m
    exact lx.f i x _ hi (by rw [← hm, List.map_map, List.getElem?_map, hi]; rfl)
  refine ⟨a, xs, ptV H, rfl, hx.sq, fun x m => (rep_pT (each x m)).2, fun ys p pm so hp => ?_⟩
  refine q _ (.lst ((ys.map (ptV H)).map pT)) _ (same_new hp) (rep_newL al hp (repl_pt fun y m => each y (pm.mem_iff.mp m))) (d _ ?_ ?_)
  · rw [← hm]
    exact pm.map _
  · exact List.pairwise_map.mpr so
theorem ru66 {k : Nat} {A : Around} (hr : Room k A) : A.units + 66 < cLine := by have := hr.un; omega
section
variable {P : Program} {w : World} {K : PySem.W.Frag} {mg : Str → Option Value} {base : Heap}
theorem ok0g {x qual : Str} {params : Arguments} {body : List Stmt} {scope : Scope} {dvs : List V} {kws : List (Str × V)} {f : Addr} {fd : FuncData} {N ps : List Str} {k : Nat} {sp : Sp} (F : FunD K x qual params body scope dvs kws f fd) (S : FnScope N ps scope) (len : ∀ vs H Q E, sp vs H Q E → vs.length = ps.length)
    (hbody : ∀ (cdv : Value) (A : Around) (outer : List Env) (s : Shared) (H : Hp) (vs : List V) (Q : VK) (E : XK), (A.deeper (PyProof.Rows.envOfC qual scope s.heap.objs.size f cdv)).guards = some [] → Room k (A.deeper (PyProof.Rows.envOfC qual scope s.heap.objs.size f cdv)) → sp vs H Q E →
      ∃ t, PSs (cxOf CX0 P w K mg base N qual scope f cdv A outer s H E).nox body t ∧ t { nx := fun _ H' => Q .non H', rt := Q } (start N vs) H) : Gd.FnG P w K mg base CX0 (k + 1) f fd ps sp := by
  refine Gd.fund_g F S len fun cdv A outer s H vs Q E hg hr hsp => ?_
  obtain ⟨t, h, q⟩ := hbody cdv A outer s H vs Q E hg hr hsp
  exact ⟨t, h.nox, q⟩
end
end Dl
set_option maxHeartbeats 1000000
/-! == and != of two texts, whatever they hold -/
namespace Dl
open PySem PySem.Spec PyProof.Rows L2 Lcn Sq
def dStrEq (neg : Bool) (x y : Dt) (Q : Dt → Prop) : Prop := match x, y with
  | .str s, .str t => Q (.bl (if neg then !decide (s = t) else decide (s = t)))
  | _, _ => False
theorem str_dec (s t : Str) : decide (V.str s = V.str t) = decide (s = t) := by
  rw [Bool.eq_iff_iff, decide_eq_true_iff, decide_eq_true_iff]
  exact ⟨fun h => V.str.inj h, fun h => by rw [h]⟩
section
variable {ι : Type} {K : PySem.W.Frag} {X : ι → Cx}
theorem ro_eqS : ROk K rEq (dStrEq false) := fun av H x y dx dy Q Qd al rx ry d q => by
  unfold dStrEq at d
  split at d
  · rename_i s t
    rw [rx.str_inv, ry.str_inv]
    refine ⟨rfl, ?_⟩
    rw [str_dec]
    exact q _ _ H (Same.refl H) (.bl _) d
  · exact d.elim
theorem ro_neS : ROk K rNe (dStrEq true) := fun av H x y dx dy Q Qd al rx ry d q => by
  unfold dStrEq at d
  split at d
  · rename_i s t
    rw [rx.str_inv, ry.str_inv]
    refine ⟨rfl, ?_⟩
    rw [str_dec]
    exact q _ _ H (Same.refl H) (.bl _) d
  · exact d.elim
theorem cd_eqS : CmpD K X .Eq (dStrEq false) := ⟨_, fun _ => op_eq, ro_eqS⟩
theorem cd_neS : CmpD K X .NotEq (dStrEq true) := ⟨_, fun _ => op_ne, ro_neS⟩
end
end Dl
set_option maxHeartbeats 1000000
/-! sorted of a list of tuples of ints; abs; a display of one pair kept as the def's own dict -/
namespace Dl
open PySem PySem.Spec PyProof.Rows L2 Lcn Sq
def itV (H : Hp) (x : V) : List Int := match x with
  | .ref t => numsAt H t
  | _ => []
section
variable {K : PySem.W.Frag} {av : Addr → Prop} {H : Hp}
theorem rep_itV {x : V} {p : List Int} (r : Rep K av H x (tI p)) : itV H x = p ∧ ∃ t, x = .ref t ∧ H t = some (.tup (p.map V.int)) := by
  obtain ⟨b, rfl, hb⟩ := rep_tI r
  refine ⟨?_, b, rfl, hb⟩
  show numsAt H b = p
  unfold numsAt
  rw [hb]
  exact numV_map p
theorem it_map : ∀ {xs : List V} {ks : List (List Int)}, RepL K av H xs (ks.map tI) → xs.map (itV H) = ks
  | [], [], _ => rfl
  | [], _ :: _, r => by have := r.l; simp at this
  | _ :: _, [], r => by have := r.l; simp at this
  | x :: xs, k :: ks, r => by rw [List.map_cons, it_map r.head.2, (rep_itV (r.head.1 : Rep K av H x (tI k))).1]
theorem repl_it : ∀ {ys : List V}, (∀ y, y ∈ ys → Rep K av H y (tI (itV H y))) → RepL K av H ys ((ys.map (itV H)).map tI)
  | [], _ => .nil
  | y :: ys, h => .cons (h y (List.mem_cons_self ..)) (repl_it fun z m => h z (List.mem_cons_of_mem _ m))
end
def dSortT (ds : List Dt) (Q : Dt → Prop) : Prop := ∃ ks : List (List Int), ds = [.lst (ks.map tI)] ∧ (∀ k, k ∈ ks → k ≠ []) ∧ ∀ ms : List (List Int), ms.Perm ks → ms.Pairwise (fun x y => ltL y x = false) → Q (.lst (ms.map tI))
theorem cr_sortTK {X : Cx} {K : PySem.W.Frag} (hu : X.A.units + 66 < cLine) (hK : X.K = K) : CallR X (.builtin "sorted") (StT.rSortT K) := hK ▸ StT.cr_sortT hu
theorem rc_sortT {K : PySem.W.Frag} : RcOk K (StT.rSortT K) dSortT := fun av H xs ds Q Qd al r d q => by
  obtain ⟨ks, rfl, ne, d⟩ := d
  obtain ⟨x, rfl, rr⟩ := repl1 r
  obtain ⟨a, xs, rfl, hx, lx⟩ := rr.lst_inv
  have hm := it_map lx
  have each : ∀ x, x ∈ xs → Rep K av H x (tI (itV H x)) := fun x m => by
    obtain ⟨i, hi⟩ := List.mem_iff_getElem?.mp m
    exact lx.f i x _ hi (by rw [← hm, List.map_map, List.getElem?_map, hi]; rfl)
  refine ⟨a, xs, itV H, rfl, hx.sq, fun x m => ⟨ne _ (by rw [← hm]; exact List.mem_map.mpr ⟨x, m, rfl⟩), (rep_itV (each x m)).2⟩, fun ys p pm so hp => ?_⟩
  refine q _ (.lst ((ys.map (itV H)).map tI)) _ (same_new hp) (rep_newL al hp (repl_it fun y m => each y (pm.mem_iff.mp m))) (d _ ?_ ?_)
  · rw [← hm]
    exact pm.map _
  · exact List.pairwise_map.mpr so
/-- abs of an int -/
def dAbs (ds : List Dt) (Q : Dt → Prop) : Prop := ∃ i : Int, ds = [.int i] ∧ Q (.int (if i < 0 then -i else i))
theorem rc_abs {K : PySem.W.Frag} : RcOk K (fun xs H Q => ∃ i : Int, xs = [V.int i] ∧ Q (.int (if i < 0 then -i else i)) H) dAbs := fun av H xs ds Q Qd al r d q => by
  obtain ⟨i, rfl, d⟩ := d
  obtain ⟨x, rfl, rr⟩ := repl1 r
  rw [rr.int_inv]
  exact ⟨i, rfl, q _ _ H (Same.refl H) (.int _) d⟩
def dDOne (c0 : Oc) (i : Nat) (ek ev : EvE) : EvS := fun D δ => ek δ fun y => ev δ fun z => ∃ c', putO c0 y z = some c' ∧ ∀ a, D.nx (δ.set i (.own a c'))
section
variable {ι : Type} {K : PySem.W.Frag} {X : ι → Cx} {pos pos' p2 : Pos} {k v : Expr} {ek ev : EvE}
theorem ds_done1 {i : Nat} {x : Str} {c0 : Oc} (m0 : Mt0 c0) (hp : ∀ {te : TE} j, PE (X j) (.Dict [some k] [v] pos) te → PS (X j) (.Assign [.Name x pos'] (.Dict [some k] [v] pos) p2) (tAsg te (gName i))) (hu : ∀ j, (X j).A.units + 1 < cLine) (hk : DE true K X k ek) (hv : DE true K X v ev) : DS K X (.Assign [.Name x pos'] (.Dict [some k] [v] pos) p2) (dDOne c0 i ek ev) := by
  obtain ⟨tk, pk, vk⟩ := hk
  obtain ⟨tv, pv, vv⟩ := hv
  refine ⟨_, fun j => hp j (pe_one (hoO c0) (by cases m0; exact .inr rfl; exact .inl rfl) (hu j) (pk j) (pv j)), fun C σ δ H D Dd hK s e q => ?_⟩
  subst hK
  intro p np
  have nto : nt (hoO c0) := by cases m0 <;> exact ⟨fun _ => HO.noConfusion, fun _ _ => HO.noConfusion⟩
  have nsa : ¬ sa C.S p := fun c => (s.ava.na np) (s.avs p c)
  have nch : ¬ ch C.S p := fun c => nsa (ch_sa c)
  have sP : Sok (C.plus p) (upd H p (hoO c0)) σ δ := s.plus np nto
  refine vk (C.plus p) σ δ _ _ _ rfl sP e fun y dy H1 e1 ry e => ?_
  have s1 := sP.step e1
  refine vv (C.plus p) σ δ H1 _ _ rfl s1 e fun w dw H2 e2 rw' e => ?_
  obtain ⟨c', hpt, e⟩ := e
  have at2 : H2 p = some (hoO c0) := e2.keep p _ nch (e1.keep p _ nch upd_same)
  have o2 : ORep C.K (Zd (C.plus p) δ) H2 (hoO c0) c0 := by
    cases m0
    · exact ⟨rfl, .nil⟩
    · exact ⟨rfl, .nil⟩
  have l0 : lenO c0 < sizeLine := by
    cases m0 <;> (show 0 < sizeLine; decide)
  obtain ⟨u', dp, r6⟩ := put_ok at2 o2 (rep_st s1 e2 ry) rw' hpt l0
  have hin := putO_inn hpt
  have hin' : c'.inn = [] := by
    rw [hin]
  refine ⟨_, dp, ?_⟩
  refine q.nx _ _ _ (s.setO (xs := u') (ds := c') np ⟨fun b o c x => ?_, fun g => ?_⟩ upd_same (r6.move (fun b o nz x => ?_) (fun b z => .inl (zd_plus.mpr z)) fun b hb => ?_) hin') (e p)
  · have nb : b ≠ p := fun zz => by
      rw [zz, np] at x
      cases x
    rw [upd_ne nb]
    exact e2.keep b o c (e1.keep b o c (same_new np b o x))
  · exact (s1.step e2).g.upd nsa fun c q h => by
      rw [at2] at h
      exact o2.nt.2 c q (Option.some.inj h)
  · rw [upd_ne (fun (zz : b = p) => nz (zd_plus.mpr (.inr zz)))]
    exact x
  · rw [hin'] at hb
    cases hb
end
end Dl
set_option maxHeartbeats 1000000
/-! in and not in of a tuple whose things are not flat -/
namespace Dl
open PySem PySem.Spec PyProof.Rows L2 Lcn Sq
section
variable {X : Cx}
def rInT (neg : Bool) (K : PySem.W.Frag) : R2 := fun x y H Q => ∃ d ds, Dp K H x d ∧ Dp K H y (.tuple ds) ∧ SeqAt.shaped d = true ∧ SeqAt.shaped (.tuple ds) = true ∧ Q (.bl (if neg then !ds.any fun z => PyData.eqv z d else ds.any fun z => PyData.eqv z d)) H
theorem op_inT (hu : X.A.units + 65 < cLine) : OpR X (compareOp .In) (rInT false X.K) := by
  intro pins s σ H x y v u Q I rx ry h
  obtain ⟨d, ds, hd, he, sd, se, q⟩ := h
  obtain ⟨as, r1⟩ := Dp.reads I d x v hd rx
  obtain ⟨bs, r2⟩ := Dp.reads I (.tuple ds) y u he ry
  exact SeqAt.in_tuple_reads r2 r1 (SeqAt.canLay_of_shaped se) (SeqAt.canLay_of_shaped sd) (room_in_shaped sd hu) ⟨.bl _, H, I, rfl, q⟩
theorem op_notInT (hu : X.A.units + 65 < cLine) : OpR X (compareOp .NotIn) (rInT true X.K) := by
  intro pins s σ H x y v u Q I rx ry h
  obtain ⟨d, ds, hd, he, sd, se, q⟩ := h
  obtain ⟨as, r1⟩ := Dp.reads I d x v hd rx
  obtain ⟨bs, r2⟩ := Dp.reads I (.tuple ds) y u he ry
  exact SeqAt.notIn_tuple_reads r2 r1 (SeqAt.canLay_of_shaped se) (SeqAt.canLay_of_shaped sd) (room_in_shaped sd hu) ⟨.bl _, H, I, rfl, q⟩
end
@[irreducible] def dInT (neg : Bool) (x y : Dt) (Q : Dt → Prop) : Prop := match y with
  | .tup ds => shD x = true ∧ shD (.tup ds) = true ∧ Q (.bl (if neg then !anyEq x ds else anyEq x ds))
  | _ => False
section
variable {ι : Type} {K : PySem.W.Frag} {X : ι → Cx}
theorem ro_inT {neg : Bool} : ROk K (rInT neg K) (dInT neg) := fun av H x y dx dy Q Qd al rx ry d q => by
  unfold dInT at d
  split at d
  · obtain ⟨h1, h2, d⟩ := d
    have e := dp_of _ y (sh_py h2).2 ry
    have s := (sh_py h2).1
    rw [py] at e s
    refine ⟨_, _, dp_of dx x (sh_py h1).2 rx, e, (sh_py h1).1, s, q _ _ H (Same.refl H) (.bl _) ?_⟩
    rw [anyEq_py]
    exact d
  · exact d.elim
theorem cd_inT (hu : ∀ i, (X i).A.units + 65 < cLine) (hK : ∀ i, (X i).K = K := by intro _; rfl) : CmpD K X .In (dInT false) := ⟨_, fun i => hK i ▸ op_inT (hu i), ro_inT⟩
theorem cd_notInT (hu : ∀ i, (X i).A.units + 65 < cLine) (hK : ∀ i, (X i).K = K := by intro _; rfl) : CmpD K X .NotIn (dInT true) := ⟨_, fun i => hK i ▸ op_notInT (hu i), ro_inT⟩
end
theorem dInT_map {α : Type} [DecidableEq α] {f : α → Dt} (h : Sep f) {n : Nat} (hf : ∀ x, Fit n (f x)) (hn : n + 1 ≤ 64) {x : α} {xs : List α} {neg : Bool} {Q : Dt → Prop} (q : Q (.bl (if neg then !decide (x ∈ xs) else decide (x ∈ xs)))) : dInT neg (f x) (.tup (xs.map f)) Q := by
  unfold dInT
  refine ⟨(hf x).sh (by omega), (fit_tup (fit_map hf xs)).sh hn, ?_⟩
  rw [anyEq_map h]
  exact q
end Dl
set_option maxHeartbeats 4000000
namespace My
open PySem L2
def topS (i : Nat) : Stmt := PySem.Challenge.pw_pressedwords_k29_systems_and_answers_ref.main.body.getD i (.Pass ⟨0, 0, 0, 0⟩)
abbrev s_BadEquation_init : Stmt := inClass (topS 2) 0
abbrev s_is_whole : Stmt := topS 4
abbrev s_is_sequence : Stmt := topS 5
abbrev s_is_couple : Stmt := topS 6
abbrev s_is_side : Stmt := topS 7
abbrev s_form_value : Stmt := topS 9
abbrev s_Answer_init : Stmt := inClass (topS 11) 0
abbrev s_Answer_eq : Stmt := inClass (topS 11) 1
abbrev s_Carries_init : Stmt := inClass (topS 12) 0
abbrev s_Carries_eq : Stmt := inClass (topS 12) 1
abbrev s_check_system : Stmt := topS 13
abbrev s_columns_of : Stmt := topS 14
abbrev s_figures_of : Stmt := topS 15
abbrev s_added : Stmt := topS 16
abbrev s_parities : Stmt := topS 17
abbrev s_start_of_carries : Stmt := topS 18
abbrev s_moves_of : Stmt := topS 19
abbrev s_next_rows : Stmt := topS 20
abbrev s_whole : Stmt := topS 21
abbrev s_numbers_of : Stmt := topS 22
abbrev s_answer_fault : Stmt := topS 23
abbrev s__law_source : Stmt := topS 25
abbrev s__law_take : Stmt := topS 26
abbrev s__law_value : Stmt := topS 27
abbrev s__law_made_system : Stmt := topS 28
abbrev s__law_either : Stmt := topS 29
abbrev s__law_handed : Stmt := topS 30
abbrev s__law_is_whole : Stmt := topS 31
abbrev s__law_wide_system : Stmt := topS 32
abbrev s__law_odd_equation : Stmt := topS 33
abbrev s__law_refused : Stmt := topS 34
abbrev s__law_spoilt : Stmt := topS 35
abbrev s__law_refusals_right : Stmt := topS 36
abbrev s__law_due_fault : Stmt := topS 37
abbrev s__law_faults_right : Stmt := topS 38
abbrev s_law : Stmt := topS 39
/-- a def of the module, where it stands -/
structure Dn (K : PySem.W.Frag) (mg : Str → Option Value) (x : Str) (st : Stmt) (ps : List Str) where
  f : Addr
  fd : FuncData
  F : FunD K x x (defArgs st) (defBody st) (defScope st) [] [] f fd
  m : mg x = some (.ref f)
  b : Binds K fd ps []
/-- the built-in names that the module leaves alone -/
structure TB (mg : Str → Option Value) : Prop where
  len : mg "len" = none
  int : mg "int" = none
  bool : mg "bool" = none
  list_ : mg "list" = none
  tuple_ : mg "tuple" = none
  isinstance : mg "isinstance" = none
  all_ : mg "all" = none
  range : mg "range" = none
  min_ : mg "min" = none
  enumerate : mg "enumerate" = none
  zip : mg "zip" = none
  any_ : mg "any" = none
  sum_ : mg "sum" = none
  max_ : mg "max" = none
  sorted : mg "sorted" = none
  dict : mg "dict" = none
  repr : mg "repr" = none
  str_ : mg "str" = none
  set_ : mg "set" = none
  abs_ : mg "abs" = none
section
variable {P : Program} {w : World} {K : PySem.W.Frag} {mg : Str → Option Value} {base : Heap}
theorem ok0 {x qual : Str} {params : Arguments} {body : List Stmt} {scope : Scope} {dvs : List V} {kws : List (Str × V)} {f : Addr} {fd : FuncData} {N ps : List Str} {k : Nat} {sp : Sp} (F : FunD K x qual params body scope dvs kws f fd) (S : FnScope N ps scope) (len : ∀ vs H Q E, sp vs H Q E → vs.length = ps.length)
    (hbody : ∀ (cdv : Value) (A : Around) (outer : List Env) (s : Shared) (H : Hp) (vs : List V) (Q : VK) (E : XK), Room k (A.deeper (PyProof.Rows.envOfC qual scope s.heap.objs.size f cdv)) → sp vs H Q E →
      ∃ t, PSs (cxOf CX0 P w K mg base N qual scope f cdv A outer s H E).nox body t ∧ t { nx := fun _ H' => Q .non H', rt := Q } (start N vs) H) : FnOk P w K mg base CX0 (k + 1) f fd ps sp := by
  refine F.ok S len fun cdv A outer s H vs Q E hr hsp => ?_
  obtain ⟨t, h, q⟩ := hbody cdv A outer s H vs Q E hr hsp
  exact ⟨t, h.nox, q⟩
end
end My
set_option maxHeartbeats 4000000
namespace My
open PySem PySem.Spec PyProof.Rows L2 Lcn Sq
open Dl (Src SrcOk srcO SrcAt Sc Gs Stp dsp Spc Sl Dt ArgsOk Rep)
abbrev FnP (K : PySem.W.Frag) (x : Str) (st : Stmt) (f : Addr) (fd : FuncData) : Prop := FunD K x x (defArgs st) (defBody st) (defScope st) [] [] f fd
/-- all that was tracked beside the source stands, and the source stands -/
structure Kp (a L : Addr) (ns : List Int) (H H' : Hp) : Prop where
  keep : ∀ b o, b ≠ a → H b = some o → H' b = some o
  src : Src H' a L ns
theorem Kp.refl {a L : Addr} {ns : List Int} {H : Hp} (s : Src H a L ns) : Kp a L ns H H := ⟨fun _ _ _ h => h, s⟩
theorem Kp.trans {a L : Addr} {ns : List Int} {H H1 H2 : Hp} (x : Kp a L ns H H1) (y : Kp a L ns H1 H2) : Kp a L ns H H2 := ⟨fun b o n h => y.keep b o n (x.keep b o n h), y.src⟩
theorem Src.ne {a L : Addr} {ns : List Int} {H : Hp} {p : Addr} (s : Src H a L ns) (h : H p = none) : a ≠ p := by
  obtain ⟨_, _, _, q⟩ := s
  exact ne_of_none q.at_ h
theorem Src.kept {a L : Addr} {ns : List Int} {H H' : Hp} (s : Src H a L ns) (k : ∀ b o, H b = some o → H' b = some o) : Src H' a L ns := by
  obtain ⟨p, h, m, q⟩ := s
  exact ⟨p, h, m, q.ok, k _ _ q.at_, k _ _ q.ls, q.ne⟩
theorem Kp.same {a L : Addr} {ns : List Int} {H H' : Hp} (s : Src H a L ns) (k : ∀ b o, H b = some o → H' b = some o) : Kp a L ns H H' := ⟨fun b o _ h => k b o h, My.Src.kept s k⟩
theorem same_newA {H : Hp} {p : Addr} {o : HO} (h : H p = none) : ∀ b u, H b = some u → upd H p o b = some u := fun b u e => by
  rw [upd_ne (ne_of_none e h)]
  exact e
theorem Kp.new {a L : Addr} {ns : List Int} {H : Hp} {p : Addr} {o : HO} (s : Src H a L ns) (h : H p = none) : Kp a L ns H (upd H p o) := Kp.same s (same_newA h)
theorem Kp.upd {a L : Addr} {ns : List Int} {H : Hp} {p h m p' h' m' : Int} (S : SrcAt H a L ns p h m) (ok : SrcOk p' h' m') : Kp a L ns H (upd H a (srcO L p' h' m')) :=
  ⟨fun b o n e => by rw [upd_ne n]; exact e, p', h', m', ok, upd_same, by rw [upd_ne S.ne]; exact S.ls, S.ne⟩
/-- a tuple stands -/
theorem Kp.tup {a L : Addr} {ns : List Int} {H H' : Hp} {t : Addr} {xs : List V} (s : Src H a L ns) (k : Kp a L ns H H') (h : H t = some (.tup xs)) : H' t = some (.tup xs) := by
  obtain ⟨p, hh, m, q⟩ := s
  exact k.keep t _ (ne_of h q.at_ (by intro z; cases z)) h
/-- the promise of _law_take: some number below many, and only the source has changed -/
def spTake : Sp := fun vs H Q _ => ∃ (a L : Addr) (ns : List Int) (many : Int), vs = [.ref a, .int many] ∧ Src H a L ns ∧ 0 < many ∧ many < 2 ^ 200 ∧
  ∀ (r : Int) (H' : Hp), 0 ≤ r → r < many → Kp a L ns H H' → Q (.int r) H'
section
variable {P : Program} {w : World} {K : PySem.W.Frag} {mg : Str → Option Value} {base : Heap}
theorem scT : FnScope ["_law_source_here", "_law_many", "_law_cell", "_law_mixed", "_law_told"] ["_law_source_here", "_law_many"] (defScope s__law_take) :=
  ⟨rfl, rfl, rfl, by decide +kernel, rfl, by decide +kernel, by decide +kernel⟩
theorem at0 {a b c d : V} : atI [a, b, c, d] 0 = some a := rfl
theorem at1 {a b c d : V} : atI [a, b, c, d] 1 = some b := rfl
theorem at2 {a b c d : V} : atI [a, b, c, d] 2 = some c := rfl
theorem at3 {a b c d : V} : atI [a, b, c, d] 3 = some d := rfl
theorem atI_int {ns : List Int} {p : Int} (h0 : 0 ≤ p) (h1 : p < (ns.length : Int)) : ∃ z, atI (ns.map V.int) p = some (.int z) := by
  obtain ⟨j, rfl⟩ : ∃ j : Nat, p = (j : Int) := ⟨p.toNat, by omega⟩
  have hj : j < ns.length := by omega
  exact ⟨ns[j], atI_nat (by simp [List.getElem?_map, hj])⟩
theorem pow200 {x many : Int} (h0 : 0 < many) (h1 : many < 2 ^ 200) : CDivW x many := by
  refine wide_div (b := 200) h0 ?_ (by decide) (by decide)
  have e : ((2 : Int) ^ 200) = ((2 ^ 200 : Nat) : Int) := by norm_cast
  omega
theorem ok_take {f : Addr} {fd : FuncData} (F : FnP K "_law_take" s__law_take f fd) (T : TB mg) : FnOk P w K mg base CX0 1 f fd ["_law_source_here", "_law_many"] spTake := by
  refine ok0 F scT (fun vs H Q E h => ?_) (fun cdv A outer s H vs Q E hr h => ?_)
  · obtain ⟨a, L, ns, many, rfl, _⟩ := h
    rfl
  · obtain ⟨a, L, ns, many, rfl, ⟨p, hh, m, S⟩, hm0, hm1, k0⟩ := h
    have k : ∀ (r p' h' m' : Int), 0 ≤ r → r < many → SrcOk p' h' m' → Q (.int r) (upd H a (srcO L p' h' m')) := fun r p' h' m' r0 r1 ok => k0 r _ r0 r1 (Kp.upd S ok)
    have hA := S.at_
    have hL := S.ls
    have nLa := S.ne
    have hma := hm1
    refine ⟨_, C8.pss_cut (ps_if (pt_cmpR op_eq (pe_ix ix_list (pv 0) pe_int (fun _ _ => rfl)) pe_int (nomark _))
        (pss_cons (ps_set (i := 2) scT.nd rfl (Or.inl rfl) pe_int)
        (C8.pss_cut (ps_if (pt_cmpR op_lt (pe_ix ix_list (pv 0) pe_int (fun _ _ => rfl)) (pe_callB call_len_seq (by rfl) T.len PySem.boot_len (pa_cons (pe_ix ix_list (pv 0) pe_int (fun _ _ => rfl)) pa_nil)) (nomark _))
          (pss_one (ps_set (i := 2) scT.nd rfl (Or.inl rfl) (pe_ix ix_list (pe_ix ix_list (pv 0) pe_int (fun _ _ => rfl)) (pe_ix ix_list (pv 0) pe_int (fun _ _ => rfl)) (fun _ _ => rfl)))) pss_nil)
        (pss_cons (ps_asg (pe_op op_add (pe_ix ix_list (pv 0) pe_int (fun _ _ => rfl)) pe_int) (pg_sub (pv 0) pe_int set_list))
        (pss_one (ps_if (pt_cmpR op_ge (pv 2) (pe_op op_pow pe_int pe_int) (nomark _))
          (pss_one (ps_asg (pv 2) (pg_sub (pv 0) pe_int set_list)))
          (pss_cons (ps_set (i := 3) scT.nd rfl (Or.inl rfl) (pe_op op_mod (pe_callTy call_int1 (by rfl) T.int PyProof.Rows.boot_int (pa_cons (pe_op op_add (pe_op op_add (pe_op op_add (pe_op op_mul (pe_ix ix_list (pv 0) pe_int (fun _ _ => rfl)) pe_int) (pe_op op_mul (pe_op op_mod (pe_callTy call_int1 (by rfl) T.int PyProof.Rows.boot_int (pa_cons (pv 2) pa_nil)) pe_int) pe_int)) (pe_op op_mul (pe_ix ix_list (pv 0) pe_int (fun _ _ => rfl)) pe_int)) pe_int) pa_nil)) pe_int))
          (pss_cons (ps_set (i := 3) scT.nd rfl (Or.inl rfl) (pe_op op_mod (pe_callTy call_int1 (by rfl) T.int PyProof.Rows.boot_int (pa_cons (pe_op op_add (pe_op op_add (pe_op op_mul (pv 3) (pv 3)) (pe_op op_mul (pe_ix ix_list (pv 0) pe_int (fun _ _ => rfl)) pe_int)) pe_int) pa_nil)) pe_int))
          (pss_cons (ps_asg (pv 3) (pg_sub (pv 0) pe_int set_list))
          (pss_one (ps_ret (pe_op op_mod (pe_op op_fdiv (pv 3) pe_int) (pv 1))))))))))))
        pss_nil)
      (pss_cons (ps_set (i := 4) scT.nd rfl (Or.inl rfl) (pe_op op_mod (pe_callTy call_int1 (by rfl) T.int PyProof.Rows.boot_int (pa_cons (pe_ix ix_list (pv 0) pe_int (fun _ _ => rfl)) pa_nil)) (pv 1)))
      (pss_cons (ps_asg (pe_op op_fdivW (pe_ix ix_list (pv 0) pe_int (fun _ _ => rfl)) (pv 1)) (pg_sub (pv 0) pe_int set_list))
      (pss_one (ps_ret (pv 4))))), ?_⟩
    refine ⟨fun σ' H' => ∃ (σ2 σ3 σ4 : Option V) (p1 h1 m1 : Int), σ' = [some (.ref a), some (.int many), σ2, σ3, σ4] ∧ H' = upd H a (srcO L p1 h1 m1) ∧ SrcOk p1 h1 m1, ?_, ?_⟩
    · refine ⟨_, rfl, a, _, 2, _, rfl, rfl, SqL.of hA, rfl, rfl, _, rfl, ?_⟩
      refine ite2 (fun e0 => ?_) (fun e0 => ?_)
      · have h00 : hh = 0 := by simpa using e0
        refine ⟨fun σ' H' => ∃ c, σ' = [some (.ref a), some (.int many), some (.int c), none, none] ∧ H' = H, ?_, ?_⟩
        · refine ⟨_, rfl, a, _, 1, _, rfl, rfl, SqL.of hA, rfl, ?_⟩
          refine ⟨_, rfl, a, _, 0, _, rfl, rfl, SqL.of hA, rfl, L, _, rfl, .inl (SqL.of hL), _, _, rfl, rfl, _, rfl, ?_⟩
          refine ite2 (fun e1 => ?_) (fun e1 => ?_)
          · have hp : p < (ns.length : Int) := by
              have q := of_decide_eq_true e1
              rw [List.length_map] at q
              exact q
            obtain ⟨c, hc⟩ := atI_int S.ok.p0 hp
            exact ⟨_, rfl, a, _, 0, _, rfl, rfl, SqL.of hA, rfl, _, rfl, a, _, 1, _, rfl, rfl, SqL.of hA, rfl, L, _, p, _, rfl, rfl, SqL.of hL, hc, c, rfl, rfl⟩
          · exact ⟨0, rfl, rfl⟩
        · rintro σ' H' ⟨c, eσ, eH⟩
          rw [eσ, eH]
          refine ⟨_, rfl, a, _, 1, _, rfl, rfl, SqL.of hA, rfl, _, _, rfl, rfl, _, rfl, a, _, 1, 1, rfl, rfl, hA, rfl, ?_⟩
          have hB : upd H a (srcO L (p + 1) hh m) a = some (srcO L (p + 1) hh m) := upd_same
          refine ⟨_, rfl, _, _, rfl, rfl, ⟨by decide, by decide, by decide⟩, _, _, rfl, rfl, _, rfl, ?_⟩
          refine ite2 (fun e2 => ?_) (fun e2 => ?_)
          · have c18 : (10 : Int) ^ (18 : Nat) ≤ c := of_decide_eq_true e2
            refine ⟨_, rfl, _, rfl, a, _, 2, 2, rfl, rfl, hB, rfl, some (.int c), none, none, p + 1, c, m, rfl, ?_, ?_⟩
            · rw [upd_upd]
              rfl
            · exact ⟨by have := S.ok.p0; omega, by have : (0 : Int) ≤ 10 ^ (18 : Nat) := by decide
                                                   omega, S.ok.m0, S.ok.m1⟩
          · have bm : CMul m 69621 := .inr ⟨by decide, by decide⟩
            have bq : ∀ x : Int, CMul x 48271 := fun x => .inr ⟨by decide, by decide⟩
            have bp : ∀ x : Int, CMul x 7919 := fun x => .inr ⟨by decide, by decide⟩
            have bw : ∀ x : Int, CMul x 104729 := fun x => .inr ⟨by decide, by decide⟩
            -- mixed = int(..) % 2147483647
            refine ⟨_, rfl, a, _, 3, _, rfl, rfl, SqL.of hB, rfl, _, _, rfl, rfl, bm, ?_⟩
            refine ⟨_, rfl, .inl ⟨_, rfl, _, _, rfl, rfl, (by show (0 : Int) < 2147483629; decide), _, _, rfl, rfl, bq _, _, _, rfl, rfl, ?_⟩⟩
            refine ⟨_, rfl, a, _, 1, _, rfl, rfl, SqL.of hB, rfl, _, _, rfl, rfl, bp _, _, _, rfl, rfl, _, _, rfl, rfl, .inl ⟨_, rfl, _, _, rfl, rfl, (by show (0 : Int) < 2147483647; decide), ?_⟩⟩
            obtain ⟨x, hx⟩ : ∃ x, x = (m * 69621 + c % 2147483629 * 48271 + (p + 1) * 7919 + 1) % 2147483647 := ⟨_, rfl⟩
            have x0 : 0 ≤ x := by rw [hx]; exact Int.emod_nonneg _ (by decide)
            have x1 : x < 2147483647 := by rw [hx]; exact Int.emod_lt_of_pos _ (by decide)
            show tSeq _ _ _ [some (.ref a), some (.int many), some (.int c), some (.int ((m * 69621 + c % 2147483629 * 48271 + (p + 1) * 7919 + 1) % 2147483647)), none] _
            rw [← hx]
            refine ⟨_, rfl, _, rfl, _, _, rfl, rfl, .inl ⟨by omega, by omega⟩, ?_⟩
            refine ⟨_, rfl, a, _, 1, _, rfl, rfl, SqL.of hB, rfl, _, _, rfl, rfl, bw _, _, _, rfl, rfl, _, _, rfl, rfl, .inl ⟨_, rfl, _, _, rfl, rfl, (by show (0 : Int) < 2147483629; decide), ?_⟩⟩
            obtain ⟨y, hy⟩ : ∃ y, y = (x * x + (p + 1) * 104729 + 13) % 2147483629 := ⟨_, rfl⟩
            have y0 : 0 ≤ y := by rw [hy]; exact Int.emod_nonneg _ (by decide)
            have y1 : y < 2147483629 := by rw [hy]; exact Int.emod_lt_of_pos _ (by decide)
            show tSeq _ _ _ [some (.ref a), some (.int many), some (.int c), some (.int ((x * x + (p + 1) * 104729 + 13) % 2147483629)), none] _
            rw [← hy]
            refine ⟨_, rfl, _, rfl, a, _, 3, 3, rfl, rfl, hB, rfl, ?_⟩
            refine ⟨_, rfl, _, _, rfl, rfl, ⟨by decide, by decide⟩, _, rfl, _, _, rfl, rfl, hm0, ?_⟩
            rw [upd_upd]
            exact k _ (p + 1) hh y (Int.emod_nonneg _ (by omega)) (Int.emod_lt_of_pos _ hm0) ⟨by have := S.ok.p0; omega, S.ok.h0, y0, by omega⟩
      · refine ⟨none, none, none, p, hh, m, rfl, ?_, S.ok⟩
        funext b
        by_cases hb : b = a
        · rw [hb, upd_same, hA]
        · rw [upd_ne hb]
    · rintro σ' H' ⟨σ2, σ3, σ4, p1, h1, m1, eσ, eH, ok⟩
      rw [eσ, eH]
      have hA' : upd H a (srcO L p1 h1 m1) a = some (srcO L p1 h1 m1) := upd_same
      refine ⟨_, rfl, a, _, 2, _, rfl, rfl, SqL.of hA', rfl, .inl ⟨_, rfl, _, rfl, _, _, rfl, rfl, hm0, ?_⟩⟩
      refine ⟨_, rfl, a, _, 2, _, rfl, rfl, SqL.of hA', rfl, _, rfl, _, _, rfl, rfl, pow200 (x := h1) hm0 hm1, _, rfl, ?_⟩
      refine ⟨a, _, 2, 2, rfl, rfl, hA', rfl, ?_⟩
      refine ⟨_, rfl, ?_⟩
      rw [upd_upd]
      exact k _ _ _ _ (Int.emod_nonneg _ (by omega)) (Int.emod_lt_of_pos _ hm0) ⟨ok.p0, Int.ediv_nonneg ok.h0 (by omega), ok.m0, ok.m1⟩
/-! ### _law_source -/
def spSource (K : PySem.W.Frag) : Sp := fun vs H Q _ => ∃ (a : Addr) (ns : List Int), vs = [.ref a] ∧ SqL K H a (ns.map V.int) ∧ ∀ (p L : Addr) (H' : Hp), Same H H' → H p = none → Src H' p L ns → Q (.ref p) H'
theorem scSo : FnScope ["_law_script"] ["_law_script"] (defScope s__law_source) := ⟨rfl, rfl, rfl, by decide +kernel, rfl, by decide +kernel, by decide +kernel⟩
theorem ok_source {f : Addr} {fd : FuncData} (F : FnP K "_law_source" s__law_source f fd) (T : TB mg) : FnOk P w K mg base CX0 1 f fd ["_law_script"] (spSource K) := by
  refine ok0 F scSo (fun vs H Q E h => ?_) (fun cdv A outer s H vs Q E hr h => ?_)
  · obtain ⟨a, ns, rfl, _⟩ := h
    rfl
  · obtain ⟨a, ns, rfl, hS, k⟩ := h
    refine ⟨_, pss_one (ps_ret (pe_lst (pa_cons (pe_callTy call_list_of (by rfl) T.list_ (by decide +kernel) (pa_cons (pv 0) pa_nil)) (pa_cons pe_int (pa_cons pe_int (pa_cons pe_int pa_nil)))))), ?_⟩
    refine ⟨_, rfl, a, _, rfl, .inl hS, fun l hl => ⟨(by show 4 ≤ sizeLine; decide), fun p hp => ?_⟩⟩
    have nlp : l ≠ p := fun z => by
      rw [z, upd_same] at hp
      cases hp
    have hp0 : H p = none := by
      rw [upd_ne (Ne.symm nlp)] at hp
      exact hp
    refine k p l _ (fun b o e => ?_) hp0 ⟨0, 0, 1, ⟨by decide, by decide, by decide, by decide⟩, upd_same, ?_, nlp⟩
    · rw [upd_ne (ne_of_none e hp0), upd_ne (ne_of_none e hl)]
      exact e
    · rw [upd_ne nlp, upd_same]
/-! ### over data -/
open Dl
def sp_take : Spc := fun δ Q => ∃ many : Int, δ = [.src, .val (.int many)] ∧ 0 < many ∧ many < 2 ^ 200 ∧ ∀ r : Int, 0 ≤ r → r < many → Q (.int r)
theorem ok_takeD (D : Dn K mg "_law_take" s__law_take ["_law_source_here", "_law_many"]) (T : TB mg) : FnOk P w K mg base CX0 1 D.f D.fd ["_law_source_here", "_law_many"] (dsp K 2 sp_take) := by
  refine (ok_take D.F T).imp fun vs H Q E h => ?_
  obtain ⟨S, av, δ, Qd, h1, al, g, ao, hl, ⟨many, rfl, hm0, hm1, hq⟩, k⟩ := h
  have l2 : vs.length = 2 := by rw [ao.l]; rfl
  match vs, l2, ao with
  | [x, y], _, ao =>
    obtain ⟨z, hz, hx⟩ := ao.f 0 x .src rfl rfl
    have hy : Rep K av H y (.int many) := ao.f 1 y (.val (.int many)) rfl rfl
    subst hz
    obtain ⟨gs, gt⟩ := g
    obtain ⟨_, _, _, sr⟩ := id gs
    refine ⟨z.1, z.2.1, z.2.2.1, many, by rw [hx, hy.int_inv], gs, hm0, hm1, fun r H' r0 r1 kp => k _ (.int r) H' ⟨fun b o hb => kp.keep b o (fun e => hb (.inl e)), fun _ => ⟨kp.src, fun t ht => ?_⟩⟩ (.int r) (hq r r0 r1)⟩
    obtain ⟨ps, h1, h2, h3⟩ := gt t ht
    have at_ := sr.at_
    refine ⟨ps, kp.keep _ _ (fun e => by rw [e, at_] at h1; cases h1) h1, h2, fun pos cv hc => ?_⟩
    obtain ⟨c, e1, e2⟩ := h3 pos cv hc
    exact ⟨c, e1, kp.keep _ _ (fun e => by rw [e, at_] at e2; cases e2) e2⟩
end
end My
set_option maxHeartbeats 2000000
/-! == and != of things with own == within, either outcome -/
namespace Eqb
open PySem PySem.SeqAt GQ
open AutoSeq1 (wpAny_loadPart')
open MeetsSeq MeetsSeq2 MeetsSeq3 SeqRoads2
section
variable {prog : Program} {w : World} {A : Around} {R : Result → Shared → Prop}
/-- at each turn the two lists are read anew: N items each, the i-th two compare as e says -/
def ListB (prog : Program) (w : World) (A : Around) (E : Value → Shared → Prop) (l b : Addr) (N : Nat) (e : Nat → Bool) (I : Nat → Shared → Prop) : Prop :=
  ∀ i s, I i s → ∃ (items items2 : Array Value) (n n2 : Nat), s.heap.get? l = some { cls := .type "list", data := .seq items n } ∧ s.heap.get? b = some { cls := .type "list", data := .seq items2 n2 } ∧ items.size = N ∧ items2.size = N ∧
    ∀ (h1 : i < items.size) (h2 : i < items2.size), wpAny (model prog w) A.in1 (eqBool items[i] items2[i]) (fun r s' => r = e i ∧ I (i + 1) s') E s
theorem eq_loopB (l b : Addr) (N : Nat) (e : Nat → Bool) (I : Nat → Shared → Prop) (hl : ListB prog w A (fun e s' => R (.error e) s') l b N e I)
    (v : Bool) (fin : ∀ i s, I i s → R (.ok (.ret (.bool v))) s) (k : Nat) :
    ∀ i : Nat, N - i = k → i ≤ N → ((List.range N).drop i).all e = v → ∀ s, I i s →
      wpAny (model prog w) A.in1 (Builtin.«list.__eq__.loop» ⟨[.ref l, .ref b, rawInt i, rawInt 2], []⟩) (FinOf prog w A R) (fun e s' => R (.error e) s') s := by
  induction k with
  | zero =>
    intro i hk hi hv s h
    obtain ⟨items, items2, n, n2, hl1, hb1, hs1, hs2, _⟩ := hl _ _ h
    have hi' : i = N := by omega
    have hd : (List.range N).drop i = [] := by simp; omega
    rw [hd] at hv
    have hv : v = true := hv.symm
    have hR : R (.ok (.ret (.bool true))) s := by
      have := fin i s h
      rwa [hv] at this
    obtain ⟨hp, g, d, tk, os⟩ := s
    wp_walk using wpAny_loadPart' hl1, wpAny_loadPart' hb1
    have hi1 : items[((i : Nat) : Int).toNat]? = none := by simp; omega
    have hi2 : items2[((i : Nat) : Int).toNat]? = none := by simp; omega
    rw [hi1, hi2]
    wp_walk using wpAny_loadPart' hl1, wpAny_loadPart' hb1
    show R (.ok (.ret (.bool (items.size == items2.size)))) _
    rw [hs1, hs2]
    simpa using hR
  | succ k ih =>
    intro i hk hi hv s h
    obtain ⟨items, items2, n, n2, hl1, hb1, hs1, hs2, turn⟩ := hl _ _ h
    have hlt : i < items.size := by omega
    have hlt2 : i < items2.size := by omega
    have ht := turn hlt hlt2
    have hd : (List.range N).drop i = i :: (List.range N).drop (i + 1) := by
      have : i < (List.range N).length := by simp; omega
      rw [List.drop_eq_getElem_cons this]
      simp
    rw [hd, List.all_cons] at hv
    obtain ⟨hp, g, d, tk, os⟩ := s
    wp_walk using wpAny_loadPart' hl1, wpAny_loadPart' hb1
    have hi1 : items[((i : Nat) : Int).toNat]? = some items[i] := by simp [hlt]
    have hi2 : items2[((i : Nat) : Int).toNat]? = some items2[i] := by simp [hlt2]
    have hc : ((i : Int) + 1) = ((i + 1 : Nat) : Int) := by omega
    rw [hi1, hi2]
    refine wpAny_bind (wpAny_mono ht (fun r s2 h2 => ?_) fun _ _ x => x)
    obtain ⟨hr, h2⟩ := h2
    cases he : e i with
    | true =>
      rw [he] at hr hv
      subst hr
      have hrec := ih (i + 1) (by omega) (by omega) (by simpa using hv) s2 h2
      obtain ⟨hp2, g2, d2, tk2, os2⟩ := s2
      wp_walk
      rw [hc]
      exact ⟨plainId_quiet plain_eq_loop _, codeAny_builtin entry_eq_loop (by
        rw [Around.under_plainId plain_eq_loop _]
        exact hrec)⟩
    | false =>
      rw [he] at hr hv
      subst hr
      have hv : v = false := by simpa using hv.symm
      have hR : R (.ok (.ret (.bool false))) s2 := by
        have := fin (i + 1) s2 h2
        rwa [hv] at this
      obtain ⟨items', items2', n', n2', hl1', hb1', hs1', hs2', _⟩ := hl _ _ h2
      obtain ⟨hp2, g2, d2, tk2, os2⟩ := s2
      have hj1 : items'[((i : Nat) : Int).toNat]? = some (items'[i]'(by omega)) := by
        have : i < items'.size := by omega
        simp [this]
      have hj2 : items2'[((i : Nat) : Int).toNat]? = some (items2'[i]'(by omega)) := by
        have : i < items2'.size := by omega
        simp [this]
      wp_walk using wpAny_loadPart' hl1', wpAny_loadPart' hb1'
      rw [hj1, hj2]
      wp_walk
      exact hR
theorem ne_loopB (l b : Addr) (N : Nat) (e : Nat → Bool) (I : Nat → Shared → Prop) (hl : ListB prog w A (fun e s' => R (.error e) s') l b N e I)
    (v : Bool) (fin : ∀ i s, I i s → R (.ok (.ret (.bool (!v)))) s) (k : Nat) :
    ∀ i : Nat, N - i = k → i ≤ N → ((List.range N).drop i).all e = v → ∀ s, I i s →
      wpAny (model prog w) A.in1 (Builtin.«list.__eq__.loop» ⟨[.ref l, .ref b, rawInt i, rawInt 3], []⟩) (FinOf prog w A R) (fun e s' => R (.error e) s') s := by
  induction k with
  | zero =>
    intro i hk hi hv s h
    obtain ⟨items, items2, n, n2, hl1, hb1, hs1, hs2, _⟩ := hl _ _ h
    have hi' : i = N := by omega
    have hd : (List.range N).drop i = [] := by simp; omega
    rw [hd] at hv
    have hv : v = true := hv.symm
    have hR : R (.ok (.ret (.bool false))) s := by
      have := fin i s h
      rwa [hv] at this
    obtain ⟨hp, g, d, tk, os⟩ := s
    wp_walk using wpAny_loadPart' hl1, wpAny_loadPart' hb1
    have hi1 : items[((i : Nat) : Int).toNat]? = none := by simp; omega
    have hi2 : items2[((i : Nat) : Int).toNat]? = none := by simp; omega
    rw [hi1, hi2]
    wp_walk using wpAny_loadPart' hl1, wpAny_loadPart' hb1
    show R (.ok (.ret (.bool (items.size != items2.size)))) _
    rw [hs1, hs2]
    simpa using hR
  | succ k ih =>
    intro i hk hi hv s h
    obtain ⟨items, items2, n, n2, hl1, hb1, hs1, hs2, turn⟩ := hl _ _ h
    have hlt : i < items.size := by omega
    have hlt2 : i < items2.size := by omega
    have ht := turn hlt hlt2
    have hd : (List.range N).drop i = i :: (List.range N).drop (i + 1) := by
      have : i < (List.range N).length := by simp; omega
      rw [List.drop_eq_getElem_cons this]
      simp
    rw [hd, List.all_cons] at hv
    obtain ⟨hp, g, d, tk, os⟩ := s
    wp_walk using wpAny_loadPart' hl1, wpAny_loadPart' hb1
    have hi1 : items[((i : Nat) : Int).toNat]? = some items[i] := by simp [hlt]
    have hi2 : items2[((i : Nat) : Int).toNat]? = some items2[i] := by simp [hlt2]
    have hc : ((i : Int) + 1) = ((i + 1 : Nat) : Int) := by omega
    rw [hi1, hi2]
    refine wpAny_bind (wpAny_mono ht (fun r s2 h2 => ?_) fun _ _ x => x)
    obtain ⟨hr, h2⟩ := h2
    cases he : e i with
    | true =>
      rw [he] at hr hv
      subst hr
      have hrec := ih (i + 1) (by omega) (by omega) (by simpa using hv) s2 h2
      obtain ⟨hp2, g2, d2, tk2, os2⟩ := s2
      wp_walk
      rw [hc]
      exact ⟨plainId_quiet plain_eq_loop _, codeAny_builtin entry_eq_loop (by
        rw [Around.under_plainId plain_eq_loop _]
        exact hrec)⟩
    | false =>
      rw [he] at hr hv
      subst hr
      have hv : v = false := by simpa using hv.symm
      have hR : R (.ok (.ret (.bool true))) s2 := by
        have := fin (i + 1) s2 h2
        rwa [hv] at this
      obtain ⟨items', items2', n', n2', hl1', hb1', hs1', hs2', _⟩ := hl _ _ h2
      obtain ⟨hp2, g2, d2, tk2, os2⟩ := s2
      have hj1 : items'[((i : Nat) : Int).toNat]? = some (items'[i]'(by omega)) := by
        have : i < items'.size := by omega
        simp [this]
      have hj2 : items2'[((i : Nat) : Int).toNat]? = some (items2'[i]'(by omega)) := by
        have : i < items2'.size := by omega
        simp [this]
      wp_walk using wpAny_loadPart' hl1', wpAny_loadPart' hb1'
      rw [hj1, hj2]
      wp_walk
      exact hR
theorem list_eqB (l b : Addr) (N : Nat) (e : Nat → Bool) (I : Nat → Shared → Prop) (hl : ListB prog w A (fun e s' => R (.error e) s') l b N e I)
    (fin : ∀ i s, I i s → R (.ok (.ret (.bool ((List.range N).all e)))) s) {s : Shared} (h : I 0 s) :
    wpAny (model prog w) A.in1 (Builtin.«list.__eq__» ⟨[.ref l, .ref b], []⟩) (FinOf prog w A R) (fun e s' => R (.error e) s') s := by
  obtain ⟨items, items2, n, n2, hl1, hb1, hs1, hs2, _⟩ := hl _ _ h
  have hrec := eq_loopB (A := A) (R := R) l b N e I hl _ fin _ 0 rfl (Nat.zero_le _) rfl s h
  obtain ⟨hp, g, d, tk, os⟩ := s
  have f3 := AutoSeq1.sub_list_list
  have hne : ¬ (items.size != items2.size) = true := by simp [hs1, hs2]
  wp_walk using wpAny_loadPart' hl1, wpAny_loadPart' hb1
  exact ⟨plainId_quiet plain_eq_loop _, codeAny_builtin entry_eq_loop (by
    rw [Around.under_plainId plain_eq_loop _]
    exact hrec)⟩
theorem list_neB (l b : Addr) (N : Nat) (e : Nat → Bool) (I : Nat → Shared → Prop) (hl : ListB prog w A (fun e s' => R (.error e) s') l b N e I)
    (fin : ∀ i s, I i s → R (.ok (.ret (.bool (!(List.range N).all e)))) s) {s : Shared} (h : I 0 s) :
    wpAny (model prog w) A.in1 (Builtin.«list.__ne__» ⟨[.ref l, .ref b], []⟩) (FinOf prog w A R) (fun e s' => R (.error e) s') s := by
  obtain ⟨items, items2, n, n2, hl1, hb1, hs1, hs2, _⟩ := hl _ _ h
  have hrec := ne_loopB (A := A) (R := R) l b N e I hl _ fin _ 0 rfl (Nat.zero_le _) rfl s h
  obtain ⟨hp, g, d, tk, os⟩ := s
  have f3 := AutoSeq1.sub_list_list
  have hne : ¬ (items.size != items2.size) = true := by simp [hs1, hs2]
  wp_walk using wpAny_loadPart' hl1, wpAny_loadPart' hb1
  exact ⟨plainId_quiet plain_eq_loop _, codeAny_builtin entry_eq_loop (by
    rw [Around.under_plainId plain_eq_loop _]
    exact hrec)⟩
end
end Eqb
set_option maxHeartbeats 2000000
namespace Eqb
open PySem PySem.SeqAt GQ
open AutoSeq1 (wpAny_loadPart')
open MeetsSeq MeetsSeq2 MeetsSeq3 SeqRoads2
section
variable {prog : Program} {w : World} {A : Around} {R : Result → Shared → Prop}
theorem drop_range {N i : Nat} (h : i < N) : (List.range N).drop i = i :: (List.range N).drop (i + 1) := by
  have : i < (List.range N).length := by simp; omega
  rw [List.drop_eq_getElem_cons this]
  simp
theorem tuple_eqB (l b : Addr) (items items2 : Array Value) (n n2 : Nat) (dd dd2 : Option Addr) (sl sl2 : Array (Option Value)) (e : Nat → Bool) (I : Nat → Shared → Prop)
    (turn : ∀ i (h1 : i < items.size) (h2 : i < items2.size) s, I i s → wpAny (model prog w) A.in1 (eqBool items[i] items2[i]) (fun r s' => r = e i ∧ I (i + 1) s') (fun e s' => R (.error e) s') s)
    (fin : ∀ i s, I i s → R (.ok (.ret (.bool ((List.range (min items.size items2.size)).all e && items.size == items2.size)))) s) {s : Shared} (hl1 : s.heap.get? l = some { cls := .type "tuple", dict := dd, data := .seq items n, slots := sl }) (hb1 : s.heap.get? b = some { cls := .type "tuple", dict := dd2, data := .seq items2 n2, slots := sl2 }) (h : I 0 s) :
    wpAny (model prog w) A.in1 (Builtin.«tuple.__eq__» ⟨[.ref l, .ref b], []⟩) (FinOf prog w A R) (fun e s' => R (.error e) s') s := by
  have f2 := AutoSeq1.sub_tuple_tuple
  have hZ : (items.toList.zip items2.toList).length = min items.size items2.size := by simp
  have h0 := h
  obtain ⟨hp, g, d, tk, os⟩ := s
  wp_walk using wpAny_loadPart' hl1, wpAny_loadPart' hb1, wpAny_forIn_list _ (fun rest b s' => b.1 = none ∧ ∃ i, rest = (items.toList.zip items2.toList).drop i ∧ ((List.range (min items.size items2.size)).drop i).all e = (List.range (min items.size items2.size)).all e ∧ I i s') _
  case turn =>
    rintro ⟨y, x⟩ rest b s' ⟨hb', i, hz, hal, hI⟩
    have hlt : i < (items.toList.zip items2.toList).length := by
      rcases Nat.lt_or_ge i (items.toList.zip items2.toList).length with h' | h'
      · exact h'
      · rw [List.drop_of_length_le h'] at hz; cases hz
    have hm : i < min items.size items2.size := hZ ▸ hlt
    have h1 : i < items.size := Nat.lt_of_lt_of_le hm (Nat.min_le_left _ _)
    have h2 : i < items2.size := Nat.lt_of_lt_of_le hm (Nat.min_le_right _ _)
    rw [List.drop_eq_getElem_cons hlt] at hz
    injection hz with hyx hrest
    have hy : y = items[i] := by have := congrArg Prod.fst hyx; simpa using this
    have hx : x = items2[i] := by have := congrArg Prod.snd hyx; simpa using this
    subst hy hx
    rw [drop_range hm, List.all_cons] at hal
    refine wpAny_bind (wpAny_mono (turn i h1 h2 s' hI) (fun r s2 q2 => ?_) fun _ _ x => x)
    obtain ⟨hr, q2⟩ := q2
    cases he : e i with
    | true =>
      rw [he] at hr hal
      subst hr
      wp_walk
      exact ⟨rfl, i + 1, hrest, by simpa using hal, q2⟩
    | false =>
      rw [he] at hr hal
      subst hr
      have hal : (List.range (min items.size items2.size)).all e = false := by simpa using hal.symm
      have hR := fin (i + 1) s2 q2
      rw [hal, Bool.false_and] at hR
      wp_walk
      exact hR
  case fin =>
    rintro ⟨b1, b2⟩ s' ⟨hb', i, hz, hal, hI⟩
    simp only at hb'
    subst hb'
    have hge : min items.size items2.size ≤ i := by
      rcases Nat.lt_or_ge i (items.toList.zip items2.toList).length with h' | h'
      · rw [List.drop_eq_getElem_cons h'] at hz; cases hz
      · exact hZ ▸ h'
    rw [List.drop_of_length_le (by simpa using hge)] at hal
    have hR := fin i s' hI
    rw [← hal] at hR
    wp_walk
    simpa [Builtin.Tuple.tupleCompareSizes] using hR
  case h =>
    exact ⟨rfl, 0, rfl, rfl, h0⟩
theorem tuple_neB (l b : Addr) (items items2 : Array Value) (n n2 : Nat) (dd dd2 : Option Addr) (sl sl2 : Array (Option Value)) (e : Nat → Bool) (I : Nat → Shared → Prop)
    (turn : ∀ i (h1 : i < items.size) (h2 : i < items2.size) s, I i s → wpAny (model prog w) A.in1 (eqBool items[i] items2[i]) (fun r s' => r = e i ∧ I (i + 1) s') (fun e s' => R (.error e) s') s)
    (fin : ∀ i s, I i s → R (.ok (.ret (.bool (!((List.range (min items.size items2.size)).all e && items.size == items2.size))))) s) {s : Shared} (hl1 : s.heap.get? l = some { cls := .type "tuple", dict := dd, data := .seq items n, slots := sl }) (hb1 : s.heap.get? b = some { cls := .type "tuple", dict := dd2, data := .seq items2 n2, slots := sl2 }) (h : I 0 s) :
    wpAny (model prog w) A.in1 (Builtin.«tuple.__ne__» ⟨[.ref l, .ref b], []⟩) (FinOf prog w A R) (fun e s' => R (.error e) s') s := by
  have f2 := AutoSeq1.sub_tuple_tuple
  have hZ : (items.toList.zip items2.toList).length = min items.size items2.size := by simp
  have h0 := h
  obtain ⟨hp, g, d, tk, os⟩ := s
  wp_walk using wpAny_loadPart' hl1, wpAny_loadPart' hb1, wpAny_forIn_list _ (fun rest b s' => b.1 = none ∧ ∃ i, rest = (items.toList.zip items2.toList).drop i ∧ ((List.range (min items.size items2.size)).drop i).all e = (List.range (min items.size items2.size)).all e ∧ I i s') _
  case turn =>
    rintro ⟨y, x⟩ rest b s' ⟨hb', i, hz, hal, hI⟩
    have hlt : i < (items.toList.zip items2.toList).length := by
      rcases Nat.lt_or_ge i (items.toList.zip items2.toList).length with h' | h'
      · exact h'
      · rw [List.drop_of_length_le h'] at hz; cases hz
    have hm : i < min items.size items2.size := hZ ▸ hlt
    have h1 : i < items.size := Nat.lt_of_lt_of_le hm (Nat.min_le_left _ _)
    have h2 : i < items2.size := Nat.lt_of_lt_of_le hm (Nat.min_le_right _ _)
    rw [List.drop_eq_getElem_cons hlt] at hz
    injection hz with hyx hrest
    have hy : y = items[i] := by have := congrArg Prod.fst hyx; simpa using this
    have hx : x = items2[i] := by have := congrArg Prod.snd hyx; simpa using this
    subst hy hx
    rw [drop_range hm, List.all_cons] at hal
    refine wpAny_bind (wpAny_mono (turn i h1 h2 s' hI) (fun r s2 q2 => ?_) fun _ _ x => x)
    obtain ⟨hr, q2⟩ := q2
    cases he : e i with
    | true =>
      rw [he] at hr hal
      subst hr
      wp_walk
      exact ⟨rfl, i + 1, hrest, by simpa using hal, q2⟩
    | false =>
      rw [he] at hr hal
      subst hr
      have hal : (List.range (min items.size items2.size)).all e = false := by simpa using hal.symm
      have hR := fin (i + 1) s2 q2
      rw [hal, Bool.false_and] at hR
      wp_walk
      exact hR
  case fin =>
    rintro ⟨b1, b2⟩ s' ⟨hb', i, hz, hal, hI⟩
    simp only at hb'
    subst hb'
    have hge : min items.size items2.size ≤ i := by
      rcases Nat.lt_or_ge i (items.toList.zip items2.toList).length with h' | h'
      · rw [List.drop_eq_getElem_cons h'] at hz; cases hz
      · exact hZ ▸ h'
    rw [List.drop_of_length_le (by simpa using hge)] at hal
    have hR := fin i s' hI
    rw [← hal] at hR
    wp_walk
    simpa [Builtin.Tuple.tupleCompareSizes, bne] using hR
  case h =>
    exact ⟨rfl, 0, rfl, rfl, h0⟩
end
section
variable {prog : Program} {w : World} {A : Around} {E : Value → Shared → Prop} {s : Shared}
theorem rc_listB {l b : Addr} {N : Nat} {e : Nat → Bool} {Q : Value → Shared → Prop} (hu : A.units < cLine) (I : Nat → Shared → Prop) (hl : ListB prog w A E l b N e I)
    (fin : ∀ i s, I i s → Q (.bool ((List.range N).all e)) s) (h : I 0 s) : wpAny (model prog w) A (richCompare .Eq (.ref l) (.ref b)) Q E s := by
  obtain ⟨items, items2, n, n2, hl1, hb1, _, _, _⟩ := hl _ _ h
  refine wpAny_richCompare_same_room (op := .Eq) ⟨_, hl1, rfl⟩ ⟨_, hb1, rfl⟩ F.slot_list_eq (call_here F.slot_list_eq ⟨_, hl1, rfl⟩ F.entry_list_eq (F.args_list_eq_2 _ _) ?_) hu
  exact list_eqB (R := wants (fun v s' => v ≠ .notImplemented ∧ Q v s') E) l b N e I hl (fun i s' q => ⟨(fun x => nomatch x), fin i s' q⟩) h
theorem rc_listBn {l b : Addr} {N : Nat} {e : Nat → Bool} {Q : Value → Shared → Prop} (hu : A.units < cLine) (I : Nat → Shared → Prop) (hl : ListB prog w A E l b N e I)
    (fin : ∀ i s, I i s → Q (.bool (!(List.range N).all e)) s) (h : I 0 s) : wpAny (model prog w) A (richCompare .NotEq (.ref l) (.ref b)) Q E s := by
  obtain ⟨items, items2, n, n2, hl1, hb1, _, _, _⟩ := hl _ _ h
  refine wpAny_richCompare_same_room (op := .NotEq) ⟨_, hl1, rfl⟩ ⟨_, hb1, rfl⟩ F.slot_list_ne (call_here F.slot_list_ne ⟨_, hl1, rfl⟩ F.entry_list_ne (F.args_list_ne_2 _ _) ?_) hu
  exact list_neB (R := wants (fun v s' => v ≠ .notImplemented ∧ Q v s') E) l b N e I hl (fun i s' q => ⟨(fun x => nomatch x), fin i s' q⟩) h
theorem rc_tupB {l b : Addr} {items items2 : Array Value} {e : Nat → Bool} {Q : Value → Shared → Prop} (hu : A.units < cLine) (I : Nat → Shared → Prop)
    (hl : s.heap.IsTuple l items) (hb : s.heap.IsTuple b items2)
    (turn : ∀ i (h1 : i < items.size) (h2 : i < items2.size) s, I i s → wpAny (model prog w) A.in1 (eqBool items[i] items2[i]) (fun r s' => r = e i ∧ I (i + 1) s') E s)
    (fin : ∀ i s, I i s → Q (.bool ((List.range (min items.size items2.size)).all e && items.size == items2.size)) s) (h : I 0 s) : wpAny (model prog w) A (richCompare .Eq (.ref l) (.ref b)) Q E s := by
  obtain ⟨⟨cls, dd, data, sl⟩, ho, hc, n, hd⟩ := id hl
  obtain ⟨⟨cls2, dd2, data2, sl2⟩, ho2, hc2, n2, hd2⟩ := id hb
  simp only at hc hd hc2 hd2
  subst hc hd hc2 hd2
  refine wpAny_richCompare_same_room (op := .Eq) ⟨_, ho, rfl⟩ ⟨_, ho2, rfl⟩ F.slot_tuple_eq (call_here F.slot_tuple_eq ⟨_, ho, rfl⟩ F.entry_tuple_eq (F.args_tuple_eq_2 _ _) ?_) hu
  exact tuple_eqB (R := wants (fun v s' => v ≠ .notImplemented ∧ Q v s') E) l b items items2 n n2 dd dd2 sl sl2 e I turn (fun i s' q => ⟨(fun x => nomatch x), fin i s' q⟩) ho ho2 h
theorem rc_tupBn {l b : Addr} {items items2 : Array Value} {e : Nat → Bool} {Q : Value → Shared → Prop} (hu : A.units < cLine) (I : Nat → Shared → Prop)
    (hl : s.heap.IsTuple l items) (hb : s.heap.IsTuple b items2)
    (turn : ∀ i (h1 : i < items.size) (h2 : i < items2.size) s, I i s → wpAny (model prog w) A.in1 (eqBool items[i] items2[i]) (fun r s' => r = e i ∧ I (i + 1) s') E s)
    (fin : ∀ i s, I i s → Q (.bool (!((List.range (min items.size items2.size)).all e && items.size == items2.size))) s) (h : I 0 s) : wpAny (model prog w) A (richCompare .NotEq (.ref l) (.ref b)) Q E s := by
  obtain ⟨⟨cls, dd, data, sl⟩, ho, hc, n, hd⟩ := id hl
  obtain ⟨⟨cls2, dd2, data2, sl2⟩, ho2, hc2, n2, hd2⟩ := id hb
  simp only at hc hd hc2 hd2
  subst hc hd hc2 hd2
  refine wpAny_richCompare_same_room (op := .NotEq) ⟨_, ho, rfl⟩ ⟨_, ho2, rfl⟩ F.slot_tuple_ne (call_here F.slot_tuple_ne ⟨_, ho, rfl⟩ F.entry_tuple_ne (F.args_tuple_ne_2 _ _) ?_) hu
  exact tuple_neB (R := wants (fun v s' => v ≠ .notImplemented ∧ Q v s') E) l b items items2 n n2 dd dd2 sl sl2 e I turn (fun i s' q => ⟨(fun x => nomatch x), fin i s' q⟩) ho ho2 h
end
end Eqb
set_option maxHeartbeats 1000000
/-! == and != of data with instances of classes that have an own == -/
namespace Dl
open PySem PySem.Spec PyProof.Rows L2 Lcn Sq
section
variable {K : PySem.W.Frag} {av av' : Addr → Prop} {H : Hp}
theorem ext_ds {xs : List V} {ds es : List Dt} (l : xs.length = ds.length) (l2 : xs.length = es.length) (h : ∀ (i : Nat) (x : V) (d e : Dt), xs[i]? = some x → ds[i]? = some d → es[i]? = some e → d = e) : ds = es := by
  apply List.ext_getElem?
  intro i
  rcases Nat.lt_or_ge i ds.length with hi | hi
  · have h1 : ds[i]? = some ds[i] := List.getElem?_eq_getElem hi
    have h2 : es[i]? = some (es[i]'(by omega)) := List.getElem?_eq_getElem _
    have h3 : xs[i]? = some (xs[i]'(by omega)) := List.getElem?_eq_getElem _
    rw [h1, h2, h i _ _ _ h3 h1 h2]
  · rw [List.getElem?_eq_none hi, List.getElem?_eq_none (by omega)]
theorem rd_one {a : Addr} {u v : HO} (h : Rd H a u) (h2 : Rd H a v) (hu : ∀ o w, u ≠ .frz o w) (hv : ∀ o w, v ≠ .frz o w) : u = v := by
  rcases h with h | ⟨o, h⟩ <;> rcases h2 with h2 | ⟨o2, h2⟩
  · exact Option.some.inj (h.symm.trans h2)
  · exact absurd (Option.some.inj (h.symm.trans h2)) (hu _ _)
  · exact absurd (Option.some.inj (h2.symm.trans h)) (hv _ _)
  · have e := Option.some.inj (h.symm.trans h2)
    cases e
    rfl
theorem rd_lst {a : Addr} {u v : HO} (h : Rd H a u) (h2 : H a = some v) (hu : ∀ o w, u ≠ .frz o w) (hv : ∀ o w, v ≠ .frz o w) : u = v := rd_one h (.inl h2) hu hv
theorem ext_es {κ : Type} {fs : List (κ × V)} {es es' : List (κ × Dt)} (l : fs.map Prod.fst = es.map Prod.fst) (l2 : fs.map Prod.fst = es'.map Prod.fst) (q : ∀ (i : Nat) (x : κ × V) (d e : κ × Dt), fs[i]? = some x → es[i]? = some d → es'[i]? = some e → d.2 = e.2) : es = es' := by
  apply List.ext_getElem?
  intro i
  have ll : fs.length = es.length := by simpa using congrArg List.length l
  have ll2 : fs.length = es'.length := by simpa using congrArg List.length l2
  rcases Nat.lt_or_ge i es.length with hi | hi
  · have h1 : es[i]? = some es[i] := List.getElem?_eq_getElem hi
    have h3 : es'[i]? = some (es'[i]'(by omega)) := List.getElem?_eq_getElem _
    have h4 : fs[i]? = some (fs[i]'(by omega)) := List.getElem?_eq_getElem _
    have q := q i _ _ _ h4 h1 h3
    have n1 : (fs.map Prod.fst)[i]? = some es[i].1 := by rw [l, List.getElem?_map, h1]; rfl
    have n2 : (fs.map Prod.fst)[i]? = some (es'[i]'(by omega)).1 := by rw [l2, List.getElem?_map, h3]; rfl
    have n3 := Option.some.inj (n1.symm.trans n2)
    rw [h1, h3]
    congr 1
    exact Prod.ext n3 q
  · rw [List.getElem?_eq_none hi, List.getElem?_eq_none (by omega)]
/-- a value stands for one thing alone -/
theorem Rep.fn {v : V} {d : Dt} (h : Rep K av H v d) : ∀ {e : Dt}, Rep K av' H v e → d = e := by
  induction h with
  | non => intro e h'; cases h'; rfl
  | bl b => intro e h'; cases h'; rfl
  | int i => intro e h'; cases h'; rfl
  | str s => intro e h'; cases h'; rfl
  | lst h l f ih =>
    intro e h'
    cases h' with
    | lst h2 l2 f2 =>
      have e1 := Option.some.inj (h.2.symm.trans h2.2)
      cases e1
      congr 1
      exact ext_ds l l2 fun i x d e hx hd he => ih i x d hx hd (f2 i x e hx he)
    | tup h2 => have e1 := Option.some.inj (h.2.symm.trans h2.2); cases e1
    | ins _ h2 => have e1 := Option.some.inj (h.2.symm.trans h2); cases e1
    | dk _ h2 => have e1 := rd_lst h2 h.2 (fun _ _ => HO.noConfusion) (fun _ _ => HO.noConfusion); cases e1
    | dt _ h2 => have e1 := rd_lst h2 h.2 (fun _ _ => HO.noConfusion) (fun _ _ => HO.noConfusion); cases e1
  | tup h l f ih =>
    intro e h'
    cases h' with
    | tup h2 l2 f2 =>
      have e1 := Option.some.inj (h.2.symm.trans h2.2)
      cases e1
      congr 1
      exact ext_ds l l2 fun i x d e hx hd he => ih i x d hx hd (f2 i x e hx he)
    | lst h2 => have e1 := Option.some.inj (h.2.symm.trans h2.2); cases e1
    | ins _ h2 => have e1 := Option.some.inj (h.2.symm.trans h2); cases e1
    | dk _ h2 => have e1 := rd_lst h2 h.2 (fun _ _ => HO.noConfusion) (fun _ _ => HO.noConfusion); cases e1
    | dt _ h2 => have e1 := rd_lst h2 h.2 (fun _ _ => HO.noConfusion) (fun _ _ => HO.noConfusion); cases e1
  | @ins a C dx fs es na h l f ih =>
    intro e h'
    cases h' with
    | lst h2 => have e1 := Option.some.inj (h.symm.trans h2.2); cases e1
    | tup h2 => have e1 := Option.some.inj (h.symm.trans h2.2); cases e1
    | dk _ h2 => have e1 := rd_lst h2 h (fun _ _ => HO.noConfusion) (fun _ _ => HO.noConfusion); cases e1
    | dt _ h2 => have e1 := rd_lst h2 h (fun _ _ => HO.noConfusion) (fun _ _ => HO.noConfusion); cases e1
    | @ins _ C' dx' fs' es' na2 h2 l2 f2 =>
      have e1 := Option.some.inj (h.symm.trans h2)
      cases e1
      congr 1
      apply List.ext_getElem?
      intro i
      have ll : fs.length = es.length := by simpa using congrArg List.length l
      have ll2 : fs.length = es'.length := by simpa using congrArg List.length l2
      rcases Nat.lt_or_ge i es.length with hi | hi
      · have h1 : es[i]? = some es[i] := List.getElem?_eq_getElem hi
        have h3 : es'[i]? = some (es'[i]'(by omega)) := List.getElem?_eq_getElem _
        have h4 : fs[i]? = some (fs[i]'(by omega)) := List.getElem?_eq_getElem _
        have q := ih i _ _ h4 h1 (f2 i _ _ h4 h3)
        have n1 : (fs.map Prod.fst)[i]? = some es[i].1 := by rw [l, List.getElem?_map, h1]; rfl
        have n2 : (fs.map Prod.fst)[i]? = some (es'[i]'(by omega)).1 := by rw [l2, List.getElem?_map, h3]; rfl
        have n3 := Option.some.inj (n1.symm.trans n2)
        rw [h1, h3]
        congr 1
        exact Prod.ext n3 q
      · rw [List.getElem?_eq_none hi, List.getElem?_eq_none (by omega)]
  | dk na h l f ih =>
    intro e h'
    cases h' with
    | lst h2 => have e1 := rd_lst h h2.2 (fun _ _ => HO.noConfusion) (fun _ _ => HO.noConfusion); cases e1
    | tup h2 => have e1 := rd_lst h h2.2 (fun _ _ => HO.noConfusion) (fun _ _ => HO.noConfusion); cases e1
    | ins _ h2 => have e1 := rd_lst h h2 (fun _ _ => HO.noConfusion) (fun _ _ => HO.noConfusion); cases e1
    | dk _ h2 l2 f2 => 
      have e1 := rd_one h h2 (fun _ _ => HO.noConfusion) (fun _ _ => HO.noConfusion)
      cases e1
      congr 1
      exact ext_es l l2 fun i x d e hx hd he => ih i x d hx hd (f2 i x e hx he)
    | dt _ h2 l2 f2 => have e1 := rd_one h h2 (fun _ _ => HO.noConfusion) (fun _ _ => HO.noConfusion); cases e1
  | dt na h l f ih =>
    intro e h'
    cases h' with
    | lst h2 => have e1 := rd_lst h h2.2 (fun _ _ => HO.noConfusion) (fun _ _ => HO.noConfusion); cases e1
    | tup h2 => have e1 := rd_lst h h2.2 (fun _ _ => HO.noConfusion) (fun _ _ => HO.noConfusion); cases e1
    | ins _ h2 => have e1 := rd_lst h h2 (fun _ _ => HO.noConfusion) (fun _ _ => HO.noConfusion); cases e1
    | dk _ h2 l2 f2 => have e1 := rd_one h h2 (fun _ _ => HO.noConfusion) (fun _ _ => HO.noConfusion); cases e1
    | dt _ h2 l2 f2 => 
      have e1 := rd_one h h2 (fun _ _ => HO.noConfusion) (fun _ _ => HO.noConfusion)
      cases e1
      congr 1
      exact ext_es l l2 fun i x d e hx hd he => ih i x d hx hd (f2 i x e hx he)
end
/-- what a comparison of instances gives -/
abbrev QP := Addr → Addr → List (Str × Dt) → List (Str × Dt) → Bool → Prop
inductive GQ (P : QP) : Nat → Dt → Dt → Bool → Prop
  | flat {n : Nat} {d e : Dt} (hd : d.flat = true) (he : e.flat = true) (sd : shD d = true) (se : shD e = true) : GQ P n d e (eqD d e)
  | lst {n : Nat} {xs ys : List Dt} (e : Nat → Bool) (l : xs.length = ys.length) (h : ∀ (i : Nat) (x y : Dt), xs[i]? = some x → ys[i]? = some y → GQ P n x y (e i)) : GQ P (n + 1) (.lst xs) (.lst ys) ((List.range xs.length).all e)
  | lstN {n : Nat} {xs ys : List Dt} (l : xs.length ≠ ys.length) : GQ P (n + 1) (.lst xs) (.lst ys) false
  | tup {n : Nat} {xs ys : List Dt} (e : Nat → Bool) (h : ∀ (i : Nat) (x y : Dt), xs[i]? = some x → ys[i]? = some y → GQ P n x y (e i)) : GQ P (n + 1) (.tup xs) (.tup ys) ((List.range (min xs.length ys.length)).all e && decide (xs.length = ys.length))
  | ins {n : Nat} {C D : Addr} {fs gs : List (Str × Dt)} {b : Bool} (h : P C D fs gs b) : GQ P n (.ins C fs) (.ins D gs) b
theorem flat_refl {d : Dt} (h : d.flat = true) : eqD d d = true := by
  cases d <;> first | (cases h; done) | (unfold eqD; simp [py, PyData.eqv])
/-- the same things are told alike -/
theorem GQ.self {P : QP} (hP : ∀ C fs b, P C C fs fs b → b = true) {n : Nat} {d e : Dt} {b : Bool} (h : GQ P n d e b) : d = e → b = true := by
  induction h with
  | flat hd he _ _ =>
    intro z
    subst z
    exact flat_refl hd
  | lst e l h ih =>
    intro z
    cases z
    rw [List.all_eq_true]
    intro i hi
    rw [List.mem_range] at hi
    have hx := List.getElem?_eq_getElem hi
    exact ih i _ _ hx hx rfl
  | lstN l =>
    intro z
    cases z
    exact absurd rfl l
  | tup e h ih =>
    intro z
    cases z
    rw [Bool.and_eq_true, List.all_eq_true]
    refine ⟨fun i hi => ?_, decide_eq_true rfl⟩
    rw [List.mem_range, Nat.min_self] at hi
    have hx := List.getElem?_eq_getElem hi
    exact ih i _ _ hx hx rfl
  | ins h =>
    intro z
    cases z
    exact hP _ _ _ h
section
variable {X : Cx} {n : Nat} {P : QP}
def EqX (X : Cx) (n : Nat) (D : Dt → Dt → Bool → Prop) : Prop :=
  ∀ (A : Around) (pins : List (Addr × Obj)) (s : Shared) (σ : L2.St) (H : Hp) (av : Addr → Prop) (x y : V) (u v : Value) (dx dy : Dt) (b : Bool), L2.Sub X n A → Inv X pins σ H s → RelV x u → RelV y v → Al av H → Rep X.K av H x dx → Rep X.K av H y dy → D dx dy b →
    wpAny (model X.prog X.w) A (eqBool u v) (fun r s' => r = b ∧ ∃ H', Inv X pins σ H' s' ∧ Same H H') X.xe s
def RcX (neg : Bool) (X : Cx) (n : Nat) (D : Dt → Dt → Bool → Prop) : Prop :=
  ∀ (A : Around) (pins : List (Addr × Obj)) (s : Shared) (σ : L2.St) (H : Hp) (av : Addr → Prop) (x y : V) (u v : Value) (dx dy : Dt) (b : Bool), L2.Sub X n A → Inv X pins σ H s → RelV x u → RelV y v → Al av H → Rep X.K av H x dx → Rep X.K av H y dy → D dx dy b →
    wpAny (model X.prog X.w) A (richCompare (if neg then .NotEq else .Eq) u v) (fun r s' => r = .bool (if neg then !b else b) ∧ ∃ H', Inv X pins σ H' s' ∧ Same H H') X.xe s
/-- an own == of the class at C, told for D -/
structure ClEqB (pr : Program) (w : World) (K : PySem.W.Frag) (mg : Str → Option Value) (base : Heap) (L : Nat) (P : QP) : Prop where
  ok : ∀ C D fs gs b, P C D fs gs b → ∃ (k : Nat) (f : Addr) (fd : FuncData) (ps : List Str) (sp : Spc), k + 1 ≤ L ∧ FnOk pr w K mg base CX0 k f fd ps (dsp K 2 sp) ∧ PySem.W.findIn K (.ref C) "__eq__" = some (some (.ref f)) ∧ PySem.W.isFn K (.ref f) = true ∧ Binds K fd ps [] ∧ PySem.W.notFirst K C (.ref D) = true ∧
    PySem.W.findIn K (.ref C) "__ne__" = some (some (.builtin "object.__ne__")) ∧ PySem.W.mroIn K C (.type "object") = some true ∧ sp [.val (.ins C fs), .val (.ins D gs)] (fun d => d = .bl b)
  self : ∀ C fs b, P C C fs fs b → b = true
abbrev ClEq (X : Cx) (L : Nat) (P : QP) : Prop := ClEqB X.prog X.w X.K X.mg X.base L P
theorem RcX.eqX {D : Dt → Dt → Bool → Prop} (h : RcX false X n D) (hr : ∀ x y b, D x y b → x.flat = false ∧ y.flat = false) (hs : ∀ x b, D x x b → b = true) : EqX X n D := by
  intro A pins s σ H av x y u v dx dy b sb I rx ry al r1 r2 d
  obtain ⟨f1, f2⟩ := hr _ _ _ d
  have isr : ∀ {v : V} {e : Dt}, Rep X.K av H v e → e.flat = false → ∃ a, v = .ref a := fun r f => by
    cases r <;> first | (cases f; done) | exact ⟨_, rfl⟩
  obtain ⟨p, rfl⟩ := isr r1 f1
  obtain ⟨q, rfl⟩ := isr r2 f2
  cases rx
  cases ry
  by_cases hpq : p = q
  · subst hpq
    have e := r1.fn r2
    subst e
    have hb := hs _ _ d
    subst hb
    exact SeqAt.EqAt.same (A := A) (s := s) (.ref p) X.prog X.w X.xe _ ⟨rfl, H, I, Same.refl H⟩
  · refine GQ.eqBool_refG hpq (wpAny_mono (h A pins s σ H av (.ref p) (.ref q) _ _ dx dy b sb I rfl rfl al r1 r2 d) (fun r s' z => ?_) fun _ _ x => x)
    obtain ⟨hr', q'⟩ := z
    exact ⟨_, hr', by rfl, q'⟩
theorem eqV_D {K : PySem.W.Frag} {av : Addr → Prop} {H : Hp} {x y : V} {d e : Dt} (r1 : Rep K av H x d) (r2 : Rep K av H y e) (f1 : d.flat = true) (f2 : e.flat = true) : eqV x y = eqD d e := by
  cases r1 <;> first | (cases f1; done) | (cases r2 <;> first | (cases f2; done) | (unfold eqD; simp [py, PyData.eqv, eqV]))
def GI (P : QP) (d e : Dt) (b : Bool) : Prop := ∃ C D fs gs, d = .ins C fs ∧ e = .ins D gs ∧ P C D fs gs b
theorem rc_ins {L : Nat} (cl : ClEq X L P) (neg : Bool) : RcX neg X L (GI P) := by
  intro A pins s σ H av x y u v dx dy b sb I rx ry al r1 r2 d
  obtain ⟨C, D, fs, gs, rfl, rfl, hp⟩ := d
  obtain ⟨k, f, fd, ps, sp, hk, F, hs, hf, hb, hn, hne, hm, hsp⟩ := cl.ok _ _ _ _ _ hp
  obtain ⟨a, dxa, fs', rfl, na, ha, la, ra⟩ := ins_fields r1
  obtain ⟨c, dxc, gs', rfl, nc, hc, lc, rc⟩ := ins_fields r2
  cases rx
  cases ry
  obtain ⟨mA, J, _⟩ := ins_get I.hok ha
  obtain ⟨mB, J', _⟩ := ins_get I.hok hc
  obtain ⟨od, J, _⟩ := J.look
  obtain ⟨od', J', _⟩ := J'.look
  obtain ⟨m, hF⟩ := I.fr
  have hsp' : dsp X.K 2 sp [.ref a, .ref c] H (fun v H' => v = .bl b ∧ Same H H') E0 := by
    refine ⟨none, av, [.val (.ins C fs), .val (.ins D gs)], _, fun _ h => h.elim, al, trivial, args_cons (s := .val (.ins C fs)) r1 (args_cons (s := .val (.ins D gs)) r2 ⟨rfl, fun i v s h => by cases i <;> cases h⟩), rfl, hsp, fun v d H' st rp e => ?_⟩
    have e : d = .bl b := e
    subst e
    exact ⟨rp.bl_inv, fun b' o h => st.keep b' o (fun z => z) h⟩
  have hl := F.len _ _ _ _ hsp'
  have r2' : Vals [V.ref a, V.ref c] [Value.ref a, Value.ref c] := .cons rfl (.cons rfl .nil)
  have key : ∀ A', L2.Sub X k A' → wpAny (model X.prog X.w) A' (call (.ref f) [.ref a, .ref c]) (fun v s' => v = .bool b ∧ ∃ H', Inv X pins σ H' s' ∧ Same H H') X.xe s := fun A' sb' => by
    have e0 : Env0 X.prog X.w X.K X.mg X.base A' X.stack s H := by
      have e := I.env0
      exact ⟨by rw [sb'.fr]; exact e.frames, e.mod, e.bs, e.bsz, e.funs, e.frf, e.hok, e.bare⟩
    refine wpAny_call (codeAny_mono (F.run A' X.stack s H ⟨[.ref a, .ref c], []⟩ [.ref a, .ref c] [.ref a, .ref c] _ E0 sb'.room e0 (by
      have := hb s [.ref a, .ref c] I.kIn (by simpa using hl)
      simpa using this) r2' hsp') fun r s' hq => ?_)
    cases r with
    | error e => exact pass0 pins σ H s e s' I hq
    | ok fl =>
      cases fl with
      | ret w =>
        obtain ⟨z, H', I', rz, ez, ex⟩ := I.after hq
        subst ez
        cases rz
        exact ⟨rfl, H', I', ex⟩
      | next => exact False.elim hq
      | brk => exact False.elim hq
      | cont => exact False.elim hq
  cases neg with
  | false =>
    refine PySem.W.cmp_K (op := .Eq) (tb := .ref D) sb.room.units0 hF I.ok.mod.kin J J'.type hn hs hf ?_
    refine wpAny_mono (key A (sb.mono (by omega))) (fun v s' q => ?_) fun _ _ e => e
    obtain ⟨rfl, q2⟩ := q
    exact ⟨rfl, q2⟩
  | true =>
    have sb1 : L2.Sub X k A.in1 := (sb.mono (m := k + 1) (by omega)).in1
    refine Ne.ne_K (tb := .ref D) (by have := sb1.room.units0; exact this) hF I.ok.mod.kin J J'.type hn hs hf hne hm ?_
    refine wpAny_mono (key A.in1 sb1) (fun v s' q => ?_) fun _ _ e => e
    exact ⟨b, q.1, rfl, q.2⟩
/-- what a loop over the items keeps -/
def LpI (X : Cx) (pins : List (Addr × Obj)) (σ : L2.St) (H : Hp) (s' : Shared) : Prop := ∃ H', Inv X pins σ H' s' ∧ Same H H'
theorem turnX {D : Dt → Dt → Bool → Prop} (h : EqX X n D) {A : Around} (sb : L2.Sub X (n + 1) A) {pins : List (Addr × Obj)} {σ : L2.St} {H : Hp} {av : Addr → Prop} {xs ys : List V} {ds es : List Dt} {its its2 : List Value} {e : Nat → Bool} (al : Al av H) (p1 : RepL X.K av H xs ds) (p2 : RepL X.K av H ys es) (hd : ∀ (i : Nat) (x y : Dt), ds[i]? = some x → es[i]? = some y → D x y (e i)) (r : Vals xs its) (r2 : Vals ys its2)
    (i : Nat) (h1 : i < its.toArray.size) (h2 : i < its2.toArray.size) (s' : Shared) (l : LpI X pins σ H s') :
    wpAny (model X.prog X.w) A.in1 (eqBool its.toArray[i] its2.toArray[i]) (fun r s2 => r = e i ∧ LpI X pins σ H s2) X.xe s' := by
  obtain ⟨H1, I1, e1⟩ := l
  have g1 : its[i]? = some its.toArray[i] := by
    have h1' : i < its.length := by simpa using h1
    rw [List.getElem?_eq_getElem h1'] <;> simp
  have g2 : its2[i]? = some its2.toArray[i] := by
    have h2' : i < its2.length := by simpa using h2
    rw [List.getElem?_eq_getElem h2'] <;> simp
  have k1 : i < xs.length := by rw [r.length]; simpa using h1
  have k2 : i < ys.length := by rw [r2.length]; simpa using h2
  obtain ⟨u, hu, ru⟩ := r.get (List.getElem?_eq_getElem k1)
  obtain ⟨v, hv, rv⟩ := r2.get (List.getElem?_eq_getElem k2)
  rw [g1] at hu
  rw [g2] at hv
  rw [Option.some.inj hu, Option.some.inj hv]
  have d1 : ds[i]? = some (ds[i]'(by rw [← p1.l]; exact k1)) := List.getElem?_eq_getElem _
  have d2 : es[i]? = some (es[i]'(by rw [← p2.l]; exact k2)) := List.getElem?_eq_getElem _
  refine wpAny_mono (h A.in1 pins s' σ H1 av _ _ u v _ _ (e i) sb.in1 I1 ru rv (al.same e1) ((p1.f i _ _ (List.getElem?_eq_getElem k1) d1).same e1) ((p2.f i _ _ (List.getElem?_eq_getElem k2) d2).same e1) (hd i _ _ d1 d2)) (fun r s2 q => ?_) fun _ _ x => x
  obtain ⟨hr, H2, I2, e2⟩ := q
  exact ⟨hr, H2, I2, e1.trans e2⟩
def GN (P : QP) (n : Nat) (d e : Dt) (b : Bool) : Prop := GQ P n d e b ∧ d.flat = false ∧ e.flat = false
theorem rc_flat {neg : Bool} {D : Dt → Dt → Bool → Prop} (h : RcX neg X n D) {m : Nat} (hm : n ≤ m) : RcX neg X m D := fun A pins s σ H av x y u v dx dy b sb => h A pins s σ H av x y u v dx dy b (sb.mono hm)
theorem rcX_all {L : Nat} (cl : ClEq X L P) (neg : Bool) : ∀ n, (∀ m, m < n → EqX X (L + m) (GQ P m)) → RcX neg X (L + n) (GN P n) := by
  intro n ih A pins s σ H av x y u v dx dy b sb I rx ry al r1 r2 d
  obtain ⟨g, f1, f2⟩ := d
  cases g with
  | flat hd => rw [hd] at f1; cases f1
  | ins h => exact rc_ins cl neg A pins s σ H av x y u v _ _ b (sb.mono (Nat.le_add_right _ _)) I rx ry al r1 r2 ⟨_, _, _, _, rfl, rfl, h⟩
  | @lst m xs ys e l h =>
    obtain ⟨a, vs, rfl, ha, la⟩ := r1.lst_inv
    obtain ⟨c, ws, rfl, hc, lc⟩ := r2.lst_inv
    cases rx
    cases ry
    have hE := ih m (Nat.lt_succ_self m)
    have hl : Eqb.ListB X.prog X.w A X.xe a c xs.length e (fun _ s' => LpI X pins σ H s') := fun i s' q => by
      obtain ⟨H1, I1, e1⟩ := id q
      obtain ⟨z, its, k, r, e'⟩ := I1.hok a _ (e1 _ _ ha.2)
      obtain ⟨z2, its2, k2, r2', e2'⟩ := I1.hok c _ (e1 _ _ hc.2)
      refine ⟨its.toArray, its2.toArray, k, k2, e', e2', by rw [List.size_toArray, ← r.length, la.l], by rw [List.size_toArray, ← r2'.length, lc.l, l], fun h1 h2 => ?_⟩
      exact turnX hE sb al la lc h r r2' i h1 h2 s' q
    cases neg with
    | false => exact Eqb.rc_listB sb.room.units0 _ hl (fun _ s' q => ⟨rfl, q⟩) ⟨H, I, Same.refl H⟩
    | true => exact Eqb.rc_listBn sb.room.units0 _ hl (fun _ s' q => ⟨rfl, q⟩) ⟨H, I, Same.refl H⟩
  | @lstN m xs ys l =>
    obtain ⟨a, vs, rfl, ha, la⟩ := r1.lst_inv
    obtain ⟨c, ws, rfl, hc, lc⟩ := r2.lst_inv
    cases rx
    cases ry
    obtain ⟨z, its, k, r, e'⟩ := I.hok a _ ha.2
    obtain ⟨z2, its2, k2, r2', e2'⟩ := I.hok c _ hc.2
    have hne : (its.toArray.size != its2.toArray.size) = true := by
      rw [List.size_toArray, List.size_toArray, ← r.length, ← r2'.length, la.l, lc.l]
      simpa using l
    cases neg with
    | false => exact SeqAt.RcAt.lists_lengths ⟨_, e', rfl, _, rfl⟩ ⟨_, e2', rfl, _, rfl⟩ hne sb.room.units0 X.prog X.w X.xe _ ⟨rfl, H, I, Same.refl H⟩
    | true => exact SeqAt.RcNeAt.lists_lengths ⟨_, e', rfl, _, rfl⟩ ⟨_, e2', rfl, _, rfl⟩ hne sb.room.units0 X.prog X.w X.xe _ ⟨rfl, H, I, Same.refl H⟩
  | @tup m xs ys e h =>
    obtain ⟨a, vs, rfl, ha, la⟩ := r1.tup_inv
    obtain ⟨c, ws, rfl, hc, lc⟩ := r2.tup_inv
    cases rx
    cases ry
    have hE := ih m (Nat.lt_succ_self m)
    obtain ⟨its, r, e', z⟩ := I.tuple ha.sq
    obtain ⟨its2, r2', e2', z2⟩ := I.tuple hc.sq
    have s1 : its.toArray.size = xs.length := by rw [List.size_toArray, ← r.length, la.l]
    have s2 : its2.toArray.size = ys.length := by rw [List.size_toArray, ← r2'.length, lc.l]
    have sz : ∀ b' : Bool, ((List.range (min its.toArray.size its2.toArray.size)).all e && its.toArray.size == its2.toArray.size) = ((List.range (min xs.length ys.length)).all e && decide (xs.length = ys.length)) := fun _ => by
      rw [s1, s2]
      congr 1
    cases neg with
    | false => exact Eqb.rc_tupB sb.room.units0 (fun _ s' => LpI X pins σ H s') e' e2' (fun i h1 h2 s' q => turnX hE sb al la lc h r r2' i h1 h2 s' q) (fun _ s' q => ⟨by rw [sz true]; rfl, q⟩) ⟨H, I, Same.refl H⟩
    | true => exact Eqb.rc_tupBn sb.room.units0 (fun _ s' => LpI X pins σ H s') e' e2' (fun i h1 h2 s' q => turnX hE sb al la lc h r r2' i h1 h2 s' q) (fun _ s' q => ⟨by rw [sz true]; rfl, q⟩) ⟨H, I, Same.refl H⟩
theorem eq_all {L : Nat} (cl : ClEq X L P) : ∀ n, EqX X (L + n) (GQ P n) := by
  intro n
  induction n using Nat.strongRecOn with
  | ind n ih =>
    have rc := rcX_all cl false n ih
    have ex := rc.eqX (fun x y b d => ⟨d.2.1, d.2.2⟩) fun x b d => d.1.self cl.self rfl
    intro A pins s σ H av x y u v dx dy b sb I rx ry al r1 r2 d
    cases f : dx.flat with
    | true =>
      cases d with
      | flat hd he _ _ =>
        have q := eqAt_V (A := A) (s := s) rx ry (rep_flatV r1 hd) (rep_flatV r2 he)
        rw [eqV_D r1 r2 hd he] at q
        exact q X.prog X.w X.xe _ ⟨rfl, H, I, Same.refl H⟩
      | _ => cases f
    | false =>
      have f2 : dy.flat = false := by
        cases d with
        | flat hd => rw [hd] at f; cases f
        | _ => rfl
      exact ex A pins s σ H av x y u v dx dy b sb I rx ry al r1 r2 ⟨d, f, f2⟩
theorem rc_every {L : Nat} (cl : ClEq X L P) (neg : Bool) (n : Nat) : RcX neg X (L + n) (GN P n) := rcX_all cl neg n fun m _ => eq_all cl m
/-! the rule -/
@[irreducible] def dEqG (P : QP) (n : Nat) (neg : Bool) (x y : Dt) (Q : Dt → Prop) : Prop := ∃ b, GN P n x y b ∧ Q (.bl (if neg then !b else b))
def rEqX (K : PySem.W.Frag) (P : QP) (n : Nat) (neg : Bool) : R2 := fun x y H Q => ∃ (av : Addr → Prop) (dx dy : Dt) (b : Bool), Al av H ∧ Rep K av H x dx ∧ Rep K av H y dy ∧ GN P n dx dy b ∧ ∀ H', Same H H' → Q (.bl (if neg then !b else b)) H'
theorem ro_eqG {K : PySem.W.Frag} {P : QP} {n : Nat} {neg : Bool} : ROk K (rEqX K P n neg) (dEqG P n neg) := fun av H x y dx dy Q Qd al rx ry d q => by
  unfold dEqG at d
  obtain ⟨b, g, d⟩ := d
  exact ⟨av, dx, dy, b, al, rx, ry, g, fun H' e => q _ _ H' e (.bl _) d⟩
theorem op_eqX {K : PySem.W.Frag} {L : Nat} (cl : ClEq X L P) (hK : X.K = K) (hr : Room (L + n) X.A) : OpR X (compareOp .Eq) (rEqX K P n false) := by
  subst hK
  intro pins s σ H x y v u Q I rx ry hq
  obtain ⟨av, dx, dy, b, al, r1, r2, g, q⟩ := hq
  show wpAny (model X.prog X.w) X.A (richCompare .Eq v u) (EP X pins σ Q) X.xe s
  refine wpAny_mono (rc_every cl false n X.A pins s σ H av x y v u dx dy b ⟨hr, rfl⟩ I rx ry al r1 r2 g) (fun r s' z => ?_) fun _ _ x => x
  obtain ⟨hr', H', I', e⟩ := z
  subst hr'
  exact ⟨.bl _, H', I', rfl, q H' e⟩
theorem op_neX {K : PySem.W.Frag} {L : Nat} (cl : ClEq X L P) (hK : X.K = K) (hr : Room (L + n) X.A) : OpR X (compareOp .NotEq) (rEqX K P n true) := by
  subst hK
  intro pins s σ H x y v u Q I rx ry hq
  obtain ⟨av, dx, dy, b, al, r1, r2, g, q⟩ := hq
  show wpAny (model X.prog X.w) X.A (richCompare .NotEq v u) (EP X pins σ Q) X.xe s
  refine wpAny_mono (rc_every cl true n X.A pins s σ H av x y v u dx dy b ⟨hr, rfl⟩ I rx ry al r1 r2 g) (fun r s' z => ?_) fun _ _ x => x
  obtain ⟨hr', H', I', e⟩ := z
  subst hr'
  exact ⟨.bl _, H', I', rfl, q H' e⟩
end
end Dl
set_option maxHeartbeats 1000000
/-! texts: s * n; == of texts; == by instances as rules -/
namespace Dl
open PySem PySem.Spec PyProof.Rows L2 Lcn Sq
def repS (z : Str) (n : Nat) : Str := ⟨(List.replicate n z.cps).foldl (· ++ ·) #[]⟩
def rRepS : R2 := fun x y H Q => ∃ (z : Str) (n : Int), x = .str z ∧ y = .int n ∧ 1 ≤ n ∧ n ≤ 1000 ∧ z.length ≤ 1000 ∧ 1 ≤ z.length ∧ Q (.str (repS z n.toNat)) H
theorem repS_one (z : Str) : repS z 1 = z := by
  unfold repS
  simp
theorem foldl_len (z : Str) : ∀ (n : Nat) (a : Array Nat), ((List.replicate n z.cps).foldl (· ++ ·) a).size = a.size + n * z.length
  | 0, a => by simp
  | n + 1, a => by
    rw [List.replicate_succ, List.foldl_cons, foldl_len z n, Array.size_append, Nat.succ_mul]
    show a.size + z.length + n * z.length = _
    omega
theorem repS_len (z : Str) (n : Nat) : (repS z n).length = n * z.length := by
  show ((List.replicate n z.cps).foldl (· ++ ·) #[]).size = _
  rw [foldl_len]
  simp
theorem op_repS {X : Cx} : OpR X (binaryOp .Mult) rRepS := by
  intro pins s σ H x y v u Q I rx ry h
  obtain ⟨z, n, rfl, rfl, h1, h2, h3, h4, q⟩ := h
  obtain ⟨t, rfl⟩ := rx
  obtain ⟨t2, rfl⟩ := ry
  refine P.mul_str (by rw [decide_eq_false (by omega), decide_eq_false (by omega)]; rfl) (fun _ _ => ?_) (fun _ _ => ?_) ?_
  · have a1 : ((2 : Int) ^ 63 - 1) / n ≥ ((2 : Int) ^ 63 - 1) / 1000 := by
      refine Int.le_ediv_of_mul_le (by omega) ?_
      have : ((2 : Int) ^ 63 - 1) / 1000 * n ≤ ((2 : Int) ^ 63 - 1) / 1000 * 1000 := Int.mul_le_mul_of_nonneg_left h2 (by decide)
      have b1 : ((2 : Int) ^ 63 - 1) / 1000 * 1000 ≤ 2 ^ 63 - 1 := by decide
      omega
    have b2 : ((2 : Int) ^ 63 - 1) / 1000 > 1000 := by decide
    omega
  · unfold Builtin.Str.tooLong
    have : z.length * n.toNat ≤ 1000 * 1000 := Nat.mul_le_mul h3 (by omega)
    rw [sizeLine_eq]
    exact decide_eq_false (by omega)
  · rw [if_neg (by omega)]
    split
    · rename_i hc
      have hn : n = 1 := by
        rcases Bool.or_eq_true_iff.mp hc with a | a
        · exact beq_iff_eq.mp a
        · have := beq_iff_eq.mp a
          omega
      subst hn
      refine ⟨.str z, H, I, ⟨t, rfl⟩, ?_⟩
      rw [show ((1 : Int).toNat) = 1 from rfl, repS_one] at q
      exact q
    · refine ⟨?_, .str (repS z n.toNat), H, I.tok _, ⟨_, rfl⟩, q⟩
      show (repS z n.toNat).length ≤ sizeLine
      rw [repS_len, sizeLine_eq]
      have : n.toNat * z.length ≤ 1000 * 1000 := Nat.mul_le_mul (by omega) h3
      omega
section
variable {ι : Type} {K : PySem.W.Frag} {X : ι → Cx} {z o : Bool} {pos pos' p2 : Pos} {a b c e : Expr} {es : List Expr} {ea eb : EvE} {et : EvA}
/-- a text so many times -/
def dMulS (x y : Dt) (Q : Dt → Prop) : Prop := match x, y with
  | .str t, .int n => (1 ≤ n ∧ n ≤ 1000 ∧ t.length ≤ 1000 ∧ 1 ≤ t.length) ∧ Q (.str (repS t n.toNat))
  | _, _ => False
theorem ro_mulS : ROk K rRepS dMulS := fun av H x y dx dy Q Qd al rx ry d q => by
  unfold dMulS at d
  split at d
  · exact ⟨_, _, rx.str_inv, ry.int_inv, d.1.1, d.1.2.1, d.1.2.2.1, d.1.2.2.2, q _ _ H (Same.refl H) (.str _) d.2⟩
  · exact d.elim
theorem de_mulS (ha : DE z K X a ea) (hb : DE z K X b eb) : DE z K X (.BinOp a .Mult b pos) (dOp dMulS ea eb) := de_op (fun i => op_repS) ro_mulS ha hb
/-! texts told apart -/
theorem sep_str : Sep Dt.str := fun x y => by
  unfold eqD
  simp only [py, PyData.eqv]
  exact Bool.beq_eq_decide_eq x y
theorem sh_str {x : Str} (h : PyData.strOk x = true) : shD (.str x) = true := by
  unfold shD
  rw [okD, h]
  simp [py, PyData.depth]
theorem dEq_str {x y : Str} {neg : Bool} {Q : Dt → Prop} (hx : PyData.strOk x = true) (hy : PyData.strOk y = true) (b : Bool) (hb : (if neg then !decide (x = y) else decide (x = y)) = b) (q : Q (.bl b)) : dEq neg (.str x) (.str y) Q := by
  unfold dEq
  refine ⟨sh_str hx, sh_str hy, ?_⟩
  rw [sep_str x y, hb]
  exact q
theorem foldl_all (z : Str) (p : Nat → Bool) (h : z.cps.all p = true) : ∀ (n : Nat) (a : Array Nat), a.all p = true → ((List.replicate n z.cps).foldl (· ++ ·) a).all p = true
  | 0, a, ha => ha
  | n + 1, a, ha => by
    rw [List.replicate_succ, List.foldl_cons]
    refine foldl_all z p h n _ ?_
    rw [Array.all_append, ha, h]
    rfl
theorem ok_rep {z : Str} (h : PyData.strOk z = true) (n : Nat) : PyData.strOk (repS z n) = true := foldl_all z _ h n #[] (by simp)
/-! a field of the instance that is being made -/
def dFldO (K : PySem.W.Frag) (i : Nat) (f : Str) : EvE := fun δ Q => match δ[i]? with
  | some (.own _ (.i C es)) => Cls K C ∧ NoAttr K C f ∧ ∃ d, es.lookup f = some d ∧ Q d
  | _ => False
theorem de_fldO {i : Nat} {x f : Str} (p : ∀ j, PE (X j) (.Name x p2) (tVar i)) (hb : ∀ i, attributeBase (.Name x p2) f (X i).env (eval (.Name x p2) (X i).env) = eval (.Name x p2) (X i).env := by intro _; rfl) (hK : ∀ i, (X i).K = K := by intro _; rfl) : DE true K X (.Attribute (.Name x p2) f pos) (dFldO K i f) := by
  refine ⟨_, fun j => pe_fldK (hK j) (p j) (hb j), fun C σ δ H Q Qd k s e q => ?_⟩
  subst k
  unfold dFldO at e
  split at e
  · rename_i a' C' es h
    obtain ⟨h1, h2, d, h3, e⟩ := e
    obtain ⟨g1, u, hu, ho⟩ := s.ownAt h
    obtain ⟨dx, fs, rfl, l, rl⟩ := ho.ins
    obtain ⟨w, hw, rw'⟩ := lookup_rep l rl h3
    exact ⟨.ref a', g1, a', C', dx, fs, w, rfl, hu, h1, h2, hw, q w d H (Stp.refl H) rw' e⟩
  · exact e.elim
/-! == with instances within -/
/-- instances, or what is told by value -/
@[irreducible] def dEqH (P : QP) (n : Nat) (neg : Bool) (x y : Dt) (Q : Dt → Prop) : Prop := dEqG P n neg x y Q ∨ dEq neg x y Q
theorem ro_eqH {P : QP} {n : Nat} : ROk K (fun x y H Q => rEqX K P n false x y H Q ∨ rEqD K x y H Q) (dEqH P n false) := (ro_eqG.or ro_eq).imp fun x y Q d => by
  unfold dEqH at d
  exact d
theorem ro_neH {P : QP} {n : Nat} : ROk K (fun x y H Q => rEqX K P n true x y H Q ∨ rNeD K x y H Q) (dEqH P n true) := (ro_eqG.or ro_ne).imp fun x y Q d => by
  unfold dEqH at d
  exact d
theorem cd_eqH {P : QP} {L n : Nat} (cl : ∀ i, ClEq (X i) L P) (hr : ∀ i, Room (L + n) (X i).A) (hK : ∀ i, (X i).K = K := by intro _; rfl) : CmpD K X .Eq (dEqH P n false) := ⟨_, fun i => (op_eqX (cl i) (hK i) (hr i)).or (op_eqK (hK i) (ru64 (hr i))), ro_eqH⟩
theorem cd_neH {P : QP} {L n : Nat} (cl : ∀ i, ClEq (X i) L P) (hr : ∀ i, Room (L + n) (X i).A) (hK : ∀ i, (X i).K = K := by intro _; rfl) : CmpD K X .NotEq (dEqH P n true) := ⟨_, fun i => (op_neX (cl i) (hK i) (hr i)).or (op_neK (hK i) (ru64 (hr i))), ro_neH⟩
end
theorem dEqH_of {P : QP} {n : Nat} {neg : Bool} {x y : Dt} {b : Bool} {Q : Dt → Prop} (g : GQ P n x y b) (q : Q (.bl (if neg then !b else b))) : dEqH P n neg x y Q := by
  unfold dEqH
  cases f : x.flat with
  | true =>
    cases g with
    | flat hd he sd se =>
      refine .inr ?_
      unfold dEq
      exact ⟨sd, se, q⟩
    | _ => cases f
  | false =>
    refine .inl ?_
    unfold dEqG
    refine ⟨b, ⟨g, f, ?_⟩, q⟩
    cases g with
    | flat hd => rw [hd] at f; cases f
    | _ => rfl
end Dl
set_option maxHeartbeats 1000000
/-! not of any thing; a try that runs through; constants of the module; defs that are never called -/
namespace Dl
open PySem PySem.Spec PyProof.Rows L2 Lcn Sq
def strSz : Dt → Prop
  | .str y => y.length ≤ sizeLine
  | _ => True
theorem tru_rep {K : PySem.W.Frag} {av : Addr → Prop} {H : Hp} {x : V} {dx : Dt} {b : Bool} (r1 : Rep K av H x dx) (g : strSz dx) (tb : truD dx = some b) : TruV K x H b := by
  cases r1 with
  | non => exact (Option.some.inj tb).symm
  | bl b => exact (Option.some.inj tb).symm
  | int i => exact (Option.some.inj tb).symm
  | str y => exact ⟨g, (Option.some.inj tb).symm⟩
  | lst h l f => exact .inl ⟨_, h.sq, (Option.some.inj tb).symm.trans (repl_empty (K := K) ⟨l, f⟩)⟩
  | tup h l f => exact .inr (.inl ⟨_, h.sq, (Option.some.inj tb).symm.trans (repl_empty (K := K) ⟨l, f⟩)⟩)
  | ins => cases tb
  | dk => cases tb
  | dt => cases tb
section
variable {ι : Type} {K : PySem.W.Frag} {X : ι → Cx} {z o : Bool} {pos pos' p2 : Pos} {a b c e : Expr} {es : List Expr} {ea eb : EvE} {et : EvA} {body : List Stmt} {sv : EvS}
def dNotA (ea : EvE) : EvE := fun δ Q => dTru ea δ fun b => Q (.bl (!b))
theorem de_notT (ha : DE false K X a ea) (hK : ∀ i, (X i).K = K := by intro _; rfl) : DE z K X (.UnaryOp .Not a pos) (dNotA ea) := by
  obtain ⟨t, p, v⟩ := ha
  refine ⟨tNotT K t, fun i => hK i ▸ pe_notT (p i), fun C σ δ H Q Qd k s e q => ?_⟩
  subst k
  refine v C σ δ H _ _ rfl s e fun x dx H1 e1 r1 e => ?_
  obtain ⟨g, b, tb, e⟩ := e
  refine ⟨b, tru_rep r1 ?_ tb, q _ _ H1 e1 (.bl _) e⟩
  cases dx <;> first | exact g | trivial
/-- a try whose body raises nothing -/
theorem ds_tryThru {h0 : ExceptHandler} {hs : List ExceptHandler} (h : DSs K (fun i => (X i).nox) body sv) : DS K X (.Try body (h0 :: hs) [] [] pos) sv := by
  obtain ⟨t, p, v⟩ := h
  exact ⟨t, fun i => ps_try_thru0 (p i), v⟩
end
theorem pe_gint {X : Cx} {x : Str} {p : Pos} {i : Int} (hg : Gl X x) (h : ∃ t, X.mg x = some (.int i t)) (hd : (x == ("__debug__" : Str)) = false := by decide) : PE X (.Name x p) (tC (.int i)) := by
  obtain ⟨t, h⟩ := h
  exact pe_glob (v := .int i) hg h ⟨t, rfl⟩ hd
theorem pe_gstr {X : Cx} {x : Str} {p : Pos} {i : Str} (hg : Gl X x) (h : ∃ t, X.mg x = some (.str i t)) (hd : (x == ("__debug__" : Str)) = false := by decide) : PE X (.Name x p) (tC (.str i)) := by
  obtain ⟨t, h⟩ := h
  exact pe_glob (v := .str i) hg h ⟨t, rfl⟩ hd
def sp_no : Spc := fun _ _ => False
section
variable {P : Program} {w : World} {K : PySem.W.Frag} {mg : Str → Option Value} {base : Heap}
theorem fn_no {x qual : Str} {params : Arguments} {body : List Stmt} {scope : Scope} {dvs : List V} {kws : List (Str × V)} {f : Addr} {fd : FuncData} {N ps : List Str} {k n : Nat} (F : FunD K x qual params body scope dvs kws f fd) (S : FnScope N ps scope) : FnOk P w K mg base CX0 (k + 1) f fd ps (dsp K n sp_no) :=
  F.ok S (fun vs H Q E h => by
    obtain ⟨_, _, _, _, _, _, _, _, _, h, _⟩ := h
    exact h.elim) fun cdv A outer s H vs Q E hr h => by
    obtain ⟨_, _, _, _, _, _, _, _, _, h, _⟩ := h
    exact h.elim
end
end Dl
set_option maxHeartbeats 1000000
/-! exceptions over data -/
namespace Dl
open PySem PySem.Spec PyProof.Rows L2 Lcn Sq
/-- an exception: its class, its attributes -/
structure XD where
  C : Addr
  fs : List (Str × Dt)
structure RepX (K : PySem.W.Frag) (av : Addr → Prop) (H : Hp) (cls : Value) (d : Option Addr) (x : XD) : Prop where
  c : cls = .ref x.C
  f : (d = none ∧ x.fs = []) ∨ ∃ (dx : Addr) (vs : List (Str × V)), d = some dx ∧ ¬ av dx ∧ H dx = some (.xd vs) ∧ vs.map Prod.fst = x.fs.map Prod.fst ∧ RepL K av H (vs.map Prod.snd) (x.fs.map Prod.snd)
theorem RepX.move {K : PySem.W.Frag} {av av' : Addr → Prop} {H H' : Hp} {cls : Value} {d : Option Addr} {x : XD} (r : RepX K av H cls d x) (k : ∀ b o, ¬ av b → H b = some o → H' b = some o) (m : ∀ b, av' b → av b ∨ H b = none) : RepX K av' H' cls d x := by
  refine ⟨r.c, r.f.imp id fun ⟨dx, vs, h1, h2, h3, h4, h5⟩ => ⟨dx, vs, h1, fun z => ?_, k _ _ h2 h3, h4, h5.move k m⟩⟩
  rcases m _ z with z | z
  · exact h2 z
  · rw [h3] at z
    cases z
theorem RepX.step0 {C : Ctx} {H H' : Hp} {σ : L2.St} {δ : List Sl} (s : Sok C H σ δ) (e : Stp C.S H H') {cls : Value} {d : Option Addr} {x : XD} (r : RepX C.K C.av H cls d x) : RepX C.K C.av H' cls d x := r.move (fun b o n h => e.keep b o (fun c => n (s.avs b (ch_sa c))) h) fun _ z => .inl z
section
variable {X : Cx} {e : Expr} {es : List Expr} {st : Stmt} {t : TE} {ta : TA} {ts : TS}
theorem pa_nox (h : PA X.nox es ta) : PA X es ta := ⟨fun pos pins s σ H Q I hw =>
  wpAny_mono (h.run pos pins s σ H Q (I.wish _) hw) (fun _ _ ⟨v, H', I', r, q⟩ => ⟨v, H', I'.unwish, r, q⟩) fun _ _ z => False.elim z⟩
theorem ps_nox (h : PS X.nox st ts) : PS X st ts := ⟨fun pins s σ H D I hw =>
  wpAny_mono (h.run pins s σ H D (I.wish _) hw) (fun _ _ q => q.unwish) fun _ _ z => False.elim z⟩
end
/-! ### expressions that may raise -/
abbrev EvX := List Sl → (Dt → Prop) → (XD → Prop) → Prop
def VEX (z : Bool) (K : PySem.W.Frag) (te : WX → TE) (ev : EvX) : Prop := ∀ (C : Ctx) (σ : L2.St) (δ : List Sl) (H : Hp) (Q : VK) (Qd : Dt → Prop) (Xd : XD → Prop) (W : WX), C.K = K → Sok C H σ δ → ev δ Qd Xd → (∀ v d H', Stp C.S H H' → Rep K (Zz z C δ) H' v d → Qd d → Q v H') → (∀ cls d H' x, Stp C.S H H' → RepX K C.av H' cls d x → Xd x → W cls d σ H') → te W σ H Q
def DEX {ι : Type} (z : Bool) (K : PySem.W.Frag) (X : ι → Cx) (e : Expr) (ev : EvX) : Prop := ∃ te : WX → TE, (∀ i W, Takes (X i) W → PE (X i) e (te W)) ∧ VEX z K te ev
abbrev EvAX := List Sl → (List Dt → Prop) → (XD → Prop) → Prop
def VAX (z : Bool) (K : PySem.W.Frag) (te : WX → TA) (ev : EvAX) : Prop := ∀ (C : Ctx) (σ : L2.St) (δ : List Sl) (H : Hp) (Q : List V → Hp → Prop) (Qd : List Dt → Prop) (Xd : XD → Prop) (W : WX), C.K = K → Sok C H σ δ → ev δ Qd Xd → (∀ vs ds H', Stp C.S H H' → RepL K (Zz z C δ) H' vs ds → Qd ds → Q vs H') → (∀ cls d H' x, Stp C.S H H' → RepX K C.av H' cls d x → Xd x → W cls d σ H') → te W σ H Q
def DAX {ι : Type} (z : Bool) (K : PySem.W.Frag) (X : ι → Cx) (es : List Expr) (ev : EvAX) : Prop := ∃ te : WX → TA, (∀ i W, Takes (X i) W → PA (X i) es (te W)) ∧ VAX z K te ev
/-- a promise with exceptions -/
abbrev SpcX := List Sl → (Dt → Prop) → (XD → Prop) → Prop
def dspX (K : PySem.W.Frag) (n : Nat) (sp : SpcX) : Sp := fun vs H Q E => ∃ (S : Sc) (av : Addr → Prop) (δ : List Sl) (Qd : Dt → Prop) (Xd : XD → Prop), (∀ b, sa S b → av b) ∧ Al av H ∧ Gs S H ∧ ArgsOk S K av H vs δ ∧ δ.length = n ∧ sp δ Qd Xd ∧ (∀ v d H', Stp S H H' → Rep K av H' v d → Qd d → Q v H') ∧ ∀ cls d H' x, Stp S H H' → RepX K av H' cls d x → Xd x → E cls d H'
section
variable {ι : Type} {K : PySem.W.Frag} {X : ι → Cx} {z : Bool} {pos p2 : Pos} {a b c e : Expr} {es : List Expr} {ev : EvE} {ex : EvX} {et : EvLs} {ea : EvA} {ax : EvAX}
theorem dex_of (h : DE z K (fun i => (X i).nox) e ev) : DEX z K X e (fun δ Q _ => ev δ Q) := by
  obtain ⟨t, p, v⟩ := h
  exact ⟨fun _ => t, fun i W _ => (p i).nox, fun C σ δ H Q Qd Xd W k s e q _ => v C σ δ H Q Qd k s e q⟩
theorem dax_of (h : DA z K (fun i => (X i).nox) es ea) : DAX z K X es (fun δ Q _ => ea δ Q) := by
  obtain ⟨t, p, v⟩ := h
  exact ⟨fun _ => t, fun i W _ => pa_nox (p i), fun C σ δ H Q Qd Xd W k s e q _ => v C σ δ H Q Qd k s e q⟩
theorem dax_cons (h1 : DEX z K X e ex) (h2 : DAX z K X es ax) (hs : ∀ i, starEach (e :: es) (X i).env = (false, eval e (X i).env) :: starEach es (X i).env := by intro _; rfl) : DAX z K X (e :: es) (fun δ Q Xd => ex δ (fun d => ax δ (fun ds => Q (d :: ds)) Xd) Xd) := by
  obtain ⟨t, p, v⟩ := h1
  obtain ⟨t2, p2, v2⟩ := h2
  refine ⟨_, fun i W tk => pa_cons (p i W tk) (p2 i W tk) (hs i), fun C σ δ H Q Qd Xd W k s e q x => ?_⟩
  subst k
  refine v C σ δ H _ _ Xd W rfl s e (fun y d H1 e1 r1 e => ?_) x
  exact v2 C σ δ H1 _ _ Xd W rfl (s.step e1) e (fun vs ds H2 e2 r2 e => q _ _ H2 (e1.trans e2) (RepL.cons (rep_st (s.step e1) e2 r1) r2) e) fun cls d H2 y e2 r qx => x cls d H2 y (e1.trans e2) r qx
theorem dex_tup {k : Nat} (h : DAX z K X es ax) : DEX z K X (.Tuple es k pos) (fun δ Q Xd => ax δ (fun ds => ds.length ≤ sizeLine ∧ Q (.tup ds)) Xd) := by
  obtain ⟨t, p, v⟩ := h
  refine ⟨_, fun i W tk => pe_tup (p i W tk), fun C σ δ H Q Qd Xd W k s e q x => ?_⟩
  subst k
  exact v C σ δ H _ _ Xd W rfl s e (fun xs ds H1 e1 r1 e => ⟨by rw [r1.l]; exact e.1, fun p hp => q _ _ _ (e1.trans (Stp.new hp)) (rep_newT (s.step e1).al hp r1) e.2⟩) x
/-- a def that may raise, called -/
theorem dex_call {x : Str} {p : Pos} {n : Nat} {sp : SpcX} (hp : ∀ {t : TA} i W, Takes (X i) W → PA (X i) (e :: es) t → PE (X i) (.Call (.Name x p) (e :: es) [] pos) (tCallS (dspX K n sp) (WE W) t)) (ha : DLs z K (fun i => (X i).nox) (e :: es) et) : DEX z K X (.Call (.Name x p) (e :: es) [] pos) (fun δ Q Xd => et δ fun ss => ss.length = n ∧ sp ss Q Xd) := by
  obtain ⟨t, pa, v⟩ := ha
  refine ⟨fun W => tCallS (dspX K n sp) (WE W) t, fun i W tk => hp i W tk (pa_nox (pa i)), fun C σ δ H Q Qd Xd W k s e q x => ?_⟩
  subst k
  refine v C σ δ H _ _ rfl s e fun vs ss H1 e1 r e => ?_
  have s1 := s.step e1
  refine ⟨C.S, Zz z C δ, ss, Qd, Xd, fun b hb => ?_, s1.al, s1.g, r, e.1, e.2, fun v d H2 e2 r2 qd => q v d H2 (e1.trans e2) r2 qd, fun cls d H2 y e2 r2 qx => x cls d H2 y (e1.trans e2) (r2.move (fun _ _ _ h => h) fun b zb => ?_) qx⟩
  · cases z
    · exact s.avs b hb
    · exact .inl (s.avs b hb)
  · cases z
    · exact .inl zb
    · exact .inl (.inl zb)
end
/-! ### statements that may raise -/
structure XEnds extends DEnds where
  xc : XD → List Sl → Prop := fun _ _ => False
abbrev EvXS := XEnds → List Sl → Prop
def XL (C : Ctx) (W : WX) (xc : XD → List Sl → Prop) : Prop := ∀ cls d σ δ H x, Sok C H σ δ → RepX C.K C.av H cls d x → xc x δ → W cls d σ H
def VXS (K : PySem.W.Frag) (ts : WX → TS) (sv : EvXS) : Prop := ∀ (C : Ctx) (σ : L2.St) (δ : List Sl) (H : Hp) (D : Ends) (Dd : XEnds) (W : WX), C.K = K → Sok C H σ δ → sv Dd δ → EndsR C D Dd.toDEnds → XL C W Dd.xc → ts W D σ H
def DX {ι : Type} (K : PySem.W.Frag) (X : ι → Cx) (st : Stmt) (sv : EvXS) : Prop := ∃ ts : WX → TS, (∀ i W, Takes (X i) W → PS (X i) st (ts W)) ∧ VXS K ts sv
def DXs {ι : Type} (K : PySem.W.Frag) (X : ι → Cx) (st : List Stmt) (sv : EvXS) : Prop := ∃ ts : WX → TS, (∀ i W, Takes (X i) W → PSs (X i) st (ts W)) ∧ VXS K ts sv
def dxSeq (sv sw : EvXS) : EvXS := fun D δ => sv { D with nx := sw D } δ
def dxIf (tv : EvT) (sv sw : EvXS) : EvXS := fun D δ => tv δ fun b => if b = true then sv D δ else sw D δ
section
variable {ι : Type} {K : PySem.W.Frag} {X : ι → Cx} {z o : Bool} {pos p2 pos' : Pos} {a b c e tg iter : Expr} {es : List Expr} {ev : EvE} {ex : EvX} {tv : EvT} {iv : EvA} {gv : Dt → List Sl → (List Sl → Prop) → Prop} {st : Stmt} {rest body els : List Stmt} {sv sw : EvXS} {su : EvS}
theorem dx_of (h : DS K (fun i => (X i).nox) st su) : DX K X st (fun D δ => su D.toDEnds δ) := by
  obtain ⟨t, p, v⟩ := h
  exact ⟨fun _ => t, fun i W _ => ps_nox (p i), fun C σ δ H D Dd W k s e q _ => v C σ δ H D _ k s e q⟩
theorem dxs_of (h : DSs K (fun i => (X i).nox) body su) : DXs K X body (fun D δ => su D.toDEnds δ) := by
  obtain ⟨t, p, v⟩ := h
  exact ⟨fun _ => t, fun i W _ => (p i).nox, fun C σ δ H D Dd W k s e q _ => v C σ δ H D _ k s e q⟩
theorem dxs_nil : DXs K X [] (fun D δ => D.nx δ) := ⟨fun _ => _, fun i W _ => pss_nil, fun C σ δ H D Dd W k s e q _ => q.nx σ δ H s e⟩
theorem dxs_cons (h1 : DX K X st sv) (h2 : DXs K X rest sw) : DXs K X (st :: rest) (dxSeq sv sw) := by
  obtain ⟨t, p, v⟩ := h1
  obtain ⟨t2, p2, v2⟩ := h2
  refine ⟨fun W => _, fun i W tk => pss_cons (p i W tk) (p2 i W tk), fun C σ δ H D Dd W k s e q x => ?_⟩
  exact v C σ δ H _ { Dd with nx := sw Dd } W k s e ⟨fun σ δ H s e => v2 C σ δ H D Dd W k s e q x, q.rt, q.bk, q.ct⟩ x
theorem dxs_one (h1 : DX K X st sv) : DXs K X [st] sv := by
  obtain ⟨t, p, v⟩ := h1
  exact ⟨fun W => _, fun i W tk => pss_one (p i W tk), v⟩
theorem dx_if (hc : DT K (fun i => (X i).nox) c tv) (h1 : DXs K X body sv) (h2 : DXs K X els sw) : DX K X (.If c body els pos) (dxIf tv sv sw) := by
  obtain ⟨t, p, v⟩ := hc
  obtain ⟨t1, p1, v1⟩ := h1
  obtain ⟨t2, p2, v2⟩ := h2
  refine ⟨fun W => _, fun i W tk => ps_if (p i).nox (p1 i W tk) (p2 i W tk), fun C σ δ H D Dd W k s e q x => ?_⟩
  refine v C σ δ H _ _ k s e fun b H1 e1 e => ?_
  cases b
  · exact v2 C σ δ H1 D Dd W k (s.step e1) e q x
  · exact v1 C σ δ H1 D Dd W k (s.step e1) e q x
theorem dx_ret (h : DEX false K X e ex) : DX K X (.Return (some e) pos) (fun D δ => ex δ D.rt fun x => D.xc x δ) := by
  obtain ⟨t, p, v⟩ := h
  refine ⟨fun W => _, fun i W tk => ps_ret (p i W tk), fun C σ δ H D Dd W k s e q x => ?_⟩
  subst k
  exact v C σ δ H _ _ (fun y => Dd.xc y δ) W rfl s e (fun y d H1 e1 r e => q.rt y d H1 (s.st.trans e1) r (fun g m => ((s.step e1).gh g m).mono fun b z => .inl z) e) fun cls d H1 y e1 r qx => x cls d σ δ H1 y (s.step e1) r qx
theorem dx_set {i : Nat} {x : Str} (hp : ∀ {te : TE} j, PE (X j) e te → PS (X j) (.Assign [.Name x pos'] e pos) (tAsg te (gName i))) (h : DEX true K X e ex) : DX K X (.Assign [.Name x pos'] e pos) (fun D δ => ex δ (fun d => D.nx (δ.set i (.val d))) fun x => D.xc x δ) := by
  obtain ⟨t, p, v⟩ := h
  refine ⟨fun W => _, fun i W tk => hp i (p i W tk), fun C σ δ H D Dd W k s e q x => ?_⟩
  subst k
  exact v C σ δ H _ _ (fun y => Dd.xc y δ) W rfl s e (fun y d H1 e1 r e => q.nx _ _ H1 ((s.step e1).setV r) e) fun cls d H1 y e1 r qx => x cls d σ δ H1 y (s.step e1) r qx
theorem dx_expr (h : DEX false K X e ex) (hs : ∀ i, swapsWith e none pos.line (X i).env = pure false := by intro _; rfl) : DX K X (.Expr e pos) (fun D δ => ex δ (fun _ => D.nx δ) fun x => D.xc x δ) := by
  obtain ⟨t, p, v⟩ := h
  refine ⟨fun W => _, fun i W tk => ps_expr (p i W tk) (hs i), fun C σ δ H D Dd W k s e q x => ?_⟩
  subst k
  exact v C σ δ H _ _ (fun y => Dd.xc y δ) W rfl s e (fun y d H1 e1 r e => q.nx _ _ H1 (s.step e1) e) fun cls d H1 y e1 r qx => x cls d σ δ H1 y (s.step e1) r qx
end
section
variable {P : Program} {w : World} {K : PySem.W.Frag} {mg : Str → Option Value} {base : Heap}
/-- a def that may raise -/
theorem fn_x {x qual : Str} {params : Arguments} {body : List Stmt} {scope : Scope} {dvs : List V} {kws : List (Str × V)} {f : Addr} {fd : FuncData} {N ps : List Str} {k : Nat} {sp : SpcX} {sv : EvXS} (F : FunD K x qual params body scope dvs kws f fd) (S : FnScope N ps scope)
    (hbody : ∀ (cdv : Value) (A : Around) (outer : List Env) (s : Shared) (H : Hp) (E : XK), Room k (A.deeper (PyProof.Rows.envOfC qual scope s.heap.objs.size f cdv)) → DXs K (fun _ : Unit => cxOf (L2.CX P w) P w K mg base N qual scope f cdv A outer s H E) body sv)
    (hsp : ∀ (δ : List Sl) (Qd : Dt → Prop) (Xd : XD → Prop), δ.length = ps.length → sp δ Qd Xd → sv { nx := fun _ => Qd .non, rt := Qd, xc := fun x _ => Xd x } (st0 N δ)) : FnOk P w K mg base (L2.CX P w) (k + 1) f fd ps (dspX K ps.length sp) := by
  refine F.ok S (fun vs H Q E h => ?_) fun cdv A outer s H vs Q E hr h => ?_
  · obtain ⟨S, av, δ, Qd, Xd, _, _, _, a, l, _⟩ := h
    rw [a.l, l]
  · obtain ⟨S, av, δ, Qd, Xd, h1, h2, h3, a, l, hs, q, x⟩ := h
    obtain ⟨ts, p, v⟩ := hbody cdv A outer s H E hr
    refine ⟨ts (fun cls d _ H' => E cls d H'), p () _ (takes_of rfl rfl rfl rfl), v ⟨K, S, av, H, []⟩ _ _ H _ { nx := fun _ => Qd .non, rt := Qd, xc := fun x _ => Xd x } _ rfl (sok_start h1 h2 h3 a) (hsp δ Qd Xd l hs) ⟨fun σ δ H' s e => q .non .non H' s.st .non e, fun x d H' e r _ qd => q x d H' e r qd, fun _ _ _ _ e => e.elim, fun _ _ _ _ e => e.elim⟩ fun cls d σ δ H' y s r qx => x cls d H' y s.st r qx⟩
end
end Dl
set_option maxHeartbeats 1000000
/-! exceptions over data: loops, raise, try -/
namespace Dl
open PySem PySem.Spec PyProof.Rows L2 Lcn Sq
section
variable {X : Cx} {tg iter : Expr} {g : TG} {wi : TI}
theorem pg_nox (h : PG X.nox tg g) : PG X tg g := ⟨fun pins s σ H v u Q I r hw =>
  wpAny_mono (h.run pins s σ H v u Q (I.wish _) r hw) (fun _ _ ⟨σ', H', I', q⟩ => ⟨σ', H', I'.unwish, q⟩) fun _ _ z => False.elim z⟩
theorem pi_nox (h : PI X.nox tg iter wi) : PI X tg iter wi := ⟨fun pins s σ H R I hw =>
  wpAny_mono (h.run pins s σ H R (I.wish _) hw) (fun v s1 q => wpAny_mono q (fun itv s2 ⟨it, fp, tn, J, H', e, I', T, t0, f, r⟩ => ⟨it, fp, tn, J, H', e, I'.unwish, T, t0, f, r⟩) fun _ _ z => False.elim z) fun _ _ z => False.elim z⟩
end
def dxForL (gv : Dt → List Sl → (List Sl → Prop) → Prop) (bv : EvXS) (D : XEnds) : List Dt → List Sl → Prop
  | [], δ => D.nx δ
  | d :: r, δ => gv d δ fun δ2 => bv { nx := dxForL gv bv D r, rt := D.rt, bk := D.nx, ct := dxForL gv bv D r, xc := D.xc } δ2
def dxFor (iv : EvA) (gv : Dt → List Sl → (List Sl → Prop) → Prop) (bv : EvXS) : EvXS := fun D δ => iv δ fun ds => dxForL gv bv D ds δ
def dxWhile (tv : EvT) (bv : EvXS) : EvXS := fun D δ => ∃ W : Nat → List Sl → Prop, (∃ m, W m δ) ∧ ∀ m δ, W m δ → tv δ fun b => if b = true then bv { nx := fun δ' => ∃ m', m' < m ∧ W m' δ', rt := D.rt, bk := D.nx, ct := fun δ' => ∃ m', m' < m ∧ W m' δ', xc := D.xc } δ else D.nx δ
section
variable {ι : Type} {K : PySem.W.Frag} {X : ι → Cx} {z o : Bool} {pos p2 pos' : Pos} {a b c e tg iter : Expr} {es : List Expr} {ev : EvE} {ea : EvA} {ex : EvX} {tv : EvT} {iv : EvA} {gv : Dt → List Sl → (List Sl → Prop) → Prop} {st : Stmt} {rest body els : List Stmt} {sv sw : EvXS} {su : EvS}
theorem XL.gh {C : Ctx} {W : WX} {xc : XD → List Sl → Prop} (x : XL C W xc) (gs : List (V × Dt)) : XL { C with gh := gs ++ C.gh } W xc := fun cls d σ δ H y s r q => x cls d σ δ H y s.unghost.1 r q
theorem dx_for {is : List Nat} (hc : ∀ i, (X i).calm = true) (hi : DI false K (fun i => (X i).nox) tg iter iv) (hg : DG K (fun i => (X i).nox) tg gv is) (hb : DXs K X body sv) (hpo : ∀ i, PassesOwn (model (X i).prog (X i).w) (X i).A (X i).env (X i).xe) (hs : ∀ i, ∀ x, foldedSetIterable iter (X i).env x = pure x := by intro _ _; rfl) : DX K X (.For tg iter body [] pos) (dxFor iv gv sv) := by
  obtain ⟨wi, pi, vi⟩ := hi
  obtain ⟨g, pg, vg⟩ := hg
  obtain ⟨tb, pb, vb⟩ := hb
  refine ⟨fun W => _, fun i W tk => ps_for (hpo i) (hc i) (pi_nox (pi i)) (pg_nox (pg i)) (pb i W tk) (hs i), fun C σ δ H D Dd W k s e q xl => ?_⟩
  subst k
  refine vi C σ δ H _ _ rfl s e fun J n G Y ds H1 base gs w hn e1 hb0 hbk hgs it e => ?_
  have hb1 := hb0 rfl
  have s1 : Sok { C with gh := gs ++ C.gh } H1 σ δ := (s.step e1).ghost hgs
  refine for_it w (fun i σ H => ∃ δ, Sok { C with gh := gs ++ C.gh } H σ δ ∧ dxForL gv sv Dd (ds.drop i) δ) ⟨δ, s1, by rw [List.drop_zero]; exact e⟩ (fun i σ H _ ⟨δ, s, _⟩ => it.g _ H s.alz (hb1 H s.st) s.unghost.2) (fun i x σ2 H2 H3 hi ⟨δ2, s2, e⟩ y => ?_) (fun σ2 H2 ⟨δ2, s2, e⟩ => ?_)
  · have hid : i < ds.length := by omega
    rw [List.drop_eq_getElem_cons hid] at e
    obtain ⟨sm, rx⟩ := it.y i ds[i] _ H2 x H3 (List.getElem?_eq_getElem hid) s2.alz (hb1 H2 s2.st) s2.unghost.2 y
    have s3 := s2.step (Stp.of sm)
    refine vg { C with gh := gs ++ C.gh } σ2 δ2 H3 x ds[i] _ _ rfl s3 rx e fun σ4 δ4 s4 _ _ _ e => ?_
    exact vb { C with gh := gs ++ C.gh } σ4 δ4 H3 _ _ W rfl s4 e ⟨fun σ δ H s e => ⟨δ, s, e⟩, fun v d H e r gh => q.rt v d H e r fun g m => gh g (List.mem_append_right _ m), fun σ δ H s e => q.nx σ δ H s.unghost.1 e, fun σ δ H s e => ⟨δ, s, e⟩⟩ (xl.gh gs)
  · rw [List.drop_eq_nil_of_le (by omega)] at e
    exact q.nx σ2 δ2 H2 s2.unghost.1 e
theorem dx_while (hc : DT K (fun i => (X i).nox) c tv) (hb : DXs K X body sv) (hpo : ∀ i, PassesOwn (model (X i).prog (X i).w) (X i).A (X i).env (X i).xe) : DX K X (.While c body [] pos) (dxWhile tv sv) := by
  obtain ⟨t, p, v⟩ := hc
  obtain ⟨tb, pb, vb⟩ := hb
  refine ⟨fun W => _, fun i W tk => ps_while (hpo i) (p i).nox (pb i W tk), fun C σ δ H D Dd W' k s e q xl => ?_⟩
  obtain ⟨W, ⟨m0, w0⟩, e⟩ := e
  refine ⟨fun m σ H => ∃ δ, Sok C H σ δ ∧ W m δ, ⟨m0, δ, s, w0⟩, ?_⟩
  rintro m σ H ⟨δ, s, w⟩
  refine v C σ δ H _ _ k s (e m δ w) fun b H1 e1 e => ?_
  cases b
  · exact q.nx σ δ H1 (s.step e1) e
  · refine ⟨fun σ' H' => ∃ m', m' < m ∧ ∃ δ', Sok C H' σ' δ' ∧ W m' δ', fun σ' H' ⟨m', hm, δ', s', w'⟩ => ⟨m', hm, δ', s', w'⟩, ?_⟩
    exact vb C σ δ H1 _ _ W' k (s.step e1) e ⟨fun σ δ H s ⟨m', hm, w'⟩ => ⟨m', hm, δ, s, w'⟩, q.rt, q.nx, fun σ δ H s ⟨m', hm, w'⟩ => ⟨m', hm, δ, s, w'⟩⟩ xl
/-! ### raise -/
/-- raise C(), raise C("..") of a class without own __init__ -/
theorem dx_raise0 {C : Addr} (hc : ∀ i, (X i).calm = true) (hp : ∀ i, PMk (X i) e (fun _ H Q => Q (.ref C) none H)) : DX K X (.Raise (some e) none pos) (fun D δ => D.xc ⟨C, []⟩ δ) :=
  ⟨fun W => _, fun i W tk => ps_raise (hc i) tk (hp i), fun C' σ δ H D Dd W k s e q x => x _ _ σ δ H _ s ⟨rfl, .inl ⟨rfl, rfl⟩⟩ e⟩
/-- what an own __init__ of an exception keeps -/
def spXI (C : Addr) (ns : List Str) : Sp := fun vs H Q _ => ∃ (a : Addr) (ys : List V), vs = .ref a :: ys ∧ ys.length = ns.length ∧ H a = some (exo a C none) ∧
  ∀ (H' : Hp) (dx : Addr), H dx = none → dx ≠ a → H' a = some (exo a C (some dx)) → H' dx = some (exd dx (ns.zip ys).reverse) → (∀ b o, b ≠ a → H b = some o → H' b = some o) → Q .non H'
theorem dx_raiseF {C : Addr} {ns : List Str} (hc : ∀ i, (X i).calm = true) (hn : ns.length ≤ 1000) (hp : ∀ {ta : TA} i, PA (X i) es ta → PMk (X i) e (tMkO C (spXI C ns) [] ta)) (ha : DA false K (fun i => (X i).nox) es ea) : DX K X (.Raise (some e) none pos) (fun D δ => ea δ fun ds => ds.length = ns.length ∧ D.xc ⟨C, (ns.zip ds).reverse⟩ δ) := by
  obtain ⟨t, p, v⟩ := ha
  refine ⟨fun W => _, fun i W tk => ps_raise (hc i) tk (hp i (pa_nox (p i))), fun C' σ δ H D Dd W k s e q x => ?_⟩
  subst k
  refine v C' σ δ H _ _ rfl s e fun vs ds H1 e1 r1 e => ?_
  obtain ⟨hl, e⟩ := e
  have lv : vs.length = ns.length := r1.l.trans hl
  refine ⟨by omega, fun a na => ?_⟩
  refine ⟨a, vs, by rw [List.append_nil], lv, upd_same, fun H2 dx hdx ne h1 h2 hk => ⟨rfl, dx, _, h1, h2, ?_, ?_⟩⟩
  · rwa [upd_ne ne] at hdx
  have hdx1 : H1 dx = none := by rwa [upd_ne ne] at hdx
  have sm : Same H1 (upd (del H2 a) dx (.xd (ns.zip vs).reverse)) := fun b o hb => by
    have nb : b ≠ a := ne_of_none hb na
    have nd : b ≠ dx := ne_of_none hb hdx1
    rw [upd_ne nd, del_ne nb]
    exact hk b o nb (by rw [upd_ne nb]; exact hb)
  have s1 := s.step e1
  have s2 := s1.step (Stp.of sm)
  refine x _ _ σ δ _ _ s2 ⟨rfl, .inr ⟨dx, _, rfl, fun av => ?_, upd_same, ?_, ?_⟩⟩ e
  · obtain ⟨o, ho, _⟩ := s1.ava dx av
    rw [hdx1] at ho
    cases ho
  · rw [List.map_reverse, List.map_reverse, List.map_fst_zip (by omega), List.map_fst_zip (by omega)]
  · rw [List.map_reverse, List.map_reverse, List.map_snd_zip (by omega), List.map_snd_zip (by omega)]
    have r2 := r1.same sm
    refine ⟨by rw [List.length_reverse, List.length_reverse]; exact r2.l, fun i v' d h1 h2 => ?_⟩
    have l1 := (List.getElem?_eq_some_iff.mp h1).1
    have l2 := (List.getElem?_eq_some_iff.mp h2).1
    rw [List.length_reverse] at l1 l2
    rw [List.getElem?_reverse l1] at h1
    rw [List.getElem?_reverse l2] at h2
    have := r2.l
    rw [this] at h1
    exact r2.f _ _ _ h1 h2
end
end Dl
set_option maxHeartbeats 1000000
/-! exceptions over data: try -/
namespace Dl
open PySem PySem.Spec PyProof.Rows L2 Lcn Sq
/-! ### what a suite reads of its exception -/
section
variable {X : Cx} {a : Addr} {oe : Obj} {cls : Value} {d : Option Addr} {pn : List (Addr × Obj)}
def rIsS (K : PySem.W.Frag) (cls : Value) (a : Addr) (d : Option Addr) : List V → Hp → VK → Prop := fun xs H Q => ∃ (C : Addr) (c : V) (u : Value) (b : Bool), cls = .ref C ∧ ExcC K C ∧ xs = [.ref a, c] ∧ ClsV c u ∧ (∀ dd, d = some dd → ∃ fs, H dd = some (.xd fs)) ∧ PySem.W.kitOne K (.ref C) u = some b ∧ Q (.bl b) H
theorem call_isS (hz : Zc cls d oe) (hf : ∃ vs, oe.data = .fields vs) : CallR (X.suite a ((a, oe) :: pn)) (.builtin "isinstance") (rIsS X.K cls a d) := by
  intro pins s σ H xs us Q I r h
  obtain ⟨C, c, u, b, rfl, T, rfl, k, hd, e, q⟩ := h
  obtain ⟨u1, u2, rfl, r1, r2⟩ := vals2 r
  have e2 := k.eq r2
  subst e2
  obtain rfl : u1 = Value.ref a := r1
  obtain ⟨hget, _⟩ := I.pin (a, oe) (List.mem_append.mpr (.inl List.mem_cons_self))
  obtain ⟨vs, hv⟩ := hf
  have hcl : (PySem.W.clsIn X.K C).isSome = true := by
    obtain ⟨cd, hc, _⟩ := PySem.W.any_some T.hd
    rw [hc] <;> rfl
  obtain ⟨oc, od, oda, osl⟩ := oe
  obtain ⟨h1, h2⟩ := hz
  dsimp only at h1 h2 hv
  subst h1 h2 hv
  cases od with
  | none =>
    have J : PySem.W.InstAt s.heap a _ C none := ⟨hget, rfl, rfl, trivial⟩
    exact PySem.W.kia_one (PySem.W.kitx_exc hcl T.hg T.hk T.hs T.ha T.hn T.ht T.hm) I.kIn J e (fun z => nomatch z) fun tk => ⟨.bl b, H, I.tok tk, rfl, q⟩
  | some dd =>
    obtain ⟨fs, hdd⟩ := hd dd rfl
    have hx : ObjOk X.prog X.w H s.heap dd (.xd fs) := I.hok dd _ hdd
    obtain ⟨mA, hns, hr⟩ := hx
    obtain ⟨od, hod, hlk⟩ := lookIn_ns hns
    have J : PySem.W.InstAt s.heap a _ C (some od) := ⟨hget, rfl, rfl, hod⟩
    exact PySem.W.kia_one (PySem.W.kitx_exc hcl T.hg T.hk T.hs T.ha T.hn T.ht T.hm) I.kIn J e (fun z => nomatch z) fun tk => ⟨.bl b, H, I.tok tk, rfl, q⟩
def tXg (K : PySem.W.Frag) (a : Addr) (cls : Value) (d : Option Addr) (f : Str) (te : TE) : TE := fun σ H Q => te σ H fun x H1 => x = .ref a ∧ ∃ (C dd : Addr) (fs : List (Str × V)) (v : V), cls = .ref C ∧ ExcC K C ∧ PySem.W.findIn K (.ref C) f = some none ∧ d = some dd ∧ H1 dd = some (.xd fs) ∧ fs.lookup f = some v ∧ Q v H1
theorem pe_xg {e : Expr} {te : TE} {pos : Pos} {n : Str} (hz : Zc cls d oe) (hf : ∃ vs, oe.data = .fields vs) (he : PE (X.suite a ((a, oe) :: pn)) e te) (hb : attributeBase e n X.env (eval e X.env) = eval e X.env := by rfl) :
    PE (X.suite a ((a, oe) :: pn)) (.Attribute e n pos) (tXg X.K a cls d n te) := by
  refine ⟨fun pins s σ H Q I h => ?_⟩
  refine attr_of hb (thn (he.run pins s σ H _ I h) fun u s1 hh => ?_)
  obtain ⟨x, H1, I1, rx, ex, C, dd, fs, v, ec, T, hno, ed, ea, l, q⟩ := hh
  subst ex
  obtain rfl : u = Value.ref a := rx
  subst ec
  subst ed
  obtain ⟨ha, _⟩ := I1.pin (a, oe) (List.mem_append_left _ List.mem_cons_self)
  obtain ⟨vs, hd⟩ := hf
  have hx : ObjOk X.prog X.w H1 s1.heap dd (.xd fs) := I1.hok dd _ ea
  obtain ⟨mA, hns, hr⟩ := hx
  obtain ⟨od, ho, hl⟩ := lookIn_ns hns
  obtain ⟨u, hu, ru⟩ := RelO.some_of (v := v) (o := mA n) (by rw [← l]; exact hr n)
  have J : PySem.W.InstAt s1.heap a oe C (some od) := ⟨ha, hz.1, by unfold PySem.W.notCls; rw [hd] <;> rfl, by rw [hz.2]; exact ho⟩
  exact HandSPX.exc_get I1.kIn J T.hg T.hk T.hs (PySem.W.findObj_own T.hd hno rfl (by rw [hl, hu])) (handed_of ru) ⟨v, H1, I1.tok _, ru, q⟩
end
/-! ### suites -/
structure Su (ι : Type) where
  j : ι
  a : Addr
  oe : Obj
  cls : Value
  d : Option Addr
  pn : List (Addr × Obj)
  hz : Zc cls d oe
  hf : ∃ vs, oe.data = .fields vs
abbrev suX {ι : Type} (X : ι → Cx) (k : Su ι) : Cx := (X k.j).suite k.a ((k.a, k.oe) :: k.pn)
abbrev TU (α : Type) := Addr → Value → Option Addr → α
/-- the exception stands in slot i, if it has a name -/
def At (io : Option Nat) (σ : L2.St) (a : Addr) : Prop := ∀ i, io = some i → σ[i]? = some (some (.ref a))
def VUE (K : PySem.W.Frag) (io : Option Nat) (te : TU TE) (ev : XD → EvE) : Prop := ∀ (C : Ctx) (σ : L2.St) (δ : List Sl) (H : Hp) (Q : VK) (Qd : Dt → Prop) (a : Addr) (cls : Value) (d : Option Addr) (x : XD), C.K = K → Sok C H σ δ → At io σ a → RepX C.K C.av H cls d x → ev x δ Qd → (∀ v e H', Stp C.S H H' → Rep K C.av H' v e → Qd e → Q v H') → te a cls d σ H Q
def DUE {ι : Type} (K : PySem.W.Frag) (X : ι → Cx) (io : Option Nat) (e : Expr) (ev : XD → EvE) : Prop := ∃ te : TU TE, (∀ k : Su ι, PE (suX X k) e (te k.a k.cls k.d)) ∧ VUE K io te ev
def VUA (K : PySem.W.Frag) (io : Option Nat) (te : TU TA) (ev : XD → EvA) : Prop := ∀ (C : Ctx) (σ : L2.St) (δ : List Sl) (H : Hp) (Q : List V → Hp → Prop) (Qd : List Dt → Prop) (a : Addr) (cls : Value) (d : Option Addr) (x : XD), C.K = K → Sok C H σ δ → At io σ a → RepX C.K C.av H cls d x → ev x δ Qd → (∀ vs es H', Stp C.S H H' → RepL K C.av H' vs es → Qd es → Q vs H') → te a cls d σ H Q
def DUA {ι : Type} (K : PySem.W.Frag) (X : ι → Cx) (io : Option Nat) (es : List Expr) (ev : XD → EvA) : Prop := ∃ te : TU TA, (∀ k : Su ι, PA (suX X k) es (te k.a k.cls k.d)) ∧ VUA K io te ev
def VUT (K : PySem.W.Frag) (io : Option Nat) (te : TU TT) (ev : XD → EvT) : Prop := ∀ (C : Ctx) (σ : L2.St) (δ : List Sl) (H : Hp) (Q : Bool → Hp → Prop) (Qd : Bool → Prop) (a : Addr) (cls : Value) (d : Option Addr) (x : XD), C.K = K → Sok C H σ δ → At io σ a → RepX C.K C.av H cls d x → ev x δ Qd → (∀ b H', Stp C.S H H' → Qd b → Q b H') → te a cls d σ H Q
def DUT {ι : Type} (K : PySem.W.Frag) (X : ι → Cx) (io : Option Nat) (e : Expr) (ev : XD → EvT) : Prop := ∃ te : TU TT, (∀ k : Su ι, PT (suX X k) e (te k.a k.cls k.d)) ∧ VUT K io te ev
def VUS (K : PySem.W.Frag) (io : Option Nat) (ts : TU TS) (sv : XD → EvS) : Prop := ∀ (C : Ctx) (σ : L2.St) (δ : List Sl) (H : Hp) (D : Ends) (Dd : DEnds) (a : Addr) (cls : Value) (d : Option Addr) (x : XD), C.K = K → Sok C H σ δ → At io σ a → RepX C.K C.av H cls d x → sv x Dd δ → EndsR C D Dd → ts a cls d D σ H
def DUSs {ι : Type} (K : PySem.W.Frag) (X : ι → Cx) (io : Option Nat) (st : List Stmt) (sv : XD → EvS) : Prop := ∃ ts : TU TS, (∀ k : Su ι, PSs (suX X k) st (ts k.a k.cls k.d)) ∧ VUS K io ts sv
def DUS {ι : Type} (K : PySem.W.Frag) (X : ι → Cx) (io : Option Nat) (st : Stmt) (sv : XD → EvS) : Prop := ∃ ts : TU TS, (∀ k : Su ι, PS (suX X k) st (ts k.a k.cls k.d)) ∧ VUS K io ts sv
theorem lookup_repX {K : PySem.W.Frag} {av : Addr → Prop} {H : Hp} {f : Str} : ∀ {vs : List (Str × V)} {fs : List (Str × Dt)} {d : Dt}, vs.map Prod.fst = fs.map Prod.fst → RepL K av H (vs.map Prod.snd) (fs.map Prod.snd) → fs.lookup f = some d → ∃ v, vs.lookup f = some v ∧ Rep K av H v d
  | [], [], d, _, _, h => by cases h
  | [], g :: fs, d, e, _, _ => by cases e
  | u :: vs, [], d, e, _, _ => by cases e
  | (g, u) :: vs, (g', x) :: fs, d, e, r, h => by
    obtain ⟨rfl, e2⟩ : g = g' ∧ vs.map Prod.fst = fs.map Prod.fst := by
      have := e
      simp only [List.map_cons, List.cons.injEq] at this
      exact this
    obtain ⟨r1, r2⟩ := RepL.head r
    rw [List.lookup_cons] at h ⊢
    cases hg : f == g with
    | true =>
      rw [hg] at h
      cases h
      exact ⟨u, rfl, r1⟩
    | false =>
      rw [hg] at h
      exact lookup_repX e2 r2 h
section
variable {ι : Type} {K : PySem.W.Frag} {X : ι → Cx} {z o : Bool} {pos p2 pos' : Pos} {io : Option Nat} {b c e f tg iter : Expr} {es : List Expr} {ev ev2 : XD → EvE} {ee : EvE} {tt : EvT} {ea : XD → EvA} {tv tw : XD → EvT} {st : Stmt} {rest body els : List Stmt} {sv sw : XD → EvS} {su : EvS}
theorem due_of (h : DE false K (suX X) e ee) : DUE K X io e (fun _ => ee) := by
  obtain ⟨t, p, v⟩ := h
  exact ⟨fun _ _ _ => t, p, fun C σ δ H Q Qd a cls d x k s _ _ e q => v C σ δ H Q Qd k s e q⟩
theorem dut_of (h : DT K (suX X) e tt) : DUT K X io e (fun _ => tt) := by
  obtain ⟨t, p, v⟩ := h
  exact ⟨fun _ _ _ => t, p, fun C σ δ H Q Qd a cls d x k s _ _ e q => v C σ δ H Q Qd k s e q⟩
theorem dus_of (h : DS K (suX X) st su) : DUS K X io st (fun _ => su) := by
  obtain ⟨t, p, v⟩ := h
  exact ⟨fun _ _ _ => t, p, fun C σ δ H D Dd a cls d x k s _ _ e q => v C σ δ H D Dd k s e q⟩
def dXf (K : PySem.W.Frag) (f : Str) : XD → EvE := fun x δ Q => ExcC K x.C ∧ PySem.W.findIn K (.ref x.C) f = some none ∧ ∃ d, x.fs.lookup f = some d ∧ Q d
/-- e.f -/
theorem due_fld {i : Nat} {n x : Str} (p : ∀ k : Su ι, PE (suX X k) (.Name x p2) (tVar i)) (hb : ∀ k : Su ι, attributeBase (.Name x p2) n (suX X k).env (eval (.Name x p2) (suX X k).env) = eval (.Name x p2) (suX X k).env := by intro _; rfl) (hK : ∀ i, (X i).K = K := by intro _; rfl) : DUE K X (some i) (.Attribute (.Name x p2) n pos) (dXf K n) := by
  refine ⟨fun a cls d => tXg K a cls d n (tVar i), fun k => hK k.j ▸ pe_xg k.hz k.hf (p k) (hb k), fun C σ δ H Q Qd a cls d x k s at_ r e q => ?_⟩
  subst k
  obtain ⟨T, hno, y, hl, e⟩ := e
  refine ⟨.ref a, at_ i rfl, rfl, ?_⟩
  rcases r.f with ⟨_, h⟩ | ⟨dx, vs, h1, h2, h3, h4, h5⟩
  · rw [h] at hl
    cases hl
  · obtain ⟨v, hv, rv⟩ := lookup_repX h4 h5 hl
    exact ⟨x.C, dx, vs, v, r.c, T, hno, h1, h3, hv, q v y H (Stp.refl H) rv e⟩
def dXis (K : PySem.W.Frag) (u : Value) : XD → EvE := fun x δ Q => ExcC K x.C ∧ ∃ b, PySem.W.kitOne K (.ref x.C) u = some b ∧ Q (.bl b)
/-- isinstance(e, T) -/
theorem due_isi {i : Nat} {x T : Str} {p q2 : Pos} {c : V} {u : Value} (pn : ∀ k : Su ι, PE (suX X k) (.Name x p2) (tVar i)) (hT : ∀ k : Su ι, PE (suX X k) (.Name T q2) (tC c)) (hc : ClsV c u) (hg : ∀ i, Gl (X i) "isinstance") (hm : ∀ i, (X i).mg "isinstance" = none)
    (hs : ∀ k : Su ι, starEach [.Name x p2, .Name T q2] (suX X k).env = (false, eval (.Name x p2) (suX X k).env) :: starEach [.Name T q2] (suX X k).env := by intro _; rfl) (hs2 : ∀ k : Su ι, starEach [.Name T q2] (suX X k).env = [(false, eval (.Name T q2) (suX X k).env)] := by intro _; rfl)
    (hpl : ∀ k : Su ι, (backTo pos (starEach [.Name T q2] (suX X k).env)).any (·.1) = false := by intro _; rfl) (hK : ∀ i, (X i).K = K := by intro _; rfl) : DUE K X (some i) (.Call (.Name "isinstance" p) [.Name x p2, .Name T q2] [] pos) (dXis K u) := by
  refine ⟨fun a cls d => tCB (rIsS K cls a d) (tCons (tVar i) (tCons (tC c) tNil)), fun k => pe_callB (id := "isinstance") (hK k.j ▸ call_isS k.hz k.hf : CallR (suX X k) (.builtin "isinstance") (rIsS K k.cls k.a k.d)) (hg k.j) (hm k.j) (by decide +kernel) (pa_cons (pn k) (pa_cons (hT k) pa_nil (hs2 k)) (hs k)) (he := hs k) (hpl := hpl k), fun C σ δ H Q Qd a cls d y k s at_ r e q => ?_⟩
  subst k
  obtain ⟨T, b, hk, e⟩ := e
  refine ⟨.ref a, at_ i rfl, y.C, c, u, b, r.c, T, rfl, hc, fun dd hd => ?_, hk, q _ _ H (Stp.refl H) (.bl _) e⟩
  rcases r.f with ⟨h, _⟩ | ⟨dx, vs, h1, h2, h3, h4, h5⟩
  · rw [h] at hd
    cases hd
  · rw [h1] at hd
    cases hd
    exact ⟨_, h3⟩
theorem dua_nil : DUA K X io [] (fun _ _ Q => Q []) := ⟨fun _ _ _ => _, fun _ => pa_nil, fun C σ δ H Q Qd a cls d x k s _ _ e q => q [] [] H (Stp.refl H) RepL.nil e⟩
theorem dua_cons (h1 : DUE K X io e ev) (h2 : DUA K X io es ea) (hs : ∀ k : Su ι, starEach (e :: es) (suX X k).env = (false, eval e (suX X k).env) :: starEach es (suX X k).env := by intro _; rfl) : DUA K X io (e :: es) (fun x δ Q => ev x δ fun d => ea x δ fun ds => Q (d :: ds)) := by
  obtain ⟨t, p, v⟩ := h1
  obtain ⟨t2, p2, v2⟩ := h2
  refine ⟨fun a cls d => tCons (t a cls d) (t2 a cls d), fun k => pa_cons (p k) (p2 k) (hs k), fun C σ δ H Q Qd a cls d x k s at_ r e q => ?_⟩
  subst k
  refine v C σ δ H _ _ a cls d x rfl s at_ r e fun y dy H1 e1 r1 e => ?_
  exact v2 C σ δ H1 _ _ a cls d x rfl (s.step e1) at_ (r.step0 s e1) e fun vs ds H2 e2 r2 e => q _ _ H2 (e1.trans e2) (RepL.cons (rep_step0 (s.step e1) e2 r1) r2) e
theorem due_tup {k : Nat} (h : DUA K X io es ea) : DUE K X io (.Tuple es k pos) (fun x δ Q => ea x δ fun ds => ds.length ≤ sizeLine ∧ Q (.tup ds)) := by
  obtain ⟨t, p, v⟩ := h
  refine ⟨fun a cls d => tTup (t a cls d), fun k => pe_tup (p k), fun C σ δ H Q Qd a cls d x k s at_ r e q => ?_⟩
  subst k
  exact v C σ δ H _ _ a cls d x rfl s at_ r e fun xs ds H1 e1 r1 e => ⟨by rw [r1.l]; exact e.1, fun p hp => q _ _ _ (e1.trans (Stp.new hp)) (rep_newT (s.step e1).al0 hp r1) e.2⟩
theorem dus_ret (h : DUE K X io e ev) : DUS K X io (.Return (some e) pos) (fun x D δ => ev x δ D.rt) := by
  obtain ⟨t, p, v⟩ := h
  refine ⟨fun a cls d => tRet (t a cls d), fun k => ps_ret (p k), fun C σ δ H D Dd a cls d x k s at_ r e q => ?_⟩
  subst k
  exact v C σ δ H _ _ a cls d x rfl s at_ r e fun y dy H1 e1 r1 e => q.rt y dy H1 (s.st.trans e1) r1 (fun g m => ((s.step e1).gh g m).mono fun b z => .inl z) e
theorem duss_one (h : DUS K X io st sv) : DUSs K X io [st] sv := by
  obtain ⟨t, p, v⟩ := h
  exact ⟨fun a cls d => _, fun k => pss_one (p k), v⟩
/-- a test that returns, then the rest -/
theorem duss_ifret (hc : DUT K X io c tv) (h1 : DUSs K X io body sv) (h2 : DUSs K X io rest sw) : DUSs K X io (.If c body [] pos :: rest) (fun x D δ => tv x δ fun b => if b = true then sv x { D with nx := fun _ => False } δ else sw x D δ) := by
  obtain ⟨t, p, v⟩ := hc
  obtain ⟨t1, p1, v1⟩ := h1
  obtain ⟨t2, p2, v2⟩ := h2
  refine ⟨fun a cls d => tSeq (tIfS (t a cls d) (t1 a cls d) tNext) (t2 a cls d), fun k => pss_cons (ps_if (p k) (p1 k) pss_nil) (p2 k), fun C σ δ H D Dd a cls d x k s at_ r e q => ?_⟩
  refine v C σ δ H _ _ a cls d x k s at_ r e fun b H1 e1 e => ?_
  cases b
  · exact v2 C σ δ H1 D Dd a cls d x k (s.step e1) at_ (r.step0 s e1) e q
  · exact v1 C σ δ H1 _ _ a cls d x k (s.step e1) at_ (r.step0 s e1) e ⟨fun _ _ _ _ z => z.elim, q.rt, q.bk, q.ct⟩
theorem dut_val (h : DUE K X io e ev) (he : ∀ k : Su ι, ∀ whole, isTrue e (suX X k).env whole = (do let v ← whole; standAt e.pos; holding [v] (truthy v)) := by intro _ _; rfl) : DUT K X io e (fun x => dTst (ev x)) := by
  obtain ⟨t, p, v⟩ := h
  refine ⟨fun a cls d => tB (t a cls d), fun k => pt_val (p k) (he k), fun C σ δ H Q Qd a cls d x k s at_ r e q => ?_⟩
  refine v C σ δ H _ _ a cls d x k s at_ r e fun y dy H1 e1 r1 e => ?_
  obtain ⟨b, rfl, e⟩ := e
  exact ⟨b, r1.bl_inv, q b H1 e1 e⟩
end
/-! ### try -/
theorem Sok.setNone {C : Ctx} {H : Hp} {σ : L2.St} {δ : List Sl} (s : Sok C H σ δ) (i : Nat) : Sok C H (σ.set i none) (δ.set i .any) := by
  have s1 : Sok C H (σ.set i (some .non)) (δ.set i .any) := s.set (fun _ z => z) fun _ _ => trivial
  refine ⟨by simp [s.len], fun j w h => ?_, s1.uqr, s1.inn, s1.g, s1.st, s1.avs, s1.ava, s1.gh⟩
  by_cases hj : i = j
  · subst hj
    have hi : i < δ.length := by
      rcases Nat.lt_or_ge i δ.length with z | z
      · exact z
      · rw [List.getElem?_eq_none (by simpa using z)] at h
        cases h
    rw [List.getElem?_set_self hi] at h
    cases h
    trivial
  · have q := s1.sl j w h
    rw [List.getElem?_set_ne hj] at q ⊢
    exact q
structure Tr (ι : Type) (X : ι → Cx) where
  j : ι
  pn : List (Addr × Obj)
  xe : Value → Shared → Prop
  po : PassesOwn (model (X j).prog (X j).w) (X j).A (X j).env xe
abbrev trX {ι : Type} (X : ι → Cx) (k : Tr ι X) : Cx := (X k.j).tr k.pn k.xe
section
variable {ι : Type} {K : PySem.W.Frag} {X : ι → Cx} {pos p2 pos' np : Pos} {body suite : List Stmt} {b₀ : Stmt} {x n : Str} {c : Value} {i : Nat} {sv : EvXS} {uv : XD → EvS}
/-- what the clause does with an exception -/
def dCat (K : PySem.W.Frag) (c : Value) (no : XD → List Sl → Prop) (yes : XD → List Sl → Prop) : XD → List Sl → Prop := fun y δ => ∃ b, PySem.W.exmOne K (.ref y.C) c = some b ∧ (b = true → yes y δ) ∧ (b = false → no y δ)
/-- try: .. except x as n: .. -/
theorem dx_try_as (hs : ∀ j, (X j).stack = (X j).env :: (X j).outer) (hf : ∀ j, (X j).env.frame = some (X j).env.locals) (hN : ∀ j, (X j).N.Nodup) (hi : ∀ j, (X j).N[i]? = some n) (hln : ∀ j, (X j).env.kindOf n = some .local) (hc : ∀ j, Names (X j) x c) (hK : ∀ j, (X j).K = K)
    (hb : DXs K (trX X) body sv) (hu : DUSs K X (some i) (b₀ :: suite) uv) : DX K X (.Try body [.ExceptHandler (some (.Name x np)) (some n) (b₀ :: suite) pos'] [] [] pos)
      (fun D δ => sv { D with xc := dCat K c D.xc fun y δ' => i < δ'.length ∧ uv y { nx := fun δ2 => D.nx (δ2.set i .any), rt := D.rt, bk := fun δ2 => D.bk (δ2.set i .any), ct := fun δ2 => D.ct (δ2.set i .any) } (δ'.set i .any) } δ) := by
  obtain ⟨t, p, v⟩ := hb
  obtain ⟨u, pu, vu⟩ := hu
  refine ⟨fun W D σ H => t (wAs K c i u W D) D σ H, fun j W tk => hK j ▸ ps_try_as (hs j) (hf j) (hN j) (hi j) (hln j) (hc j) tk (fun W pn xe tk2 po => p ⟨j, pn, xe, po⟩ W tk2) (fun a oe cls d pn hz hf => pu ⟨j, a, oe, cls, d, pn, hz, hf⟩), fun C σ δ H D Dd W k s e q xl => ?_⟩
  subst k
  refine v C σ δ H D _ _ rfl s e ⟨q.nx, q.rt, q.bk, q.ct⟩ fun cls d σ' δ' H' y s' r hy => ?_
  obtain ⟨b, h1, h2, h3⟩ := hy
  refine ⟨b, by rw [r.c]; exact h1, fun hb a na => ?_, fun hb => xl cls d σ' δ' H' y s' r (h3 hb)⟩
  obtain ⟨hl, h2⟩ := h2 hb
  have sn : Sok C H' (σ'.set i (some (.ref a))) (δ'.set i .any) := s'.set (fun _ z => z) fun _ _ => trivial
  refine vu C _ _ H' _ _ a cls d y rfl sn (fun i' e => ?_) r h2 ⟨fun σ δ H s e => q.nx _ _ H (s.setNone i) e, q.rt, fun σ δ H s e => q.bk _ _ H (s.setNone i) e, fun σ δ H s e => q.ct _ _ H (s.setNone i) e⟩
  cases e
  rw [List.getElem?_set_self (by rw [s'.len]; exact hl)]
/-- try: .. except x: .. -/
theorem dx_try_only (hs : ∀ j, (X j).stack = (X j).env :: (X j).outer) (hf : ∀ j, (X j).env.frame = some (X j).env.locals) (hc : ∀ j, Names (X j) x c) (hK : ∀ j, (X j).K = K)
    (hb : DXs K (trX X) body sv) (hu : DUSs K X none (b₀ :: suite) uv) : DX K X (.Try body [.ExceptHandler (some (.Name x np)) none (b₀ :: suite) pos'] [] [] pos)
      (fun D δ => sv { D with xc := dCat K c D.xc fun y δ' => uv y D.toDEnds δ' } δ) := by
  obtain ⟨t, p, v⟩ := hb
  obtain ⟨u, pu, vu⟩ := hu
  refine ⟨fun W D σ H => t (wOnly K c u W D) D σ H, fun j W tk => hK j ▸ ps_try_only (hs j) (hf j) (hc j) tk (fun W pn xe tk2 po => p ⟨j, pn, xe, po⟩ W tk2) (fun a oe cls d pn hz hf => pu ⟨j, a, oe, cls, d, pn, hz, hf⟩), fun C σ δ H D Dd W k s e q xl => ?_⟩
  subst k
  refine v C σ δ H D _ _ rfl s e ⟨q.nx, q.rt, q.bk, q.ct⟩ fun cls d σ' δ' H' y s' r hy => ?_
  obtain ⟨b, h1, h2, h3⟩ := hy
  exact ⟨b, by rw [r.c]; exact h1, fun hb a na => vu C _ _ H' _ _ a cls d y rfl s' (fun i' e => nomatch e) r (h2 hb) q, fun hb => xl cls d σ' δ' H' y s' r (h3 hb)⟩
end
section
variable {P : Program} {w : World} {K : PySem.W.Frag} {mg : Str → Option Value} {base : Heap}
theorem tk0 {X : Cx} : Takes X (fun _ _ _ _ => False) := fun _ _ x => by
  obtain ⟨_, _, _, _, _, _, _, _, _, _, _, _, _, _, _, _, w⟩ := x
  exact w.elim
/-- a def that raises nothing, whose tries catch what comes -/
theorem fn_dx {x qual : Str} {params : Arguments} {body : List Stmt} {scope : Scope} {dvs : List V} {kws : List (Str × V)} {f : Addr} {fd : FuncData} {N ps : List Str} {k : Nat} {sp : Spc} {sv : EvXS} (F : FunD K x qual params body scope dvs kws f fd) (S : FnScope N ps scope)
    (hbody : ∀ (cdv : Value) (A : Around) (outer : List Env) (s : Shared) (H : Hp) (E : XK), Room k (A.deeper (PyProof.Rows.envOfC qual scope s.heap.objs.size f cdv)) → DXs K (fun _ : Unit => (cxOf CX0 P w K mg base N qual scope f cdv A outer s H E).nox) body sv)
    (hsp : ∀ (δ : List Sl) (Qd : Dt → Prop), δ.length = ps.length → sp δ Qd → sv { nx := fun _ => Qd .non, rt := Qd } (st0 N δ)) : FnOk P w K mg base CX0 (k + 1) f fd ps (dsp K ps.length sp) := by
  refine F.ok S (fun vs H Q E h => ?_) fun cdv A outer s H vs Q E hr h => ?_
  · obtain ⟨S, av, δ, Qd, _, _, _, a, l, _⟩ := h
    rw [a.l, l]
  · obtain ⟨S, av, δ, Qd, h1, h2, h3, a, l, hs, q⟩ := h
    obtain ⟨ts, p, v⟩ := hbody cdv A outer s H E hr
    refine ⟨ts (fun _ _ _ _ => False), (p () _ tk0).nox, v ⟨K, S, av, H, []⟩ _ _ H _ { nx := fun _ => Qd .non, rt := Qd } _ rfl (sok_start h1 h2 h3 a) (hsp δ Qd l hs) ⟨fun σ δ H' s e => q .non .non H' s.st .non e, fun x d H' e r _ qd => q x d H' e r qd, fun _ _ _ _ e => e.elim, fun _ _ _ _ e => e.elim⟩ fun _ _ _ _ _ _ _ _ z => z⟩
end
/-- C() raised, C an own class without __init__ -/
theorem pmk_exc0 {X : Cx} {C : Addr} {bmB : List Value} {x : Str} {initId : String} {p pos : Pos} (F : ExcBaseFacts "ValueError" "ValueError.__new__" initId bmB) (q : PySem.W.excIn X.K C bmB "ValueError.__new__" = true) (gC : X.mg x = some (.ref C)) (kC : PySem.W.keepIn X.K (.ref C) = true) (r : Raises X (.ref C)) (hg : Gl X x)
    (hdb : (x == ("__debug__" : Str)) = false := by decide) : PMk X (.Call (.Name x p) [] [] pos) (fun _ H Q => Q (.ref C) none H) := by
  intro pins s σ H Q I h
  refine wpAny_Call_Name_kw (ld_glob I hg gC ?_ hdb)
  refine PySem.W.callWith_K0 I.kIn kC ?_
  show wpAny _ _ (call (.ref C) []) _ _ _
  obtain ⟨bm, N, nm, qn, bs, hdct, sn, sub, ab, col, dd, k0, k1, k2, k3, k5, mN, hC, hN, hni, T⟩ := exc_obj I.kIn q
  refine wpAny_call_exc_subT F T hC hN hni (fun h' a hm => ?_) (Nat.zero_le _)
  exact mk_of I hm r h (I.hok.gone hm.new)
/-- one, two attributes that an own __init__ of an exception keeps -/
theorem rd_xi1 {K : PySem.W.Frag} {C : Addr} {f : Str} (T : OexC K C) (h1 : PySem.W.findIn K (.ref C) f = some none) (vs : List V) (H : Hp) (Q : VK) (E : XK) (N : List Str) (h : spXI C [f] vs H Q E) :
    tOst K f (tVar 0) (tVar 1) { nx := fun _ H' => Q .non H', rt := Q } (L2.start N vs) H := by
  obtain ⟨a, ys, rfl, hl, hA, k⟩ := h
  obtain ⟨y, rfl⟩ : ∃ y, ys = [y] := by
    match ys, hl with
    | [y], _ => exact ⟨y, rfl⟩
  refine ⟨_, rfl, _, rfl, a, C, rfl, T, h1, .inl ⟨hA, fun dx n ne => ?_⟩⟩
  refine k _ dx n ne upd_same (by rw [upd_ne ne, upd_same]; rfl) fun b o hb e => ?_
  rw [upd_ne hb, upd_ne (ne_of_none e n)]
  exact e
theorem rd_xi2 {K : PySem.W.Frag} {C : Addr} {f g : Str} (T : OexC K C) (h1 : PySem.W.findIn K (.ref C) f = some none) (h2 : PySem.W.findIn K (.ref C) g = some none) (vs : List V) (H : Hp) (Q : VK) (E : XK) (N : List Str) (h : spXI C [f, g] vs H Q E) :
    tSeq (tOst K f (tVar 0) (tVar 1)) (tOst K g (tVar 0) (tVar 2)) { nx := fun _ H' => Q .non H', rt := Q } (L2.start N vs) H := by
  obtain ⟨a, ys, rfl, hl, hA, k⟩ := h
  obtain ⟨y, u, rfl⟩ : ∃ y u, ys = [y, u] := by
    match ys, hl with
    | [y, u], _ => exact ⟨y, u, rfl⟩
  refine ⟨_, rfl, _, rfl, a, C, rfl, T, h1, .inl ⟨hA, fun dx n ne => ?_⟩⟩
  refine ⟨_, rfl, _, rfl, a, C, rfl, T, h2, .inr ⟨dx, _, upd_same, (by rw [upd_ne ne, upd_same]), (by show 1 ≤ 900; decide), ?_⟩⟩
  refine k _ dx n ne (by rw [upd_ne (Ne.symm ne), upd_same]) (by rw [upd_same]; rfl) fun b o hb e => ?_
  have nb : b ≠ dx := ne_of_none e n
  rw [upd_ne nb, upd_ne hb, upd_ne nb]
  exact e
end Dl
set_option maxHeartbeats 4000000
/-! a Hook that looks at any Boolean of one's own -/
namespace Hm
open PySem PySem.Spec PyProof.Rows L2 He
def obsM (ck : PySem.W.Frag → Bool) (fn : List DefD) (K : PySem.W.Frag) : AlD := (ck K && fn.all fun d => d.ok K, fn.map fun d => fnW K d.at_)
def SaysM (ck : PySem.W.Frag → Bool) (fn : List DefD) (K : PySem.W.Frag) : Prop := obsM ck fn K = valD fn
def obsMG (n : Nat) (ck : PySem.W.Frag → Bool) (fn : List DefD) (g : Addr → Option Obj) : AlD := obsM ck fn (frG g (asD g n))
def hookM (n : Nat) (ck : PySem.W.Frag → Bool) (fn : List DefD) : PySem.W.Hook where
  α := AlD
  obs := fun s => obsMG n ck fn s.heap.get?
  val := fun _ => valD fn
  says := fun _ h => ∃ K : PySem.W.Frag, K.In h ∧ SaysM ck fn K
  of := fun _ _ e => ⟨_, frG_in, e⟩
  keeps := fun _ _ _ ⟨K, hK, c⟩ k => ⟨K, PySem.W.Frag.In.keeps hK k, c⟩
theorem obsMG_eq {n : Nat} {ck : PySem.W.Frag → Bool} {fn : List DefD} {g : Addr → Option Obj} {s : Shared} (h : ∀ a, g a = s.heap.get? a) : obsMG n ck fn g = (hookM n ck fn).obs s := by
  have e : g = s.heap.get? := funext h
  rw [e] <;> rfl
section
variable {ck : PySem.W.Frag → Bool} {fn : List DefD} {K : PySem.W.Frag}
theorem SaysM.ckT (c : SaysM ck fn K) : ck K = true :=
  (ba (show (ck K && fn.all fun d => d.ok K) = true from congrArg (fun z : AlD => z.1) c)).1
theorem SaysM.def_ (c : SaysM ck fn K) (i : Nat) {d : DefD} (h : fn[i]? = some d := by rfl) : ∃ fd, FunD K d.name d.qual d.params d.body d.scope (d.dvs K) (d.kws K) (fAd K d.at_) fd := by
  have c2 := (ba (show (ck K && fn.all fun d => d.ok K) = true from congrArg (fun z : AlD => z.1) c)).2
  have e : fn.map (fun d => fnW K d.at_) = fn.map DefD.val := congrArg (fun z : AlD => z.2) c
  have e2 : (fn.map fun d => fnW K d.at_)[i]? = (fn.map DefD.val)[i]? := by rw [e]
  rw [List.getElem?_map, List.getElem?_map, h] at e2
  exact DefD.funD (Option.some.inj e2) (List.all_eq_true.mp c2 d (List.mem_of_getElem? h))
end
/-! ### exception classes over ValueError, by an own base -/
def oexB (K : PySem.W.Frag) (C : Addr) (bm : List Value) : Bool := match K.lookup C with
  | some ⟨.type "type", _, .cls cd, sl⟩ => (match cd.mro, sl.toList with
    | .ref C' :: bm', [_, _, _, _, some (.builtin n), _] => decide (C' = C) && (decide (n = "ValueError.__new__") && (!cd.hasDel && (cd.hasDict && decide (bm' = bm))))
    | _, _ => false)
  | _ => false
theorem oexB_ok {K : PySem.W.Frag} {C : Addr} {bm : List Value} (q : oexB K C bm = true) :
    ∃ nm qn N bs sn sub ab col dd k0 k1 k2 k3 k5, K.lookup C = some (excClassObj nm qn C N bs bm true sn sub ab col dd k0 k1 k2 k3 k5 "ValueError.__new__") := by
  unfold oexB at q
  split at q
  · rename_i dd cd sl ho
    split at q
    · rename_i C' bm' k0 k1 k2 k3 n k5 hm hs
      simp only [Bool.and_eq_true, decide_eq_true_eq, Bool.not_eq_true'] at q
      obtain ⟨rfl, rfl, hdel, hdc, rfl⟩ := q
      obtain ⟨nm, bs, mro, ns, qn, hd, sn, sub, ab, col, del⟩ := cd
      dsimp only at hm hdel hdc
      subst hm hdel hdc
      have hsl : sl = #[k0, k1, k2, k3, some (.builtin "ValueError.__new__"), k5] := by
        obtain ⟨l⟩ := sl
        simp only at hs
        rw [hs]
      subst hsl
      exact ⟨nm, qn, ns, bs, sn, sub, ab, col, dd, k0, k1, k2, k3, k5, ho⟩
    · cases q
  · cases q
def excB (K : PySem.W.Frag) (C : Addr) (fs : List Str) : Bool :=
  eqO (PySem.W.findIn K (.ref C) "__setattr__") (some (some (.builtin "object.__setattr__"))) && (decide (PySem.W.subIn K (.ref C) (.type "BaseException") = some true) && (decide (PySem.W.typeIn K (.ref C) = some (.type "type")) && (PySem.W.keepIn K (.ref C) &&
  (eqO (PySem.W.findIn K (.ref C) "__getattribute__") (some (some (.builtin "BaseException.__getattribute__"))) && (eqO (PySem.W.findIn K (.ref C) "__getattr__") (some none) && (PySem.W.hasDictIn K C && (eqO (PySem.W.findIn K (.ref C) "__class__") (some (some (.builtin "object.__class__"))) &&
  (decide (PySem.W.mroIn K C (.type "object") = some true) && fs.all fun f => eqO (PySem.W.findIn K (.ref C) f) (some none)))))))))
def comB (K : PySem.W.Frag) : Bool := decide (PySem.W.specialIn K (.builtin "object.__class__") "__get__" = some (some (.builtin "getset_descriptor.__get__"))) && decide (PySem.W.takesIn K (.builtin "object.__class__") = some true)
/-- what is known of an exception class -/
structure XC (K : PySem.W.Frag) (C : Addr) (bm : List Value) (fs : List Str) : Prop where
  ox : OexC K C
  xc : ExcC K C
  cd : ∃ cd, PySem.W.clsIn K C = some cd ∧ cd.mro = .ref C :: bm
  no : ∀ f ∈ fs, PySem.W.findIn K (.ref C) f = some none
theorem xc_ok {K : PySem.W.Frag} {C : Addr} {bm : List Value} {fs : List Str} (c : comB K = true) (h1 : oexB K C bm = true) (h2 : excB K C fs = true) (hbm : PySem.HandSPX.refsVE bm = true) : XC K C bm fs := by
  obtain ⟨c1, c2⟩ := ba c
  obtain ⟨a1, h2⟩ := ba h2
  obtain ⟨a2, h2⟩ := ba h2
  obtain ⟨a3, h2⟩ := ba h2
  obtain ⟨a4, h2⟩ := ba h2
  obtain ⟨a5, h2⟩ := ba h2
  obtain ⟨a6, h2⟩ := ba h2
  obtain ⟨a7, h2⟩ := ba h2
  obtain ⟨a8, h2⟩ := ba h2
  obtain ⟨a9, a10⟩ := ba h2
  obtain ⟨nm, qn, N, bs, sn, sub, ab, col, dd, k0, k1, k2, k3, k5, hC⟩ := oexB_ok h1
  refine ⟨⟨⟨nm, qn, N, bs, bm, sn, sub, ab, col, dd, k0, k1, k2, k3, k5, hC, hbm⟩, eqO_ok a1, of_decide_eq_true a2, of_decide_eq_true a3, a4⟩, ⟨eqO_ok a5, eqO_ok a6, of_decide_eq_true a2, a7, eqO_ok a8, of_decide_eq_true c1, of_decide_eq_true c2, of_decide_eq_true a9⟩, ?_, fun f hf => eqO_ok (List.all_eq_true.mp a10 f hf)⟩
  refine ⟨{ name := nm, bases := bs, mro := .ref C :: bm, ns := N, qualname := qn, hasDict := true, slotNames := sn, subclasses := sub, abstract := ab, collection := col, hasDel := false }, ?_, rfl⟩
  unfold PySem.W.clsIn
  rw [hC] <;> rfl
/-- isinstance of an instance of C: of an own class D, of a built-in one -/
theorem kit_own {K : PySem.W.Frag} {C D : Addr} {bm bm' : List Value} {fs fs' : List Str} (x : XC K C bm fs) (y : XC K D bm' fs') : PySem.W.kitOne K (.ref C) (.ref D) = some (decide (C = D) || bm.contains (.ref D)) := by
  unfold PySem.W.kitOne
  by_cases e : C = D
  · subst e
    rw [if_pos (by simp)]
    simp
  · have ne : (Value.ref C == Value.ref D) = false := by simpa using e
    rw [ne, if_neg Bool.false_ne_true]
    obtain ⟨cd, hc, hm⟩ := x.cd
    obtain ⟨cd', hc', _⟩ := y.cd
    have e2 : ((PySem.W.clsIn K D).isSome && PySem.W.typeIn K (.ref D) == some (.type "type")) = true := by rw [hc', y.ox.tyC] <;> rfl
    show (if ((PySem.W.clsIn K D).isSome && PySem.W.typeIn K (.ref D) == some (.type "type")) = true then PySem.W.subIn K (.ref C) (.ref D) else none) = _
    rw [if_pos e2]
    show PySem.W.mroIn K C (.ref D) = _
    unfold PySem.W.mroIn
    rw [hc]
    show (if cd.mro.isEmpty = true then none else some (cd.mro.contains (.ref D))) = _
    rw [hm]
    have ne2 : (Value.ref D == Value.ref C) = false := by
      have : ¬ D = C := fun z => e z.symm
      simpa using this
    have ne3 : ¬ D = C := fun z => e z.symm
    simp [List.contains_cons, ne2, e, ne3]
theorem kit_bt {K : PySem.W.Frag} {C : Addr} {bm : List Value} {fs : List Str} {T : String} (x : XC K C bm fs) (hT : PySem.W.kitMeta T = true) : PySem.W.kitOne K (.ref C) (.type T) = some (bm.contains (.type T)) := by
  unfold PySem.W.kitOne
  have ne : (Value.ref C == Value.type T) = false := beq_eq_false_iff_ne.mpr (fun z => by cases z)
  rw [ne, if_neg Bool.false_ne_true]
  obtain ⟨cd, hc, hm⟩ := x.cd
  show (if PySem.W.kitMeta T = true then PySem.W.subIn K (.ref C) (.type T) else none) = _
  rw [if_pos hT]
  show PySem.W.mroIn K C (.type T) = _
  unfold PySem.W.mroIn
  rw [hc]
  show (if cd.mro.isEmpty = true then none else some (cd.mro.contains (.type T))) = _
  rw [hm]
  have ne2 : (Value.type T == Value.ref C) = false := beq_eq_false_iff_ne.mpr (fun z => by cases z)
  simp [List.contains_cons, ne2]
end Hm
set_option maxHeartbeats 1000000
/-! own exception classes -/
namespace Dl
open PySem PySem.Spec PyProof.Rows L2 Lcn Sq Hm
def ve : List Value := [.type "ValueError", .type "Exception", .type "BaseException", .type "object"]
/-- an own exception class without an own __init__; bm: what it stands under -/
structure X0 (K : PySem.W.Frag) (mg : Str → Option Value) (x : Str) (bm : List Value) where
  C : Addr
  m : mg x = some (.ref C)
  X : XC K C bm []
  q : PySem.W.excIn K C ve "ValueError.__new__" = true
/-- .. whose __init__ keeps its arguments -/
structure X1 (K : PySem.W.Frag) (mg : Str → Option Value) (x qual : Str) (st : Stmt) (ps fs : List Str) (bm : List Value) where
  C : Addr
  m : mg x = some (.ref C)
  X : XC K C bm fs
  f : Addr
  fd : FuncData
  F : FunD K "__init__" qual (defArgs st) (defBody st) (defScope st) [] [] f fd
  iC : PySem.W.findIn K (.ref C) "__init__" = some (some (.ref f))
  tI : PySem.W.typeIn K (.ref f) = some (.type "function")
  b : L2.Binds K fd ps []
theorem X0.rs {X : Cx} {K : PySem.W.Frag} {mg : Str → Option Value} {x : Str} {bm : List Value} (E : X0 K mg x bm) (hK : X.K = K := by rfl) : Raises X (.ref E.C) := by
  subst hK
  exact raises_own E.X.ox.exC E.X.ox.tyC
/-- except D, of an exception of class C -/
theorem exm_own {K : PySem.W.Frag} {C D : Addr} {bm bm' : List Value} {fs fs' : List Str} (x : XC K C bm fs) (y : XC K D bm' fs') : PySem.W.exmOne K (.ref C) (.ref D) = some (decide (C = D) || bm.contains (.ref D)) := by
  refine PySem.W.exm_ref y.ox.exC y.xc.hd y.ox.tyC ?_
  obtain ⟨cd, hc, hm⟩ := x.cd
  show (PySem.W.clsIn K C).bind _ = _
  rw [hc, Option.bind_some, hm]
  show some ((Value.ref C :: bm).contains (.ref D)) = _
  rw [List.contains_cons]
  congr 2
  by_cases e : C = D
  · subst e
    simp
  · have : ¬ D = C := fun z => e z.symm
    simp [e, this]
end Dl
set_option maxHeartbeats 1000000
/-! a lambda without parameters that is handed to a def beside further arguments; the def calls it once, in a try -/
namespace Dl
open PySem PySem.Spec PyProof.Rows L2 Lcn Sq LamX
section
variable {X : Cx} {pins : List (Addr × Obj)} {σ : L2.St} {H : Hp} {s : Shared}
abbrev lamQ (X : Cx) : Str := X.env.qual ++ "<lambda>"
abbrev lamO (X : Cx) (params : Arguments) (body : Expr) (sc : Scope) (pm : Value) (c' : Addr) (ct : Value) : Obj := PySem.W.kla_obj "<lambda>" (lamQ X) params body sc (cloFrom X.env.cells sc.names []) pm c' ct
/-- the lambda is made; nothing but its maker's table changes -/
theorem lam_new {c P : Addr} {params : Arguments} {body : Expr} {sc : Scope} {pos : Pos} {E Q : Value → Shared → Prop} (I : Inv X pins σ H s) (tb : TabB X.base X.mg c P) (hc : X.env.code = .ref c) (tS : TabS H P (lamQ X)) (hd : defaultsOf params X.env = ([], [])) (hf : ∀ y ∈ sc.names, y.2 = .free → ∃ a, X.env.cells.lookup y.1 = some a)
    (k : ∀ (f c' : Addr) (pm ct : Value) (H1 : Hp) (s1 : Shared), Inv X pins σ H1 s1 → TabS H1 P (lamQ X) → (∀ b o, b ≠ P → H b = some o → H1 b = some o) → s1.heap.get? f = some (lamO X params body sc pm c' ct) → H1 f = none → f ∉ frs X.stack → H1 c' = some (CodeO c' (lamQ X)) → Q (.ref f) s1) :
    wpAny (model X.prog X.w) X.A (eval (.Lambda params body sc pos) X.env) Q E s := by
  obtain ⟨vs, atP, tri, known⟩ := tS
  have here := I.hok P _ atP
  have young : ∀ f, s.heap.objs.size ≤ f → f ∉ frs X.stack := by
    intro f le m
    cases List.mem_cons.mp (I.stkSub f m) with
    | inl e => exact absurd (e ▸ I.lt : f < s.heap.objs.size) (Nat.not_lt.mpr le)
    | inr m => exact I.nofs le m
  refine PySem.W.kla_eval hd ?_
  match look : codeAmong pos vs.toList with
  | some v =>
    obtain ⟨c', rfl, co⟩ := known pos v look
    refine PySem.W.kla_makeFunctionHit (ps := vs) (closure_ok hf) I.ok.glob
      (I.mod.glob.keeps I.bk) hc (tb.code.keeps I.bk) here tri look (tb.bm.keeps I.bk) fun ct h1 tk hx le => ?_
    refine k h1.objs.size c' ((X.mg "__name__").getD .none) ct H _ (I.kept fun b o g => Heap.get?_push_of_some _ (hx b o g)) ⟨vs, atP, tri, known⟩ (fun b o _ g => g) (Heap.get?_push_size _ rfl) (I.hok.fresh le) (young _ le) co
  | none =>
    refine PySem.W.kla_makeFunction (ps := vs) (closure_ok hf) I.ok.glob
      (I.mod.glob.keeps I.bk) hc (tb.code.keeps I.bk) here tri look tb.gP (tb.bm.keeps I.bk) fun c' ct h1 tk hx le lt rec' tab => ?_
    obtain ⟨d, oc, us, t, ed, g1, g2, g3⟩ := rec'
    cases ed
    have n' : H c' = none := I.hok.fresh le
    have nP : P ≠ c' := fun e => by rw [e, n'] at atP; cases atP
    have J := inv_table (t' := tk) (more := #[rawInt pos.line, rawInt pos.col, .ref c']) (h' := h1.push (lamO X params body sc ((X.mg "__name__").getD .none) c' ct)) I atP
      (fun b o nb g => Heap.get?_push_of_some _ (hx b o nb g)) (Heap.get?_push_of_some _ tab) le ⟨oc, us, t, Heap.get?_push_of_some _ g1, g2, g3⟩
    have stay : ∀ b o, b ≠ P → H b = some o → upd (upd H P (.tbl (vs ++ #[rawInt pos.line, rawInt pos.col, .ref c']))) c' (CodeO c' (lamQ X)) b = some o := fun b o nb g => by
      rw [upd_ne (fun e => by rw [e, n'] at g; cases g), upd_ne nb]
      exact g
    have le2 : s.heap.objs.size ≤ h1.objs.size := Nat.le_of_lt (Nat.lt_of_le_of_lt le lt)
    have lst : (vs ++ #[rawInt pos.line, rawInt pos.col, .ref c']).toList = vs.toList ++ [rawInt pos.line, rawInt pos.col, .ref c'] := by rw [Array.toList_append]
    refine k h1.objs.size c' ((X.mg "__name__").getD .none) ct _ _ J ⟨_, by rw [upd_ne nP, upd_same], ?_, fun p v hv => ?_⟩ stay (Heap.get?_push_size _ rfl) ?_ (young _ le2) upd_same
    · rw [lst]
      exact PySem.TriplesOk_snoc _ _ _ _ tri
    · rw [lst] at hv
      rcases among_app _ tri hv with z | z
      · obtain ⟨c0, e1, e2⟩ := known p v z
        exact ⟨c0, e1, stay _ _ (fun e => by rw [e, atP] at e2; cases e2) e2⟩
      · exact ⟨c', z, upd_same⟩
    · rw [upd_ne (Nat.ne_of_gt lt), upd_ne (fun e => ?_)]
      · exact I.hok.fresh le2
      · exact absurd (e ▸ Heap.lt_size here : h1.objs.size < s.heap.objs.size) (Nat.not_lt.mpr le2)
/-- the lambda is called in the def that got it -/
theorem lam_act {Ng : List Str} {qg : Str} {sg : Scope} {g f c' : Addr} {cg pm ct : Value} {params : Arguments} {body : Expr} {sc : Scope} {k i : Nat} {a : Str} {pn : List (Addr × Obj)} {xe : Value → Shared → Prop} {W : WX} {tb : XK → TE} {p1 p2 : Pos}
    (I : Inv X pins σ H s) (L : LamS X.env.scope sc) (hf : s.heap.get? f = some (lamO X params body sc pm c' ct)) (nf : H f = none) (ff : f ∉ frs X.stack)
    (bind : bindArgs (PySem.W.kla_fn "<lambda>" (lamQ X) params body sc (cloFrom X.env.cells sc.names []) pm (.ref c') ct) ⟨[], []⟩ = pure [])
    (tk : Takes ((cxOf C8.CX0 X.prog X.w X.K X.mg X.base Ng qg sg g cg X.A X.stack s H C8.E0).tr pn xe) W) (hr : Room (k + 1) (X.A.deeper (envOfC qg sg s.heap.objs.size g cg)))
    (bd : ∀ (A : Around) (up : List Env) (s : Shared) (H : Hp) (E : XK), Room k (A.deeper (lamEnv X sc s.heap.objs.size f c')) → PE (lamCx X A up s H E sc f c') body (tb E))
    (hN : Ng[i]? = some a) (hv : Vis sg a) (hd : (a == ("__debug__" : Str)) = false := by decide) (hcd : (a == ("__classdict__" : Str)) = false := by decide) :
    PE ((cxOf C8.CX0 X.prog X.w X.K X.mg X.base Ng qg sg g cg X.A X.stack s H C8.E0).tr pn xe) (.Call (.Name a p1) [] [] p2)
      (fun τ HZ Q => τ[i]? = some (some (.ref f)) ∧ HZ c' = some (CodeO c' (lamQ X)) ∧ tb (fun cls d H' => W cls d τ H') σ HZ Q) := by
  refine ⟨fun pz sz τ HZ Q IZ q => ?_⟩
  obtain ⟨q1, q2, q3⟩ := q
  refine wpAny_Call_Name_kw (thn ((pe_var (pos := p1) (i := i) hN hv hd hcd).run pz sz τ HZ (fun v H1 => v = .ref f ∧ H1 = HZ) IZ ⟨_, q1, rfl, rfl⟩) ?_)
  rintro u s1 ⟨v, H1, I1, rv, rfl, rfl⟩
  cases (show u = Value.ref f from rv)
  have at1 : s1.heap.get? f = some (lamO X params body sc pm c' ct) := I1.base.keep f _ hf nf ff (fun z => nomatch (show f ∈ ([] : List Addr) from z))
  have ut : Un (frs X.stack) [] H H1 s.heap s1.heap := I1.base
  obtain ⟨⟨oc, us, t, o1, o2, o3⟩, _⟩ := I1.hok c' _ q2
  refine PySem.W.callWith_F0 ⟨_, _, _, _, at1⟩ (wpAny_call (codeAny_mono (R := CR (L2.CX X.prog X.w) (envOfC qg sg s.heap.objs.size g cg :: X.stack) X.prog X.w H1 s1 Q fun cls d H' => W cls d τ H') ?_ ?_))
  · refine PySem.W.kla_callFunE hr.depth at1 rfl L.co L.gen rfl ⟨c', oc, us, t, rfl, o1, o2, o3⟩ ?_
    show wpAny _ _ (bindArgs _ ⟨[], []⟩) _ _ _
    rw [bind]
    refine wpAny_pure (wpAny_newFunctionEnv (fun y hy => (L.own y hy).2) (fun y hy => nomatch hy) (fun h2 ns same => ⟨I1.nolimit.fresh _ same, ?_⟩) L.kind)
    have kp : ∀ b o, s1.heap.get? b = some o → h2.get? b = some o := fun b o z => same.extBut b o (Nat.ne_of_lt (Heap.lt_size z)) (Heap.get?_push_of_some _ z)
    have J : Inv (lamCx X (X.A.deeper (envOfC qg sg s.heap.objs.size g cg)) (envOfC qg sg s.heap.objs.size g cg :: X.stack) s1 H1 (fun cls d H' => W cls d τ H') sc f c') [] σ H1 { s1 with heap := h2, toks := s1.toks + ([] : List (Str × Value)).length } := lam_start2 I L I1.env0 hr.hd ut ns kp
    refine PySem.W.kla_codeExpr (wpAny_mono ((bd _ _ s1 H1 _ (hr.deeper _)).run [] _ _ H1 Q J q3) ?_ fun e s2 z => z)
    rintro u s2 ⟨w, H2, J2, rw', z⟩
    exact ⟨w, H2, J2.os, J2.bare, J2.base, J2.hok, rw', z⟩
  · intro r s2 z
    match r, z with
    | .error e, z => exact passAt tk τ pz H1 s1 e s2 I1 z
    | .ok (.ret u), z => exact I1.after z
    | .ok .next, z => exact z.elim
    | .ok .brk, z => exact z.elim
    | .ok .cont, z => exact z.elim
/-- the context of the def that gets the lambda -/
abbrev lamZ (X : Cx) (Ng : List Str) (x : Str) (sg : Scope) (g : Addr) (cg : Value) (s : Shared) (H : Hp) : Cx := cxOf C8.CX0 X.prog X.w X.K X.mg X.base Ng x sg g cg X.A X.stack s H C8.E0
def lamTE (P : Addr) (q : Str) (n : Nat) (Ng : List Str) (ta : TA) (tB : Addr → Addr → L2.St → TS) : TE := fun σ H Q => TabS H P q ∧ ∀ H1, TabS H1 P q → (∀ b o, b ≠ P → H b = some o → H1 b = some o) → ta σ H1 fun vs H2 => vs.length + 1 = n ∧
  ∀ f c', H1 c' = some (CodeO c' q) → H2 f = none → tB f c' σ { nx := fun _ H' => Q .non H', rt := Q } (L2.start Ng (.ref f :: vs)) H2
/-- x(lambda: body, e, ..) -/
theorem pe_lam {x a : Str} {g c P : Addr} {k : Nat} {pg : Arguments} {bg : List Stmt} {sg : Scope} {fd : FuncData} {Ng ps : List Str} {params : Arguments} {body : Expr} {sc : Scope} {e : Expr} {es : List Expr} {tb : XK → TE} {ta : TA} {tB : Addr → Addr → L2.St → TS} {p lpos pos p1 p2 : Pos}
    (hg : Gl X x) (hm : X.mg x = some (.ref g)) (F : FunD X.K x x pg bg sg [] [] g fd) (hb : L2.Binds X.K fd ps []) (Sg : FnScope Ng ps sg) (hNg : Ng[0]? = some a) (hva : Vis sg a)
    (hB : ∀ (cg : Value) (s : Shared) (H : Hp) (f c' : Addr) (σ : L2.St), (∀ (pn : List (Addr × Obj)) (xe : Value → Shared → Prop) (W : WX), Takes ((lamZ X Ng x sg g cg s H).tr pn xe) W →
        PE ((lamZ X Ng x sg g cg s H).tr pn xe) (.Call (.Name a p1) [] [] p2) (fun τ HZ Q => τ[0]? = some (some (.ref f)) ∧ HZ c' = some (CodeO c' (lamQ X)) ∧ tb (fun cls d H' => W cls d τ H') σ HZ Q)) → PSs (lamZ X Ng x sg g cg s H).nox bg (tB f c' σ))
    (tm : TabB X.base X.mg c P) (hc : X.env.code = .ref c) (hr : Room (k + 2) X.A) (L : LamS X.env.scope sc) (hd : defaultsOf params X.env = ([], []))
    (bind : ∀ (q : Str) (cl : List (Str × Addr)) (pm cv ct : Value), bindArgs (PySem.W.kla_fn "<lambda>" q params body sc cl pm cv ct) ⟨[], []⟩ = pure [])
    (bd : ∀ (A : Around) (up : List Env) (s : Shared) (H : Hp) (E : XK) (f c' : Addr), Room k (A.deeper (lamEnv X sc s.heap.objs.size f c')) → PE (lamCx X A up s H E sc f c') body (tb E))
    (ha : PA X (e :: es) ta)
    (hdb : (x == ("__debug__" : Str)) = false := by decide) (hda : (a == ("__debug__" : Str)) = false := by decide) (hca : (a == ("__classdict__" : Str)) = false := by decide)
    (he : starEach (.Lambda params body sc lpos :: e :: es) X.env = (false, eval (.Lambda params body sc lpos) X.env) :: starEach (e :: es) X.env := by rfl) (hpl : (backTo pos (starEach (e :: es) X.env)).any (·.1) = false := by rfl)
    (hbk : backTo pos ((false, eval (.Lambda params body sc lpos) X.env) :: starEach (e :: es) X.env) = (false, eval (.Lambda params body sc lpos) X.env) :: backTo pos (starEach (e :: es) X.env) := by rfl) :
    PE X (.Call (.Name x p) (.Lambda params body sc lpos :: e :: es) [] pos) (lamTE P (lamQ X) ps.length Ng ta tB) := by
  refine ⟨fun pins s σ H Q I q => ?_⟩
  obtain ⟨tS, q⟩ := q
  refine wpAny_Call_Name_kw (ld_glob I hg hm ?_ hdb)
  refine PySem.W.callWith_K (h₀ := X.base) I.ok.mod.kin F.kp ?_ he hpl
  rw [he, hbk]
  refine Calls.spliced_cons (lam_new I tm hc tS hd (L.has I.ok) fun f c' pm ct H1 s1 I1 t1 keep at_f nf ff co => ?_)
  have I1p : Inv X ((f, lamO X params body sc pm c' ct) :: pins) σ H1 s1 := I1.pins_of fun r hr => by
    rcases List.mem_cons.mp hr with rfl | hr
    · refine ⟨at_f, nf, fun e => ?_, fun m => ?_, fun v => Data.noConfusion⟩
      · obtain ⟨m, ⟨o, es, ep, ho, hd', _⟩, _⟩ := I1.loc
        have e : f = X.env.locals := e
        rw [← e, at_f] at ho
        cases ho
        cases hd'
      · obtain ⟨_, o, ho, hn⟩ := I1.ok.funs.mem m
        refine ff ?_
        rcases I1.ok.stk with z | ⟨z, _⟩
        · rw [z]
          exact m
        · rw [z]
          unfold frs
          rw [List.filterMap_cons]
          split
          · exact m
          · exact List.mem_cons_of_mem _ m
    · exact I1.pin r (List.mem_append_right _ hr)
  refine thn (ha.run pos _ s1 σ H1 _ I1p (q H1 t1 keep)) ?_
  rintro us s2 ⟨vs, H2, I2, rv, hl, q2⟩
  obtain ⟨at2, n2, _⟩ := I2.pin (f, lamO X params body sc pm c' ct) (List.mem_append_right _ List.mem_cons_self)
  have I2' : Inv X pins σ H2 s2 := I2.pins_of fun r hr => I2.pin r (List.mem_append_right _ (List.mem_cons_of_mem _ hr))
  refine ⟨I2'.kIn, ?_⟩
  obtain ⟨_, _, dV, kV, doc, pm', an, cg, ct', _, rfl, lk, hcd, _, _⟩ := F.ex
  have rc : codeAny (model X.prog X.w) X.A (.call (.ref g) ⟨.ref f :: us, []⟩) (CR C8.CX0 X.stack X.prog X.w H2 s2 Q C8.E0) s2 := by
    refine run_ofS (N := Ng) (ps := ps) (us := .ref f :: us) (vs := .ref f :: vs) lk hcd Sg hr I2'.env0 ?_ (.cons rfl rv) (by rw [List.length_cons]; exact hl) fun hr' => ?_
    · have := hb s2 (.ref f :: us) I2'.kIn (by rw [List.append_nil, List.length_cons, ← rv.length]; exact hl)
      rw [List.append_nil] at this
      exact this
    · exact ⟨_, (hB cg s2 H2 f c' σ fun pn xe W tk => lam_act (i := 0) I2' L at2 n2 ff (bind _ _ _ _ _) tk hr' (fun A up s H E hr2 => bd A up s H E f c' hr2) hNg hva hda hca).nox, q2 f c' co n2⟩
  refine wpAny_call (codeAny_mono rc ?_)
  intro r s3 z
  match r, z with
  | .error e, z => exact (show False from z).elim
  | .ok (.ret u), z => exact I2'.after z
  | .ok .next, z => exact z.elim
  | .ok .brk, z => exact z.elim
  | .ok .cont, z => exact z.elim
end
end Dl
namespace Dl
open PySem PySem.Spec PyProof.Rows L2 Lcn Sq LamX
def actT (q : Str) (tb : XK → TE) (f c' : Addr) (σ : L2.St) (W : WX) : TE := fun τ HZ Q => τ[0]? = some (some (.ref f)) ∧ HZ c' = some (CodeO c' q) ∧ tb (fun cls d H' => W cls d τ H') σ HZ Q
structure LamJ (ι : Type) where
  i : ι
  cg : Value
  s : Shared
  H : Hp
structure LamB (ι : Type) (X : ι → Cx) (sc : Scope) (k : Nat) where
  i : ι
  A : Around
  up : List Env
  s : Shared
  H : Hp
  E : XK
  f : Addr
  c' : Addr
  hr : Room k (A.deeper (lamEnv (X i) sc s.heap.objs.size f c'))
abbrev lamBX {ι : Type} (X : ι → Cx) (sc : Scope) (k : Nat) (b : LamB ι X sc k) : Cx := lamCx (X b.i) b.A b.up b.s b.H b.E sc b.f b.c'
def dLam (K : PySem.W.Frag) (i0 ie n : Nat) (P : Addr) (q : Str) (Ng : List Str) (c : Value) (ea : EvA) (bx : EvX) (uv : XD → EvS) : EvE := fun δ Q => δ[i0]? = some (.srt [(P, q)]) ∧ ea δ fun ds => ds.length + 1 = n ∧ bx δ (fun _ => False) fun y => PySem.W.exmOne K (.ref y.C) c = some true ∧ ie < (st0 Ng (.any :: ds.map Sl.val)).length ∧
  uv y { nx := fun _ => False, rt := fun d => ∃ b, d = .bl b ∧ Q (.bl b) } ((st0 Ng (.any :: ds.map Sl.val)).set ie .any)
section
variable {ι : Type} {K : PySem.W.Frag} {X : ι → Cx} {z : Bool}
/-- x(lambda: body, e, ..), x: def x(a, ..): try: a() / except xn as n: suite .. -/
theorem de_lam {i0 ie : Nat} {x a xn n : Str} {g c P : Addr} {cC : Value} {k : Nat} {pg : Arguments} {sg : Scope} {fd : FuncData} {q : Str} {Ng ps : List Str} {params : Arguments} {body : Expr} {sc : Scope} {e : Expr} {es : List Expr} {b₀ : Stmt} {suite rest : List Stmt} {tr : TS} {ea : EvA} {bx : EvX} {uv : XD → EvS} {p lpos pos p1 p2 p3 p4 np pos' : Pos}
    (hK : ∀ i, (X i).K = K) (hq : ∀ i, lamQ (X i) = q) (hg : ∀ i, Gl (X i) x) (hm : ∀ i, (X i).mg x = some (.ref g)) (F : FunD K x x pg (.Try [.Expr (.Call (.Name a p1) [] [] p2) p3] [.ExceptHandler (some (.Name xn np)) (some n) (b₀ :: suite) pos'] [] [] p4 :: rest) sg [] [] g fd)
    (hb : L2.Binds K fd ps []) (Sg : FnScope Ng ps sg) (hNg : Ng[0]? = some a) (hva : Vis sg a) (hNd : Ng.Nodup) (hie : Ng[ie]? = some n) (hln : sg.names.lookup n = some .local) (hcn : ∀ j : LamJ ι, Names (lamZ (X j.i) Ng x sg g j.cg j.s j.H).nox xn cC)
    (hu : DUSs K (fun j : LamJ ι => (lamZ (X j.i) Ng x sg g j.cg j.s j.H).nox) (some ie) (b₀ :: suite) uv) (hre : ∀ j : LamJ ι, PSs (lamZ (X j.i) Ng x sg g j.cg j.s j.H).nox rest tr)
    (tm : ∀ i, TabB (X i).base (X i).mg c P) (hc : ∀ i, (X i).env.code = .ref c) (hr : ∀ i, Room (k + 2) (X i).A) (L : ∀ i, LamS (X i).env.scope sc) (hd : ∀ i, defaultsOf params (X i).env = ([], []))
    (bind : ∀ (q : Str) (cl : List (Str × Addr)) (pm cv ct : Value), bindArgs (PySem.W.kla_fn "<lambda>" q params body sc cl pm cv ct) ⟨[], []⟩ = pure [])
    (hx : DEX false K (lamBX X sc k) body bx) (ha : DA z K X (e :: es) ea)
    (hdb : (x == ("__debug__" : Str)) = false := by decide) (hda : (a == ("__debug__" : Str)) = false := by decide) (hca : (a == ("__classdict__" : Str)) = false := by decide)
    (he : ∀ i, starEach (.Lambda params body sc lpos :: e :: es) (X i).env = (false, eval (.Lambda params body sc lpos) (X i).env) :: starEach (e :: es) (X i).env := by intro _; rfl) (hpl : ∀ i, (backTo pos (starEach (e :: es) (X i).env)).any (·.1) = false := by intro _; rfl)
    (hbk : ∀ i, backTo pos ((false, eval (.Lambda params body sc lpos) (X i).env) :: starEach (e :: es) (X i).env) = (false, eval (.Lambda params body sc lpos) (X i).env) :: backTo pos (starEach (e :: es) (X i).env) := by intro _; rfl)
    (hsw : ∀ j : LamJ ι, swapsWith (.Call (.Name a p1) [] [] p2) none p3.line (lamZ (X j.i) Ng x sg g j.cg j.s j.H).env = pure false := by intro _; rfl) :
    DE z K X (.Call (.Name x p) (.Lambda params body sc lpos :: e :: es) [] pos) (dLam K i0 ie ps.length P q Ng cC ea bx uv) := by
  obtain ⟨ta, pa, va⟩ := ha
  obtain ⟨te, pe, ve⟩ := hx
  obtain ⟨u, pu, vu⟩ := hu
  refine ⟨lamTE P q ps.length Ng ta fun f c' σ => tSeq (fun D τ H => tDrop (actT q (fun E => te fun cls d _ H' => E cls d H') f c' σ (wAs K cC ie u (fun _ _ _ _ => False) D)) D τ H) tr, fun i => ?_, ?_⟩
  · have key := pe_lam (X := X i) (p := p) (pos := pos) (lpos := lpos) (tb := fun E => te fun cls d _ H' => E cls d H') (tB := fun f c' σ => tSeq (fun D τ H => tDrop (actT q (fun E => te fun cls d _ H' => E cls d H') f c' σ (wAs K cC ie u (fun _ _ _ _ => False) D)) D τ H) tr) (hg i) (hm i) ((hK i).symm ▸ F) ((hK i).symm ▸ hb) Sg hNg hva
      (fun cg s H f c' σ act => pss_cons (hK i ▸ ps_try_as (X := (lamZ (X i) Ng x sg g cg s H).nox) rfl rfl hNd hie hln (hcn ⟨i, cg, s, H⟩) tk0 (fun W pn xe tk po => pss_one (ps_expr (hq i ▸ act pn xe W tk) (hsw ⟨i, cg, s, H⟩))) (fun a oe cls d pn hz hf => pu ⟨⟨i, cg, s, H⟩, a, oe, cls, d, pn, hz, hf⟩)) (hre ⟨i, cg, s, H⟩))
      (tm i) (hc i) (hr i) (L i) (hd i) bind (fun A up s H E f c' hr' => pe ⟨i, A, up, s, H, E, f, c', hr'⟩ _ (takes_of rfl rfl rfl rfl)) (pa i) hdb hda hca (he i) (hpl i) (hbk i)
    rw [hq i] at key
    exact key
  · intro C σ δ H Q Qd kk s e qq
    subst kk
    obtain ⟨hT, e⟩ := e
    obtain ⟨zz, hS, _, hz⟩ := s.sl i0 _ hT
    have g0 : Gs (some zz) H := hS ▸ s.g
    obtain ⟨⟨m1, m2, m3, sr⟩, tt⟩ := g0
    have tS : TabS H P q := tt (P, q) (by rw [hz]; exact List.mem_cons_self)
    refine ⟨tS, fun H1 t1 keep => ?_⟩
    obtain ⟨vs0, atP, _, _⟩ := tS
    have e1 : Stp C.S H H1 := by
      rw [hS]
      refine ⟨fun b o nc x => keep b o (fun eb => nc (.inr ?_)) x, fun _ => ⟨⟨m1, m2, m3, sr.ok, keep _ _ (fun eb => ?_) sr.at_, keep _ _ (fun eb => ?_) sr.ls, sr.ne⟩, fun r hr => ?_⟩⟩
      · rw [hz, eb]
        exact List.mem_cons_self
      · have := sr.at_
        rw [eb, atP] at this
        cases this
      · have := sr.ls
        rw [eb, atP] at this
        cases this
      · rw [hz] at hr
        rcases List.mem_cons.mp hr with rfl | hr
        · exact t1
        · cases hr
    have s1 := s.step e1
    refine va C σ δ H1 _ _ rfl s1 e fun vs ds H2 e2 r2 e => ?_
    obtain ⟨hl, e⟩ := e
    refine ⟨by rw [r2.l]; exact hl, fun f c' co nf => ?_⟩
    have co2 : H2 c' = some (CodeO c' q) := e2.keep c' _ (fun ch => s1.g.code co (ch_sa ch)) co
    have s2 := s1.step e2
    have rv : RepL C.K C.av H2 vs ds := r2.mono fun b hb => by
      cases z
      · exact hb
      · exact .inl hb
    have so : Sok ⟨C.K, C.S, C.av, H2, []⟩ H2 (L2.start Ng (.ref f :: vs)) (st0 Ng (.any :: ds.map Sl.val)) := by
      have a0 : ArgsOk C.S C.K C.av H2 [V.non] [Sl.val .non] := args_cons (s := .val .non) .non ⟨rfl, fun i v s h1 h2 => by cases i <;> cases h1⟩
      exact (sok_start (N := Ng) s2.avs s2.ava s2.g (a0.app rv)).set (i := 0) (v := .ref f) (u := .any) (fun _ z => z) fun _ _ => trivial
    refine ⟨rfl, co2, ?_⟩
    refine ve C σ δ H2 _ (fun _ => False) _ _ rfl s2 e (fun _ _ _ _ _ zf => zf.elim) fun cls d H3 y e3 r3 hy => ?_
    obtain ⟨h1, h2, h3⟩ := hy
    refine ⟨true, by rw [r3.c]; exact h1, fun _ a na => ?_, fun zf => nomatch zf⟩
    have so3 := so.step e3
    have sn : Sok ⟨C.K, C.S, C.av, H2, []⟩ H3 ((L2.start Ng (.ref f :: vs)).set ie (some (.ref a))) ((st0 Ng (.any :: ds.map Sl.val)).set ie .any) := so3.set (fun _ z => z) fun _ _ => trivial
    refine vu ⟨C.K, C.S, C.av, H2, []⟩ _ _ H3 _ _ a cls d y rfl sn (fun i' e => ?_) r3 h3 ⟨fun _ _ _ _ zf => zf.elim, fun v d' H4 e4 r4 gh hh => ?_, fun _ _ _ _ zf => zf.elim, fun _ _ _ _ zf => zf.elim⟩
    · cases e
      rw [List.getElem?_set_self (by rw [so.len]; exact h2)]
    · obtain ⟨b, rfl, hh⟩ := hh
      rw [r4.bl_inv]
      exact qq _ _ H4 (e1.trans (e2.trans e4)) (.bl b) hh
end
end Dl
/-! a def whose code object is known -/
namespace Gd
open PySem PySem.Spec PyProof.Rows L2
variable {P : Program} {w : World} {K : PySem.W.Frag} {mg : Str → Option Value} {base : Heap} {CX : CXT}
theorem fund_gc {name qual : Str} {params : Arguments} {body : List Stmt} {scope : Scope} {dvs : List V} {kws : List (Str × V)} {f : Addr} {fd : FuncData} {N ps : List Str} {k : Nat} {sp : Sp} {c0 : Value} (F : FunD K name qual params body scope dvs kws f fd) (S : FnScope N ps scope) (hc : fd.code = c0)
    (ln : ∀ xs H Q E, sp xs H Q E → xs.length = ps.length)
    (bd : ∀ (A : Around) (up : List Env) (s : Shared) (H : Hp) (xs : List V) (Q : VK) (E : XK), A.guards = some [] → Room k (A.deeper (envOfC qual scope s.heap.objs.size f c0)) → sp xs H Q E →
      ∃ t, PSs (cxOf CX P w K mg base N qual scope f c0 A up s H E) body t ∧ t { nx := fun _ H' => Q .non H', rt := Q } (start N xs) H) : FnG P w K mg base CX (k + 1) f fd ps sp := by
  obtain ⟨_, _, dV, kV, doc, pm, an, cd, ct, _, rfl, lk, hcd, _, _⟩ := F.ex
  have hc : cd = c0 := hc
  subst hc
  refine ⟨ln, fun A up s H ar us xs Q E hg hr e0 hb rv hs => ?_⟩
  have kin : K.In s.heap := e0.mod.kin.keeps fun b o z => (e0.bs b o z).1
  have nolim : s.heap.NoLimit := e0.mod.nolimit.keeps fun b o z => (e0.bs b o z).1
  have kinds : ∀ y ∈ ps.zip us, scope.names.lookup y.1 = some .local ∨ (scope.names.lookup y.1 = some .cell ∧ ((cellsFrom (s.heap.objs.size + 1) scope.names []).lookup y.1).isSome = true) := by
    intro y hy
    refine (S.par y.1 (List.of_mem_zip (a := y.1) (b := y.2) hy).1).imp id fun z => ⟨z, ?_⟩
    exact PySem.W.cellsFrom_some _ _ _ (.inl z)
  refine codeAny_call_function hr.depth (kin _ _ lk) rfl S.co S.gen rfl (PySem.W.codeRec_of kin hcd) (hb _ _ _ _ (wpAny_newFunctionEnv_cells S.kind kinds fun env he s1 fresh => ?_))
  subst he
  refine ⟨nolim.keeps fresh.toInCall.keep, codeAny_func ?_⟩
  obtain ⟨t, ps', hq⟩ := bd A up s H xs Q E hg (hr.deeper _) hs
  have I := inv_start (CX := CX) (E := E) S hr.hd e0 (ln _ _ _ _ hs) rv fresh
  refine wpAny_mono (ps'.run [] s1 (start N xs) H _ I hq) (fun fl s2 z => ?_) fun e s2 z => z
  cases fl with
  | ret u =>
    obtain ⟨v, _, H2, J, r, q⟩ := z
    exact ⟨v, H2, J.os, J.bare, J.base, J.hok, r, q⟩
  | next =>
    obtain ⟨_, H2, J, q⟩ := z
    exact ⟨V.non, H2, J.os, J.bare, J.base, J.hok, rfl, q⟩
  | brk => exact z.elim fun _ z => z.elim fun _ z => z.2.elim
  | cont => exact z.elim fun _ z => z.elim fun _ z => z.2.elim
end Gd
namespace Dl
open PySem PySem.Spec PyProof.Rows L2 Lcn Sq
section
variable {P : Program} {w : World} {K : PySem.W.Frag} {mg : Str → Option Value} {base : Heap}
theorem fn_dgc {x qual : Str} {params : Arguments} {body : List Stmt} {scope : Scope} {dvs : List V} {kws : List (Str × V)} {f : Addr} {fd : FuncData} {N ps : List Str} {k : Nat} {sp : Spc} {sv : EvS} {c0 : Value} (F : FunD K x qual params body scope dvs kws f fd) (S : FnScope N ps scope) (hc : fd.code = c0)
    (hbody : ∀ (A : Around) (outer : List Env) (s : Shared) (H : Hp) (E : XK), (A.deeper (PyProof.Rows.envOfC qual scope s.heap.objs.size f c0)).guards = some [] → Room k (A.deeper (PyProof.Rows.envOfC qual scope s.heap.objs.size f c0)) → DSs K (fun _ : Unit => (cxOf CX0 P w K mg base N qual scope f c0 A outer s H E).nox) body sv)
    (hsp : ∀ (δ : List Sl) (Qd : Dt → Prop), δ.length = ps.length → sp δ Qd → sv { nx := fun _ => Qd .non, rt := Qd } (st0 N δ)) : Gd.FnG P w K mg base CX0 (k + 1) f fd ps (dsp K ps.length sp) := by
  refine Gd.fund_gc F S hc (fun vs H Q E h => ?_) fun A outer s H vs Q E hg hr h => ?_
  · obtain ⟨S, av, δ, Qd, _, _, _, a, l, _⟩ := h
    rw [a.l, l]
  · obtain ⟨S, av, δ, Qd, h1, h2, h3, a, l, hs, q⟩ := h
    obtain ⟨ts, p, v⟩ := hbody A outer s H E hg hr
    refine ⟨ts, (p ()).nox, v ⟨K, S, av, H, []⟩ _ _ H _ _ rfl (sok_start h1 h2 h3 a) (hsp δ Qd l hs) ⟨fun σ δ H' s e => q .non .non H' s.st .non e, fun x d H' e r _ qd => q x d H' e r qd, fun _ _ _ _ e => e.elim, fun _ _ _ _ e => e.elim⟩⟩
end
end Dl
set_option maxHeartbeats 1000000
/-! suites: and, comparisons with the exception's attributes -/
namespace Dl
open PySem PySem.Spec PyProof.Rows L2 Lcn Sq
section
variable {ι : Type} {K : PySem.W.Frag} {X : ι → Cx} {pos : Pos} {io : Option Nat} {a b : Expr} {rest : List Expr} {ev ev2 : XD → EvE}
theorem due_one {op} (h : DUE K X io a ev) : DUE K X io (.BoolOp op [a] pos) ev := by
  obtain ⟨t, p, v⟩ := h
  exact ⟨t, fun k => L2.pe_one (p k), v⟩
theorem due_and (h : DUE K X io a ev) (h2 : DUE K X io (.BoolOp .And (b :: rest) pos) ev2) : DUE K X io (.BoolOp .And (a :: b :: rest) pos) (fun x => dAndV (ev x) (ev2 x)) := by
  obtain ⟨t, p, v⟩ := h
  obtain ⟨t2, p2, v2⟩ := h2
  refine ⟨fun a cls d => tAndV (t a cls d) (t2 a cls d), fun k => pe_and (p k) (p2 k), fun C σ δ H Q Qd a cls d x k s at_ r e q => ?_⟩
  refine v C σ δ H _ _ a cls d x k s at_ r e fun y dy H1 e1 r1 e => ?_
  obtain ⟨c, rfl, e⟩ := e
  refine ⟨c, r1.bl_inv, ?_⟩
  cases c
  · exact q _ _ H1 e1 (.bl false) e
  · exact v2 C σ δ H1 Q Qd a cls d x k (s.step e1) at_ (r.step0 s e1) e fun v d H2 e2 r e => q v d H2 (e1.trans e2) r e
theorem due_cmp {op : CmpOp} {dr : Dt → Dt → (Dt → Prop) → Prop} (c : CmpD K (suX X) op dr) (ha : DUE K X io a ev) (hb : DUE K X io b ev2) (hm : behindInMarks op b = false) : DUE K X io (.Compare a [op] [b] pos) (fun x => dOp dr (ev x) (ev2 x)) := by
  obtain ⟨r, h1, h2⟩ := c.ex
  obtain ⟨ta, pa, va⟩ := ha
  obtain ⟨tb, pb, vb⟩ := hb
  refine ⟨fun a cls d => tOp r (ta a cls d) (tb a cls d), fun k => pe_cmpR (h1 k) (pa k) (pb k) hm, fun C σ δ H Q Qd a cls d x k s at_ rx e q => ?_⟩
  subst k
  refine va C σ δ H _ _ a cls d x rfl s at_ rx e fun y dy H1 e1 r1 e => ?_
  have s1 := s.step e1
  refine vb C σ δ H1 _ _ a cls d x rfl s1 at_ (rx.step0 s e1) e fun z dz H2 e2 r2 e => ?_
  have s2 := s1.step e2
  exact h2 C.av H2 y z dy dz Q Qd s2.al0 (rep_step0 s1 e2 r1) r2 e fun v d H3 e3 r3 qd => q v d H3 ((e1.trans e2).trans (Stp.of e3)) r3 qd
end
end Dl
set_option maxHeartbeats 4000000
/-! name = [elt for .. for ..] on one line, any number of clauses -/
namespace Lcn
open PySem PySem.Spec PyProof.Rows L2
section
variable {X : Cx} {elt : Expr} {more : List Comprehension} {scope : Scope} {pos pos' : Pos} {tg iter : Expr} {ifs : List Expr} {g : TG} {tt : TT} {t1 : TB} {vs1 : List Nat} {wi : TI} {own : List (Str × Nat)}
theorem lcn_core {pins : List (Addr × Obj)} {s : Shared} {σ : L2.St} {H : Hp} {Q : VK} {use : Option (Value → Sem Unit)} {Qf : Value → Shared → Prop} (hc : X.calm = true) (hN : X.N.Nodup) (I : Inv X pins σ H s) (hi : PI X tg iter wi) (ok : BlkOk X.N X.env.scope scope own) (hsync : ∀ g ∈ (⟨tg, iter, ifs, 0⟩ :: more : List Comprehension), g.is_async = 0)
    (hg : ∀ (s : Shared) (H : Hp) (C : Addr) (cl : List (Str × Addr)) (fp : List Addr), PG (X.blk s H scope (compEnvC scope cl C X.env) fp) tg g)
    (ht : ∀ (s : Shared) (H : Hp) (C : Addr) (cl : List (Str × Addr)) (fp : List Addr), PTs (X.blk s H scope (compEnvC scope cl C X.env) fp) ifs tt)
    (hb : ∀ (s : Shared) (H : Hp) (C : Addr) (cl : List (Str × Addr)) (fp : List Addr), PB (X.blk s H scope (compEnvC scope cl C X.env) fp) elt (⟨tg, iter, ifs, 0⟩ :: more) scope pos 1 vs1 t1)
    (hv : ∀ i ∈ vs1, i ∈ own.map (·.2)) (hs : ∀ x, foldedSetIterable iter X.env x = pure x) (h : tLcN wi g tt t1 (own.map (·.2)) σ H Q)
    (hRR : ∀ D C s' m H', Inv X pins σ H' s' → Q (.ref D) H' → s'.heap.Ns C m → FpOk X pins H' C → compPost (model X.prog X.w) X.A X.xe use Qf (.ref D) C (.ok .next) s') :
    wpAny (model X.prog X.w) X.A (comprehension (.ListComp elt (⟨tg, iter, ifs, 0⟩ :: more) scope pos) scope X.env pos' (newList []) false (eval iter X.env) use) Qf X.xe s := by
  have seen : ∀ y ∈ scope.names, y.2 = .free → ∃ c, X.env.cells.lookup y.1 = some c := fun y hy e => (ok.free y hy e).elim (fun k => I.ok.has _ (.inl k)) fun k => I.ok.has _ (.inr k)
  refine wpAny_comprehension_free (use := use) (gs := more) rfl hs (closure_ok seen) ok.kind (fun y hy e => by rw [ok.uniq y hy, e])
    (thn (hi.run pins s σ H _ I h) fun xv s1 h1 => thn h1 fun itv s2 ⟨it, fp, tn, J, H2, e, I2, T, st2, f2, q⟩ => ?_)
  subst e
  refine wpAny_newObj_type (newEnv_comp ?_) (by show 0 ≤ sizeLine; decide)
  have fresh : H2 s2.heap.objs.size = none := I2.hok.fresh (Nat.le_refl _)
  have qD := q _ fresh
  generalize hD : s2.heap.objs.size = D at fresh qD
  generalize hs3 : ({ s2 with heap := s2.heap.push { cls := .type "list", data := .seq ([] : List Value).toArray } } : Shared) = s3
  have up : s3.heap = s2.heap.push { cls := .type "list", data := .seq ([] : List Value).toArray } := by rw [← hs3]
  generalize hH3 : upd H2 D (.lst []) = H3 at qD
  have I3 : Inv X pins σ H3 s3 := by
    rw [← hH3, ← hs3]
    exact I2.laid (t' := s2.toks) (fun b o e => Heap.get?_push_of_some _ e) (Nat.le_of_eq hD) ⟨Nat.zero_le _, [], 0, .nil, by rw [← hD]; exact Heap.get?_push_size _ rfl⟩
  have f3 : ∀ b ∈ fp, FpOk X pins H3 b ∧ b < s3.heap.objs.size := fun b hb => by
    obtain ⟨o, e, _⟩ := T.obj _ _ st2 b hb
    have lt := Heap.lt_size e
    refine ⟨⟨?_, (f2 b hb).2⟩, by rw [up, Heap.size_push]; exact Nat.lt_succ_of_lt lt⟩
    rw [← hH3, upd_ne (by rw [← hD]; exact Nat.ne_of_lt lt)]
    exact (f2 b hb).1
  have I4 := block_start I3 ok hN f3
  have hg := hg s3 H3 s3.heap.objs.size (cellsFrom (s3.heap.objs.size + 1) scope.names (cloFrom X.env.cells scope.names [])) fp
  have ht := ht s3 H3 s3.heap.objs.size (cellsFrom (s3.heap.objs.size + 1) scope.names (cloFrom X.env.cells scope.names [])) fp
  have hb := hb s3 H3 s3.heap.objs.size (cellsFrom (s3.heap.objs.size + 1) scope.names (cloFrom X.env.cells scope.names [])) fp
  generalize hce : compEnvC scope (cellsFrom (s3.heap.objs.size + 1) scope.names (cloFrom X.env.cells scope.names [])) s3.heap.objs.size X.env = ce at I4 hg ht hb
  have cL : ce.locals = s3.heap.objs.size := by subst hce; rfl
  generalize hs4 : ({ s3 with heap := pushCells (s3.heap.push { cls := .type "dict", data := .dict #[] }) scope.names } : Shared) = s4 at I4
  have st4 : tn 0 s4.heap := T.keep _ _ _ st2 fun b _ o e => by
    rw [← hs4]
    exact pushCells_keeps _ _ _ _ (Heap.get?_push_of_some _ (by rw [up]; exact Heap.get?_push_of_some _ e))
  have loop := loop_ok (X := X.blk s3 H3 scope ce fp) (it := it) (pos := pos) (R := compPost (model X.prog X.w) X.A X.xe use Qf (.ref D) s3.heap.objs.size) rfl hc hsync rfl hg ht hb hv T
    (fun I' hn b hb => ⟨hn b hb, (I'.ok.exf b hb).1, I'.ok.exfs b hb, .inl hb, fun x c e => (I'.ok.exf b hb).2 x c e, fun p hp => absurd (show p ∈ ([] : List (Addr × Obj)) ++ [] from hp) (by simp)⟩)
    I4 st4 (fun b hb => (f3 b hb).1.1) qD fun s5 H5 I5 z => by
      have I6 : Inv X pins σ H5 s5 := I3.call' (ch := fp) I5.os I5.base I5.hok I5.bare fun b hb => ⟨(f3 b hb).1.2.2.2.1, (f3 b hb).1.2.1, (f3 b hb).1.2.2.2.2.1, (f3 b hb).1.2.2.2.2.2⟩
      have nC : H5 s3.heap.objs.size = none := cL ▸ (I5.free : H5 ce.locals = none)
      obtain ⟨m, hn, _⟩ := I5.loc
      exact hRR D s3.heap.objs.size s5 m H5 I6 z (cL ▸ (show s5.heap.Ns ce.locals m from hn)) (I3.fpOk (Nat.le_refl _) nC)
  subst hs3 hs4 hce hD
  exact codeAny_compStart_list loop (T.self X.A 0 _ _ _ st4 loop)
theorem ps_setLcn {i : Nat} {y : Str} {py spos : Pos} (hc : X.calm = true) (hN : X.N.Nodup) (hy : X.N[i]? = some y) (hyl : X.env.scope.names.lookup y = some .local)
    (hsw : swapsWith (.ListComp elt (⟨tg, iter, ifs, 0⟩ :: more) scope pos) (some (.Name y py)) spos.line X.env = pure true) (hi : PI X tg iter wi) (ok : BlkOk X.N X.env.scope scope own) (hsync : ∀ g ∈ (⟨tg, iter, ifs, 0⟩ :: more : List Comprehension), g.is_async = 0)
    (hg : ∀ (s : Shared) (H : Hp) (C : Addr) (cl : List (Str × Addr)) (fp : List Addr), PG (X.blk s H scope (compEnvC scope cl C X.env) fp) tg g)
    (ht : ∀ (s : Shared) (H : Hp) (C : Addr) (cl : List (Str × Addr)) (fp : List Addr), PTs (X.blk s H scope (compEnvC scope cl C X.env) fp) ifs tt)
    (hb : ∀ (s : Shared) (H : Hp) (C : Addr) (cl : List (Str × Addr)) (fp : List Addr), PB (X.blk s H scope (compEnvC scope cl C X.env) fp) elt (⟨tg, iter, ifs, 0⟩ :: more) scope pos 1 vs1 t1)
    (hv : ∀ i ∈ vs1, i ∈ own.map (·.2)) (hs : ∀ x, foldedSetIterable iter X.env x = pure x := by intro _; rfl) :
    PS X (.Assign [.Name y py] (.ListComp elt (⟨tg, iter, ifs, 0⟩ :: more) scope pos) spos) (tAsg (tLcN wi g tt t1 (own.map (·.2))) (gName i)) := by
  refine ⟨fun pins s σ H D I h => ?_⟩
  rw [exec_Assign_Name_used _ _ _ _ hsw]
  refine wpAny_bind (wpAny_standAt (wpAny_bind ?_))
  show wpAny _ X.A (do let _ ← comprehension (.ListComp elt (⟨tg, iter, ifs, 0⟩ :: more) scope pos) scope X.env (firstIterPos (⟨tg, iter, ifs, 0⟩ :: more) pos) (newList []) false (eval iter X.env) (some (assign (.Name y py) X.env))) _ _ s
  have h : tLcN wi g tt t1 (own.map (·.2)) σ H (fun x H1 => gName i x σ H1 D.nx) := h
  refine wpAny_bind (thn (lcn_core (Qf := fun _ s' => SP X pins D .next s') hc hN I hi ok hsync hg ht hb hv hs h fun L C s' m H' I' q hn f => ?_) fun _ s' hq => wpAny_pure (wpAny_pure hq))
  show wpAny _ _ (assign (.Name y py) X.env (.ref L)) _ _ _
  refine wpAny_assign_Name (store_ok2 (v := V.ref L) I' hN hy (.inl hyl) rfl (fun s2 I2 ⟨a, sb, ha⟩ => ?_) (.inr hyl))
  obtain ⟨f0, f1, f2, f3, f4, f5⟩ := f
  have haC : C ≠ a := by
    rcases ha with z | z
    · rw [z]; exact f1
    · exact fun e => f4 y a z e.symm
  refine ⟨m, hn.sameBut sb haC, fun h3 sb3 => ?_⟩
  exact ⟨_, H', I2.turned (t' := s2.toks) (fun b o hb e => (sb3.2 b hb).trans e) f0 f1 f3 f4 f5, q⟩
end
end Lcn
set_option maxHeartbeats 1000000
/-! name = [elt for .. for ..] on one line, over data -/
namespace Dl
open PySem PySem.Spec PyProof.Rows L2 Lcn Sq
section
variable {ι : Type} {K : PySem.W.Frag} {X : ι → Cx} {o : Bool} {pos : Pos} {elt tg iter : Expr} {more : List Comprehension} {ifs : List Expr} {scope : Scope} {is vs1 : List Nat} {iv : EvA} {gv : Dt → List Sl → (List Sl → Prop) → Prop} {tv : EvT} {bv : EvB} {own : List (Str × Nat)}
theorem ds_lcmN {i : Nat} {y : Str} {py spos : Pos} (hc : ∀ i, (X i).calm = true) (hN : ∀ i, (X i).N.Nodup) (hy : ∀ j, (X j).N[i]? = some y) (hyl : ∀ j, (X j).env.scope.names.lookup y = some .local)
    (hsw : ∀ j, swapsWith (.ListComp elt (⟨tg, iter, ifs, 0⟩ :: more) scope pos) (some (.Name y py)) spos.line (X j).env = pure true) (hi : DI o K X tg iter iv) (ok : ∀ i, BlkOk (X i).N (X i).env.scope scope own) (hsync : ∀ g, g ∈ (⟨tg, iter, ifs, 0⟩ :: more : List Comprehension) → g.is_async = 0)
    (hg : DG K (bk X scope) tg gv is) (ht : DTs K (bk X scope) ifs tv) (hb : DB K (bk X scope) elt (⟨tg, iter, ifs, 0⟩ :: more) scope pos 1 vs1 bv) (hv : ∀ i, i ∈ vs1 → i ∈ own.map (·.2)) (hv2 : ∀ i, i ∈ is → i ∈ own.map (·.2)) (hs : ∀ i, ∀ x, foldedSetIterable iter (X i).env x = pure x := by intro _ _; rfl) :
    ∃ te, (∀ j, PS (X j) (.Assign [.Name y py] (.ListComp elt (⟨tg, iter, ifs, 0⟩ :: more) scope pos) spos) (tAsg te (gName i))) ∧ VN K te (dLcM iv gv tv bv (own.map (·.2))) := by
  obtain ⟨wi, pi, vi⟩ := hi
  obtain ⟨g, pg, vg⟩ := hg
  obtain ⟨tt, pt, vt⟩ := ht
  obtain ⟨tb, pb, vb⟩ := hb
  exact ⟨_, fun i => ps_setLcn (hc i) (hN i) (hy i) (hyl i) (hsw i) (pi i) (ok i) hsync (fun s H C cl fp => pg (i, s, H, C, cl, fp)) (fun s H C cl fp => pt (i, s, H, C, cl, fp)) (fun s H C cl fp => pb (i, s, H, C, cl, fp)) hv (hs i), vn_lcm vi vg hv2 vt vb⟩
end
end Dl
set_option maxHeartbeats 4000000
namespace My
open PySem PySem.Spec PyProof.Rows L2 Lcn Sq Dl
open Hm
theorem sc_BadEquation_init : FnScope ["self", "at", "what"] ["self", "at", "what"] (defScope s_BadEquation_init) := ⟨rfl, rfl, rfl, by decide +kernel, rfl, by decide +kernel, by decide +kernel⟩
section
variable {P : Program} {w : World} {K : PySem.W.Frag} {mg : Str → Option Value} {base : Heap}
theorem ok_BadEquation_init (E_PressError : X0 K mg "PressError" ve) (E_BadEquation : X1 K mg "BadEquation" "BadEquation.__init__" s_BadEquation_init ["self", "at", "what"] ["at", "what"] (.ref E_PressError.C :: ve)) : FnOk P w K mg base CX0 1 E_BadEquation.f E_BadEquation.fd ["self", "at", "what"] (spXI E_BadEquation.C ["at", "what"]) := by
  refine ok0 E_BadEquation.F sc_BadEquation_init (fun vs H Q E h => ?_) (fun cdv Ar outer s H vs Q E hr h => ?_)
  · obtain ⟨a, ys, rfl, hl, _⟩ := h
    rw [List.length_cons, hl] <;> rfl
  · exact ⟨_, (pss_cons (ps_ost (pv 0) (pv 1)) (pss_one (ps_ost (pv 0) (pv 2)))), rd_xi2 E_BadEquation.X.ox (E_BadEquation.X.no "at" (by simp)) (E_BadEquation.X.no "what" (by simp)) vs H Q E _ h⟩
end
/-- things that are not instances -/
def pln : Dt → Bool
  | .ins _ _ => false
  | .dt _ => false
  | _ => true
def whD : Dt → Bool
  | .int _ => true
  | _ => false
def sqD : Dt → Bool
  | .lst _ => true
  | .tup _ => true
  | _ => false
def sp_whole2 : Spc := fun δ Q => ∃ d : Dt, δ = [.val d] ∧ pln d = true ∧ Q (.bl (whD d))
def sp_seq2 : Spc := fun δ Q => ∃ d : Dt, δ = [.val d] ∧ pln d = true ∧ Q (.bl (sqD d))
theorem isi_f {ts : List String} {t : String} {b : Bool} {d : Dt} (h : tyD d = some t) (k : (ts.foldr (fun T r => (kitB t T).bind fun b => if b = true then some true else r) (some false)) = some b) : isiB ts d = some b := by
  unfold isiB
  rw [h]
  exact k
/-- a list or a tuple -/
def mkS (b : Bool) (ds : List Dt) : Dt := if b then .lst ds else .tup ds
structure RowH where
  b : Bool
  n : Int
  fb : Bool
  f : List Int
def rowH (r : RowH) : Dt := mkS r.b [.int r.n, mkS r.fb (r.f.map .int)]
def sysH (H : List RowH) : List (Int × List Int) := H.map fun r => (r.n, r.f)
def formD (p : Int × List Int) : Dt := .tup [.int p.1, tI p.2]
def sysD (S : List (Int × List Int)) : Dt := .lst (S.map formD)
theorem mkS_items (b : Bool) (ds : List Dt) : itemsD (mkS b ds) = some ds := by cases b <;> rfl
theorem len_mkS {b : Bool} {ds : List Dt} {Q : Dt → Prop} (q : Q (.int (ds.length : Int))) : dLen [mkS b ds] Q := by
  cases b <;> exact q
theorem lenD {x : Dt} {es : List Dt} {Q : Dt → Prop} (h : itemsD x = some es) (q : Q (.int (es.length : Int))) : dLen [x] Q := by
  cases x with
  | lst => cases h; exact q
  | tup => cases h; exact q
  | _ => cases h
theorem dIx_items {x d : Dt} {ds : List Dt} {i : Int} {Q : Dt → Prop} (h : itemsD x = some ds) (h2 : atI ds i = some d) (q : Q d) : dIx x (.int i) Q := by
  cases x with
  | lst => cases h; exact ⟨d, h2, q⟩
  | tup => cases h; exact ⟨d, h2, q⟩
  | _ => cases h
def coupD (d : Dt) : Bool := match itemsD d with
  | some ds => decide (ds.length = 2)
  | none => false
def sp_couple2 : Spc := fun δ Q => ∃ d : Dt, δ = [.val d] ∧ pln d = true ∧ Q (.bl (coupD d))
theorem dVar_val {i : Nat} {δ : List Sl} {d : Dt} {Q : Dt → Prop} (h : δ[i]? = some (.val d)) (q : Q d) : dVar i δ Q := by
  unfold dVar
  rw [h]
  exact q
theorem val_len2 {i : Nat} {δ : List Sl} {x : Dt} {es : List Dt} {Q : Dt → Prop} (hi : δ[i]? = some (.val x)) (hx : itemsD x = some es) (q : dEq false (.int (es.length : Int)) (.int 2) Q) : dOp (dEq false) (dCall dLen (dConsA (dVar i) dNilA)) (dC (.int 2)) δ Q := by
  unfold dOp dCall dConsA dNilA dC
  exact dVar_val hi (lenD hx q)
theorem sq_items {d : Dt} (h : sqD d = true) : ∃ ds, itemsD d = some ds := by
  cases d with
  | lst ds => exact ⟨ds, rfl⟩
  | tup ds => exact ⟨ds, rfl⟩
  | _ => cases h
theorem sq_none {d : Dt} (h : sqD d = false) : itemsD d = none := by
  cases d with
  | lst ds => cases h
  | tup ds => cases h
  | _ => rfl
theorem sq_pln {b : Bool} {ds : List Dt} : pln (mkS b ds) = true := by cases b <;> rfl
theorem sq_mkS {b : Bool} {ds : List Dt} : sqD (mkS b ds) = true := by cases b <;> rfl
theorem sc_is_sequence : FnScope ["thing"] ["thing"] (defScope s_is_sequence) := ⟨rfl, rfl, rfl, by decide +kernel, rfl, by decide +kernel, by decide +kernel⟩
section
variable {P : Program} {w : World} {K : PySem.W.Frag} {mg : Str → Option Value} {base : Heap}
theorem ok_is_sequence  (D_is_sequence : Dn K mg "is_sequence" s_is_sequence ["thing"]) (T : TB mg) : FnOk P w K mg base CX0 1 D_is_sequence.f D_is_sequence.fd ["thing"] (dsp K 1 sp_seq2) := by
  refine fn_d (k := 0) (N := ["thing"]) D_is_sequence.F sc_is_sequence (fun cdv Ar outer s H E hr => (dss_one (ds_ret (de_isi2 (de_var (fun _ => pv 0)) (fun _ => pe_bltn (v := .ty "list") (by rfl) T.list_ (by decide +kernel) rfl) (fun _ => pe_bltn (v := .ty "tuple") (by rfl) T.tuple_ (by decide +kernel) rfl) (fun _ => by rfl) (fun _ => T.isinstance))))) (fun δ Qd l h => ?_)
  obtain ⟨d, rfl, hp, hq⟩ := h
  cases d with
  | ins => cases hp
  | dt => cases hp
  | lst ds => exact ⟨true, isi_f rfl (by decide +kernel), hq⟩
  | tup ds => exact ⟨true, isi_f rfl (by decide +kernel), hq⟩
  | non => exact ⟨false, isi_f rfl (by decide +kernel), hq⟩
  | bl b => exact ⟨false, isi_f rfl (by decide +kernel), hq⟩
  | int i => exact ⟨false, isi_f rfl (by decide +kernel), hq⟩
  | str s => exact ⟨false, isi_f rfl (by decide +kernel), hq⟩
  | dk es => exact ⟨false, isi_f rfl (by decide +kernel), hq⟩
end
theorem sc_is_whole : FnScope ["thing"] ["thing"] (defScope s_is_whole) := ⟨rfl, rfl, rfl, by decide +kernel, rfl, by decide +kernel, by decide +kernel⟩
section
variable {P : Program} {w : World} {K : PySem.W.Frag} {mg : Str → Option Value} {base : Heap}
theorem ok_is_whole  (D_is_whole : Dn K mg "is_whole" s_is_whole ["thing"]) (T : TB mg) : FnOk P w K mg base CX0 1 D_is_whole.f D_is_whole.fd ["thing"] (dsp K 1 sp_whole2) := by
  refine fn_d (k := 0) (N := ["thing"]) D_is_whole.F sc_is_whole (fun cdv Ar outer s H E hr => (dss_one (ds_ret (de_and (de_isi1 (de_var (fun _ => pv 0)) (fun _ => pe_bltn (v := .ty "int") (by rfl) T.int (by decide +kernel) rfl) (fun _ => by rfl) (fun _ => T.isinstance)) (de_one (de_not (de_isi1 (de_var (fun _ => pv 0)) (fun _ => pe_bltn (v := .ty "bool") (by rfl) T.bool (by decide +kernel) rfl) (fun _ => by rfl) (fun _ => T.isinstance)))))))) (fun δ Qd l h => ?_)
  obtain ⟨d, rfl, hp, hq⟩ := h
  cases d with
  | ins => cases hp
  | dt => cases hp
  | int i => exact ⟨_, rfl, _, rfl, ite_t rfl ⟨_, rfl, _, rfl, hq⟩⟩
  | bl b => exact ⟨_, rfl, _, rfl, ite_t rfl ⟨_, rfl, _, rfl, hq⟩⟩
  | lst ds => exact ⟨_, rfl, _, rfl, ite_f rfl hq⟩
  | tup ds => exact ⟨_, rfl, _, rfl, ite_f rfl hq⟩
  | non => exact ⟨_, rfl, _, rfl, ite_f rfl hq⟩
  | str s => exact ⟨_, rfl, _, rfl, ite_f rfl hq⟩
  | dk es => exact ⟨_, rfl, _, rfl, ite_f rfl hq⟩
end
def sideD : Dt → Bool
  | .lst ds => ds.all whD
  | .tup ds => ds.all whD
  | _ => false
def sp_side2 : Spc := fun δ Q => ∃ d : Dt, δ = [.val d] ∧ pln d = true ∧ (∀ ds, itemsD d = some ds → ds.length < 1000 ∧ ∀ x, x ∈ ds → pln x = true) ∧ Q (.bl (sideD d))
theorem sc_is_side : FnScope ["thing", "sign"] ["thing"] (defScope s_is_side) := ⟨rfl, rfl, rfl, by decide +kernel, rfl, by decide +kernel, by decide +kernel⟩
section
variable {P : Program} {w : World} {K : PySem.W.Frag} {mg : Str → Option Value} {base : Heap}
theorem ok_is_side  (D_is_side : Dn K mg "is_side" s_is_side ["thing"]) (D_is_whole : Dn K mg "is_whole" s_is_whole ["thing"]) (G_is_whole : FnOk P w K mg base CX0 1 D_is_whole.f D_is_whole.fd ["thing"] (dsp K 1 sp_whole2)) (D_is_sequence : Dn K mg "is_sequence" s_is_sequence ["thing"]) (G_is_sequence : FnOk P w K mg base CX0 1 D_is_sequence.f D_is_sequence.fd ["thing"] (dsp K 1 sp_seq2)) (T : TB mg) : FnOk P w K mg base CX0 2 D_is_side.f D_is_side.fd ["thing"] (dsp K 1 sp_side2) := by
  refine fn_d (k := 1) (N := ["thing", "sign"]) D_is_side.F sc_is_side (fun cdv Ar outer s H E hr => (dss_one (ds_ret (de_and (de_call (fun _ pa => pe_call G_is_sequence (hr.mono (by decide)) (by rfl) D_is_sequence.m D_is_sequence.F.kp D_is_sequence.b .nil pass0 pa) (dl_val (de_var (fun _ => pv 0)) dl_nil)) (de_one (de_callB (fun _ => cr_allK2 rfl rfl) rc_all (fun _ => by rfl) (fun _ => T.all_) (by decide +kernel) (da_cons (de_n (dn_lc (o := true) (own := [(("sign" : Str), 1)]) (fun _ => rfl) (fun _ => sc_is_side.nd) (di_seq (de_var (fun _ => pv 0))) (fun _ => (blkOk_by (own := [(("sign" : Str), 1)]) (N := ["thing", "sign"]) (sc := defScope s_is_side) (by decide +kernel))) (dg_name (i := 1) (fun _ => pg_name sc_is_side.nd rfl (by first | exact Or.inl rfl | exact Or.inr rfl))) dts_nil (de_call (fun _ pa => pe_call G_is_whole (hr.mono (by decide)) (by rfl) D_is_whole.m D_is_whole.F.kp D_is_whole.b .nil pass0 pa) (dl_val (de_var (fun _ => pv 1)) dl_nil)) (by decide))) da_nil))))))) (fun δ Qd l h => ?_)
  obtain ⟨d, rfl, hp, hi, hq⟩ := h
  refine ⟨rfl, d, rfl, hp, ?_⟩
  have go : ∀ ds : List Dt, itemsD d = some ds → sideD d = ds.all whD → ds.length < 1000 ∧ ∀ x, x ∈ ds → pln x = true := fun ds e _ => hi ds e
  cases d with
  | ins => cases hp
  | dt => cases hp
  | lst ds =>
    obtain ⟨h1, h2⟩ := hi ds rfl
    refine ⟨true, rfl, ite_t rfl ⟨rfl, k1000 h1, ?_⟩⟩
    rw [← List.map_id ds]
    refine lc_map (fun x : Dt => Dt.bl (whD x)) ds (fun x m R r => ⟨rfl, x, rfl, h2 x m, r⟩) ?_
    refine ⟨ds.map whD, by rw [List.map_map]; rfl, ?_⟩
    have e : (ds.map whD).all id = ds.all whD := by rw [List.all_map]; rfl
    rw [e]
    exact hq
  | tup ds =>
    obtain ⟨h1, h2⟩ := hi ds rfl
    refine ⟨true, rfl, ite_t rfl ⟨rfl, k1000 h1, ?_⟩⟩
    rw [← List.map_id ds]
    refine lc_map (fun x : Dt => Dt.bl (whD x)) ds (fun x m R r => ⟨rfl, x, rfl, h2 x m, r⟩) ?_
    refine ⟨ds.map whD, by rw [List.map_map]; rfl, ?_⟩
    have e : (ds.map whD).all id = ds.all whD := by rw [List.all_map]; rfl
    rw [e]
    exact hq
  | non => exact ⟨false, rfl, ite_f rfl hq⟩
  | bl b => exact ⟨false, rfl, ite_f rfl hq⟩
  | int i => exact ⟨false, rfl, ite_f rfl hq⟩
  | str s => exact ⟨false, rfl, ite_f rfl hq⟩
  | dk es => exact ⟨false, rfl, ite_f rfl hq⟩
end
theorem sc_is_couple : FnScope ["thing"] ["thing"] (defScope s_is_couple) := ⟨rfl, rfl, rfl, by decide +kernel, rfl, by decide +kernel, by decide +kernel⟩
section
variable {P : Program} {w : World} {K : PySem.W.Frag} {mg : Str → Option Value} {base : Heap}
theorem ok_is_couple  (D_is_couple : Dn K mg "is_couple" s_is_couple ["thing"]) (D_is_sequence : Dn K mg "is_sequence" s_is_sequence ["thing"]) (G_is_sequence : FnOk P w K mg base CX0 1 D_is_sequence.f D_is_sequence.fd ["thing"] (dsp K 1 sp_seq2)) (T : TB mg) : FnOk P w K mg base CX0 2 D_is_couple.f D_is_couple.fd ["thing"] (dsp K 1 sp_couple2) := by
  refine fn_d (k := 1) (N := ["thing"]) D_is_couple.F sc_is_couple (fun cdv Ar outer s H E hr => (dss_one (ds_ret (de_and (de_call (fun _ pa => pe_call G_is_sequence (hr.mono (by decide)) (by rfl) D_is_sequence.m D_is_sequence.F.kp D_is_sequence.b .nil pass0 pa) (dl_val (de_var (fun _ => pv 0)) dl_nil)) (de_one (de_cmpC (cd_eq (fun _ => ru64 hr)) (de_callB (fun _ => cr_len rfl) rc_len (fun _ => by rfl) (fun _ => T.len) PySem.boot_len (da_cons (de_var (fun _ => pv 0)) da_nil)) de_int (nomark _))))))) (fun δ Qd l h => ?_)
  obtain ⟨d, rfl, hp, hq⟩ := h
  unfold coupD at hq
  cases hs : sqD d with
  | false =>
    rw [sq_none hs] at hq
    exact ⟨rfl, d, rfl, hp, false, congrArg Dt.bl hs, ite_f rfl hq⟩
  | true =>
    obtain ⟨ds, e⟩ := sq_items hs
    rw [e] at hq
    refine ⟨rfl, d, rfl, hp, true, congrArg Dt.bl hs, ite_t rfl ?_⟩
    refine val_len2 rfl e ?_
    exact dEq_int _ (by show decide ((ds.length : Int) = 2) = decide (ds.length = 2); exact decide_eq_decide.mpr (by omega)) hq
end
def nrm (r : RowH) : RowH := ⟨false, r.n, false, r.f⟩
theorem enumFrom_map {α : Type} (f : α → Dt) : ∀ (n : Nat) (xs : List α), enumFrom n (xs.map f) = (xs.zipIdx n).map fun p => .tup [.int (p.2 : Int), f p.1]
  | n, [] => rfl
  | n, x :: xs => by
    rw [List.map_cons, List.zipIdx_cons, List.map_cons, ← enumFrom_map f (n + 1) xs]
    rfl
def sp_check : Spc := fun δ Q => ∃ (b : Bool) (H : List RowH) (v : Nat), δ = [.val (mkS b (H.map rowH))] ∧ (∀ r, r ∈ H → r.f.length = v) ∧ H.length < 1000 ∧ v < 1000 ∧ Q (mkS false ((H.map nrm).map rowH))
def Row (v : Nat) (y : Dt) : Prop := ∃ r : RowH, y = rowH r ∧ r.f.length = v
def Pl (x : Dt) : Prop := pln x = true ∧ ∀ es, itemsD x = some es → es.length < 1000 ∧ ∀ y, y ∈ es → pln y = true
/-- no equation by its form -/
def BadF (x : Dt) : Prop := pln x = true ∧ (coupD x = false ∨ ∃ a c, itemsD x = some [a, c] ∧ pln a = true ∧ Pl c ∧ (whD a = false ∨ (whD a = true ∧ sideD c = false)))
def exBE (C : Addr) (at' : Int) (w : Str) : XD := ⟨C, [("what", .str w), ("at", .int at')]⟩
def Wrong (d : Dt) (at' : Int) (w : Str) : Prop := (pln d = true ∧ sqD d = false ∧ at' = 0 ∧ w = "system") ∨
  ∃ (b : Bool) (xs : List Dt) (k v : Nat) (x : Dt), d = mkS b xs ∧ xs.length < 1000 ∧ v < 1000 ∧ xs[k]? = some x ∧ at' = (k : Int) ∧ (∀ i y, i < k → xs[i]? = some y → Row v y) ∧ ((BadF x ∧ w = "form") ∨ (0 < k ∧ w = "factors" ∧ ∃ u, u ≠ v ∧ u < 1000 ∧ Row u x))
def sp_checkX (C : Addr) : SpcX := fun δ _ X => ∃ (d : Dt) (at' : Int) (w : Str), δ = [.val d] ∧ Wrong d at' w ∧ X (exBE C at' w)
/-- a loop whose turns go on until one raises -/
theorem dx_until {gv : Dt → List Sl → (List Sl → Prop) → Prop} {bv : EvXS} {D : XEnds} {ds : List Dt} {k : Nat} (I : Nat → List Sl → Prop) (lt : k < ds.length) (go : ∀ i d δ (E : XEnds), ds[i]? = some d → i < k → I i δ → (∀ δ', I (i + 1) δ' → E.nx δ') → gv d δ fun δ2 => bv E δ2) (fin : ∀ d δ (E : XEnds), ds[k]? = some d → I k δ → E.xc = D.xc → gv d δ fun δ2 => bv E δ2) :
    ∀ (n : Nat) (δ : List Sl), n ≤ k → I (k - n) δ → dxForL gv bv D (ds.drop (k - n)) δ
  | 0, δ, _, hI => by
    rw [Nat.sub_zero, List.drop_eq_getElem_cons lt]
    exact fin _ δ { nx := dxForL gv bv D (ds.drop (k + 1)), rt := D.rt, bk := D.nx, ct := dxForL gv bv D (ds.drop (k + 1)), xc := D.xc } (List.getElem?_eq_getElem lt) hI rfl
  | n + 1, δ, hn, hI => by
    have l2 : k - (n + 1) < ds.length := by omega
    rw [List.drop_eq_getElem_cons l2]
    refine go _ _ δ _ (List.getElem?_eq_getElem l2) (by omega) hI fun δ' h => ?_
    have e : k - (n + 1) + 1 = k - n := by omega
    show dxForL gv bv D (ds.drop (k - (n + 1) + 1)) δ'
    rw [e] at h ⊢
    exact dx_until I lt go fin n δ' (by omega) h
theorem dx_untilF {gv : Dt → List Sl → (List Sl → Prop) → Prop} {bv : EvXS} {D : XEnds} {ds : List Dt} {k : Nat} {δ : List Sl} (I : Nat → List Sl → Prop) (lt : k < ds.length) (h0 : I 0 δ) (go : ∀ i d δ (E : XEnds), ds[i]? = some d → i < k → I i δ → (∀ δ', I (i + 1) δ' → E.nx δ') → gv d δ fun δ2 => bv E δ2) (fin : ∀ d δ (E : XEnds), ds[k]? = some d → I k δ → E.xc = D.xc → gv d δ fun δ2 => bv E δ2) : dxForL gv bv D ds δ := by
  have := dx_until (D := D) I lt go fin k δ (Nat.le_refl _) (by rw [Nat.sub_self]; exact h0)
  rw [Nat.sub_self] at this
  exact this
theorem dxs_stop {ι : Type} {K : PySem.W.Frag} {X : ι → Cx} {st : Stmt} {rest : List Stmt} {sv : EvXS} (h1 : DX K X st sv) : DXs K X (st :: rest) (fun D δ => sv { D with nx := fun _ => False } δ) := by
  obtain ⟨t, p, v⟩ := h1
  exact ⟨fun W => _, fun i W tk => pss_cons (u := fun _ _ _ => False) (p i W tk) ⟨fun _ _ _ _ _ _ h => h.elim⟩, fun C σ δ H D Dd W k s e q x => v C σ δ H _ { Dd with nx := fun _ => False } W k s e ⟨fun _ _ _ _ z => z.elim, q.rt, q.bk, q.ct⟩ x⟩
end My
set_option maxHeartbeats 4000000
namespace My
open PySem PySem.Spec PyProof.Rows L2 Lcn Sq Dl
open Hm
theorem side_row (fb : Bool) (f : List Int) : sideD (mkS fb (f.map .int)) = true := by
  have : (f.map Dt.int).all whD = true := by
    rw [List.all_map]
    exact List.all_eq_true.mpr fun x _ => rfl
  cases fb <;> exact this
theorem couple_row (r : RowH) : coupD (rowH r) = true := by
  unfold coupD
  rw [show itemsD (rowH r) = some _ from mkS_items _ _]
  rfl
theorem pl_row (fb : Bool) (f : List Int) (h : f.length < 1000) : Pl (mkS fb (f.map .int)) := ⟨sq_pln, fun ds hd => by
  rw [mkS_items] at hd
  cases hd
  refine ⟨by rw [List.length_map]; exact h, fun x mx => ?_⟩
  obtain ⟨_, _, rfl⟩ := List.mem_map.mp mx
  rfl⟩
theorem opIx {i j : Nat} {δ : List Sl} {x d : Dt} {ds : List Dt} {Q : Dt → Prop} (hi : δ[i]? = some (.val x)) (hx : itemsD x = some ds) (hd : ds[j]? = some d) (q : Q d) : dOp dIx (dVar i) (dC (.int (j : Int))) δ Q := by
  unfold dOp dC
  exact dVar_val hi (dIx_items hx (atI_nat hd) q)
theorem tst_len_ix {i j : Nat} {b : Bool} {δ : List Sl} {x a y s z c y' : Dt} {es fs ss : List Dt} {Q : Bool → Prop} (hi : δ[i]? = some (.val x)) (hx : itemsD x = some [a, y]) (hy : itemsD y = some es) (hj : δ[j]? = some (.val s)) (hs : itemsD s = some (z :: ss)) (hz : itemsD z = some [c, y']) (hy' : itemsD y' = some fs) (e : b = !decide (es.length = fs.length)) (q : Q b) :
    dTst (dOp (dEq true) (dCall dLen (dConsA (dOp dIx (dVar i) (dC (.int 1))) dNilA)) (dCall dLen (dConsA (dOp dIx (dOp dIx (dVar j) (dC (.int 0))) (dC (.int 1))) dNilA))) δ Q := by
  unfold dTst dOp dCall dConsA dNilA dC
  refine dVar_val hi (dIx_items hx (atI_nat (j := 1) rfl) (lenD hy (dVar_val hj (dIx_items hs (atI_nat (j := 0) rfl) (dIx_items hz (atI_nat (j := 1) rfl) (lenD hy' ?_))))))
  cases b with
  | false =>
    have e : es.length = fs.length := by simpa using e
    exact dEq_int false (by simp [e]) ⟨_, rfl, q⟩
  | true =>
    have e : ¬ es.length = fs.length := by simpa using e
    have e2 : ¬ (es.length : Int) = (fs.length : Int) := by omega
    exact dEq_int true (by simp [e2]) ⟨_, rfl, q⟩
theorem sc_check_system : FnScope ["system", "at", "equation", "number", "factors"] ["system"] (defScope s_check_system) := ⟨rfl, rfl, rfl, by decide +kernel, rfl, by decide +kernel, by decide +kernel⟩
section
variable {P : Program} {w : World} {K : PySem.W.Frag} {mg : Str → Option Value} {base : Heap}
theorem ok_check_system  (D_check_system : Dn K mg "check_system" s_check_system ["system"]) (D_is_sequence : Dn K mg "is_sequence" s_is_sequence ["thing"]) (G_is_sequence : FnOk P w K mg base CX0 1 D_is_sequence.f D_is_sequence.fd ["thing"] (dsp K 1 sp_seq2)) (D_is_side : Dn K mg "is_side" s_is_side ["thing"]) (G_is_side : FnOk P w K mg base CX0 2 D_is_side.f D_is_side.fd ["thing"] (dsp K 1 sp_side2)) (D_is_whole : Dn K mg "is_whole" s_is_whole ["thing"]) (G_is_whole : FnOk P w K mg base CX0 1 D_is_whole.f D_is_whole.fd ["thing"] (dsp K 1 sp_whole2)) (D_is_couple : Dn K mg "is_couple" s_is_couple ["thing"]) (G_is_couple : FnOk P w K mg base CX0 2 D_is_couple.f D_is_couple.fd ["thing"] (dsp K 1 sp_couple2)) (T : TB mg) : FnOk P w K mg base CX0 3 D_check_system.f D_check_system.fd ["system"] (dsp K 1 sp_check) := by
  refine fn_d (k := 2) (N := ["system", "at", "equation", "number", "factors"]) D_check_system.F sc_check_system (fun cdv Ar outer s H E hr => (dss_cons (ds_if (dt_not (dt_val (de_call (fun _ pa => pe_call G_is_sequence (hr.mono (by decide)) (by rfl) D_is_sequence.m D_is_sequence.F.kp D_is_sequence.b .nil pass0 pa) (dl_val (de_var (fun _ => pv 0)) dl_nil)))) (dss_one ds_never) dss_nil)
  (dss_cons (ds_for (fun _ => rfl) (di_or (di_enumL (fun _ => by rfl) (fun _ => T.enumerate) (da_cons (de_var (fun _ => pv 0)) da_nil)) (di_enumT (fun _ => by rfl) (fun _ => T.enumerate) (da_cons (de_var (fun _ => pv 0)) da_nil))) (dg_tup (n := 2) (dgs_cons (dg_name (i := 1) (fun _ => pg_name sc_check_system.nd rfl (by first | exact Or.inl rfl | exact Or.inr rfl))) (dgs_cons (dg_name (i := 2) (fun _ => pg_name sc_check_system.nd rfl (by first | exact Or.inl rfl | exact Or.inr rfl))) dgs_nil))) (dss_cons (ds_if (dt_w (dw_or (dt_not (dt_val (de_call (fun _ pa => pe_call G_is_couple (hr.mono (by decide)) (by rfl) D_is_couple.m D_is_couple.F.kp D_is_couple.b .nil pass0 pa) (dl_val (de_var (fun _ => pv 2)) dl_nil)))) (dw_or (dt_not (dt_val (de_call (fun _ pa => pe_call G_is_whole (hr.mono (by decide)) (by rfl) D_is_whole.m D_is_whole.F.kp D_is_whole.b .nil pass0 pa) (dl_val (de_ixA (de_var (fun _ => pv 2)) de_int (fun _ _ => rfl)) dl_nil)))) (dw_or1 (dt_not (dt_val (de_call (fun _ pa => pe_call G_is_side (hr.mono (by decide)) (by rfl) D_is_side.m D_is_side.F.kp D_is_side.b .nil pass0 pa) (dl_val (de_ixA (de_var (fun _ => pv 2)) de_int (fun _ _ => rfl)) dl_nil)))))))) (dss_one ds_never) dss_nil)
  (dss_one (ds_if (dt_cmpC (cd_ne (fun _ => ru64 hr)) (de_callB (fun _ => cr_len rfl) rc_len (fun _ => by rfl) (fun _ => T.len) PySem.boot_len (da_cons (de_ixA (de_var (fun _ => pv 2)) de_int (fun _ _ => rfl)) da_nil)) (de_callB (fun _ => cr_len rfl) rc_len (fun _ => by rfl) (fun _ => T.len) PySem.boot_len (da_cons (de_ixA (de_ixA (de_var (fun _ => pv 0)) de_int (fun _ _ => rfl)) de_int (fun _ _ => rfl)) da_nil)) (nomark _)) (dss_one ds_never) dss_nil))) (fun _ => PassesOwn.never))
  (dss_one (ds_ret (de_callTy (fun _ => cr_tuple rfl) rc_tuple (fun _ => by rfl) (fun _ => T.tuple_) (by decide +kernel) (da_cons (de_n (dn_lc (o := true) (own := [(("number" : Str), 3), (("factors" : Str), 4)]) (fun _ => rfl) (fun _ => sc_check_system.nd) (di_seq (de_var (fun _ => pv 0))) (fun _ => (blkOk_by (own := [(("number" : Str), 3), (("factors" : Str), 4)]) (N := ["system", "at", "equation", "number", "factors"]) (sc := defScope s_check_system) (by decide +kernel))) (dg_tup (n := 2) (dgs_cons (dg_name (i := 3) (fun _ => pg_name sc_check_system.nd rfl (by first | exact Or.inl rfl | exact Or.inr rfl))) (dgs_cons (dg_name (i := 4) (fun _ => pg_name sc_check_system.nd rfl (by first | exact Or.inl rfl | exact Or.inr rfl))) dgs_nil))) dts_nil (de_tup (da_cons (de_var (fun _ => pv 3)) (da_cons (de_callTy (fun _ => cr_tuple rfl) rc_tuple (fun _ => by rfl) (fun _ => T.tuple_) (by decide +kernel) (da_cons (de_callTy (fun _ => cr_list rfl) rc_list (fun _ => by rfl) (fun _ => T.list_) (by decide +kernel) (da_cons (de_var (fun _ => pv 4)) da_nil)) da_nil)) da_nil))) (by decide))) da_nil))))))) (fun δ Qd l h => ?_)
  obtain ⟨b, H, v, rfl, hv, hz, hz2, hq⟩ := h
  refine ⟨rfl, _, rfl, sq_pln, true, congrArg Dt.bl sq_mkS, ite_f rfl ?_⟩
  have out : Qd (.tup (H.map fun r => .tup [.int r.n, tI r.f])) := by
    have e : mkS false ((H.map nrm).map rowH) = .tup (H.map fun r => .tup [.int r.n, tI r.f]) := by
      rw [List.map_map]
      rfl
    rw [← e]
    exact hq
  have hs0 : itemsD (mkS b (H.map rowH)) = some (H.map rowH) := mkS_items _ _
  cases b
  all_goals
    first
      | refine Or.inr ?_
        show dForL _ _ _ (enumFrom 0 (H.map rowH)) (.val (.tup (H.map rowH)) :: _)
      | refine Or.inl ?_
        show dForL _ _ _ (enumFrom 0 (H.map rowH)) (.val (.lst (H.map rowH)) :: _)
    rw [enumFrom_map]
    refine for_inv (fun i δ => ∃ s1 s2, δ = [.val _, s1, s2, .any, .any]) ⟨_, _, rfl⟩ (fun i dd δ N hi hI h1 => ?_) (fun δ hI => ?_)
    · obtain ⟨s1, s2, rfl⟩ := hI
      rw [List.getElem?_map] at hi
      obtain ⟨p, hp, rfl⟩ := Option.map_eq_some_iff.mp hi
      have pm : p.1 ∈ H := List.fst_mem_of_mem_zipIdx (List.mem_of_getElem? hp)
      have fl := hv p.1 pm
      refine ⟨rfl, rfl, rfl, _, rfl, sq_pln, true, congrArg Dt.bl (couple_row _), ite_f rfl ?_⟩
      obtain ⟨⟨rb, n, fb, f⟩, k⟩ := p
      have hx : itemsD (rowH ⟨rb, n, fb, f⟩) = some [.int n, mkS fb (f.map .int)] := mkS_items _ _
      obtain ⟨r0, H0, rfl⟩ : ∃ r0 H0, H = r0 :: H0 := by
        cases H with
        | nil => cases pm
        | cons r0 H0 => exact ⟨r0, H0, rfl⟩
      have fl0 := hv r0 (List.mem_cons_self ..)
      have fl : f.length = v := fl
      cases rb
      all_goals
        refine ⟨_, atI_nat (j := 0) rfl, rfl, .int n, rfl, rfl, true, rfl, ite_f rfl ?_⟩
        refine ⟨_, atI_nat (j := 1) rfl, rfl, mkS fb (f.map .int), rfl, sq_pln, (pl_row fb f (by omega)).2, true, congrArg Dt.bl (side_row fb f), ite_f rfl ?_⟩
        dsimp only
        unfold dIf
        refine tst_len_ix (b := false) rfl hx (mkS_items _ _) rfl hs0 (mkS_items _ _) (mkS_items _ _) (by rw [List.length_map, List.length_map, fl, fl0]; simp) ?_
        refine ite_f rfl ?_
        exact h1 _ ⟨.val (.int (k : Int)), .val _, rfl⟩
    · obtain ⟨s1, s2, rfl⟩ := hI
      refine ⟨rfl, by rw [List.length_map]; exact k1000 hz, ?_⟩
      refine lc_map (fun r : RowH => .tup [.int r.n, tI r.f]) H (fun r m Q q => ?_) out
      obtain ⟨rb, n, fb, f⟩ := r
      cases rb
      all_goals
        cases fb
        all_goals exact ⟨rfl, rfl, by show 2 ≤ sizeLine; decide, q⟩
end
theorem sc_check_systemX : FnScope ["system", "at", "equation", "number", "factors"] ["system"] (defScope s_check_system) := ⟨rfl, rfl, rfl, by decide +kernel, rfl, by decide +kernel, by decide +kernel⟩
section
variable {P : Program} {w : World} {K : PySem.W.Frag} {mg : Str → Option Value} {base : Heap}
theorem ok_check_systemX   (E_PressError : X0 K mg "PressError" ve) (E_BadEquation : X1 K mg "BadEquation" "BadEquation.__init__" s_BadEquation_init ["self", "at", "what"] ["at", "what"] (.ref E_PressError.C :: ve)) (G_BadEquation_init : FnOk P w K mg base CX0 1 E_BadEquation.f E_BadEquation.fd ["self", "at", "what"] (spXI E_BadEquation.C ["at", "what"])) (D_check_system : Dn K mg "check_system" s_check_system ["system"]) (D_is_sequence : Dn K mg "is_sequence" s_is_sequence ["thing"]) (G_is_sequence : FnOk P w K mg base CX0 1 D_is_sequence.f D_is_sequence.fd ["thing"] (dsp K 1 sp_seq2)) (D_is_side : Dn K mg "is_side" s_is_side ["thing"]) (G_is_side : FnOk P w K mg base CX0 2 D_is_side.f D_is_side.fd ["thing"] (dsp K 1 sp_side2)) (D_is_whole : Dn K mg "is_whole" s_is_whole ["thing"]) (G_is_whole : FnOk P w K mg base CX0 1 D_is_whole.f D_is_whole.fd ["thing"] (dsp K 1 sp_whole2)) (D_is_couple : Dn K mg "is_couple" s_is_couple ["thing"]) (G_is_couple : FnOk P w K mg base CX0 2 D_is_couple.f D_is_couple.fd ["thing"] (dsp K 1 sp_couple2)) (T : TB mg) : FnOk P w K mg base (L2.CX P w) 3 D_check_system.f D_check_system.fd ["system"] (dspX K 1 (sp_checkX E_BadEquation.C)) := by
  refine fn_x (k := 2) (N := ["system", "at", "equation", "number", "factors"]) D_check_system.F sc_check_systemX (fun cdv Ar outer s H E hr => (dxs_cons (dx_if (dt_not (dt_val (de_call (fun _ pa => pe_call G_is_sequence (hr.mono (by decide)) (by rfl) D_is_sequence.m D_is_sequence.F.kp D_is_sequence.b .nil pass0 pa) (dl_val (de_var (fun _ => pv 0)) dl_nil)))) (dxs_one (dx_raiseF (ns := ["at", "what"]) (fun _ => rfl) (by decide) (fun _ pa => pmk_oex E_BadEquation.X.ox E_BadEquation.iC E_BadEquation.tI G_BadEquation_init (hr.mono (by decide)) E_BadEquation.b .nil pass0 (by rfl) E_BadEquation.m pa) (da_cons de_int (da_cons de_str da_nil)))) dxs_nil)
  (dxs_cons (dx_for (fun _ => rfl) (di_or (di_enumL (fun _ => by rfl) (fun _ => T.enumerate) (da_cons (de_var (fun _ => pv 0)) da_nil)) (di_enumT (fun _ => by rfl) (fun _ => T.enumerate) (da_cons (de_var (fun _ => pv 0)) da_nil))) (dg_tup (n := 2) (dgs_cons (dg_name (i := 1) (fun _ => pg_name sc_check_systemX.nd rfl (by first | exact Or.inl rfl | exact Or.inr rfl))) (dgs_cons (dg_name (i := 2) (fun _ => pg_name sc_check_systemX.nd rfl (by first | exact Or.inl rfl | exact Or.inr rfl))) dgs_nil))) (dxs_cons (dx_if (dt_w (dw_or (dt_not (dt_val (de_call (fun _ pa => pe_call G_is_couple (hr.mono (by decide)) (by rfl) D_is_couple.m D_is_couple.F.kp D_is_couple.b .nil pass0 pa) (dl_val (de_var (fun _ => pv 2)) dl_nil)))) (dw_or (dt_not (dt_val (de_call (fun _ pa => pe_call G_is_whole (hr.mono (by decide)) (by rfl) D_is_whole.m D_is_whole.F.kp D_is_whole.b .nil pass0 pa) (dl_val (de_ixA (de_var (fun _ => pv 2)) de_int (fun _ _ => rfl)) dl_nil)))) (dw_or1 (dt_not (dt_val (de_call (fun _ pa => pe_call G_is_side (hr.mono (by decide)) (by rfl) D_is_side.m D_is_side.F.kp D_is_side.b .nil pass0 pa) (dl_val (de_ixA (de_var (fun _ => pv 2)) de_int (fun _ _ => rfl)) dl_nil)))))))) (dxs_one (dx_raiseF (ns := ["at", "what"]) (fun _ => rfl) (by decide) (fun _ pa => pmk_oex E_BadEquation.X.ox E_BadEquation.iC E_BadEquation.tI G_BadEquation_init (hr.mono (by decide)) E_BadEquation.b .nil pass0 (by rfl) E_BadEquation.m pa) (da_cons (de_var (fun _ => pv 1)) (da_cons de_str da_nil)))) dxs_nil)
  (dxs_one (dx_if (dt_cmpC (cd_ne (fun _ => ru64 hr)) (de_callB (fun _ => cr_len rfl) rc_len (fun _ => by rfl) (fun _ => T.len) PySem.boot_len (da_cons (de_ixA (de_var (fun _ => pv 2)) de_int (fun _ _ => rfl)) da_nil)) (de_callB (fun _ => cr_len rfl) rc_len (fun _ => by rfl) (fun _ => T.len) PySem.boot_len (da_cons (de_ixA (de_ixA (de_var (fun _ => pv 0)) de_int (fun _ _ => rfl)) de_int (fun _ _ => rfl)) da_nil)) (nomark _)) (dxs_one (dx_raiseF (ns := ["at", "what"]) (fun _ => rfl) (by decide) (fun _ pa => pmk_oex E_BadEquation.X.ox E_BadEquation.iC E_BadEquation.tI G_BadEquation_init (hr.mono (by decide)) E_BadEquation.b .nil pass0 (by rfl) E_BadEquation.m pa) (da_cons (de_var (fun _ => pv 1)) (da_cons de_str da_nil)))) dxs_nil))) (fun _ => passes_of rfl))
  (dxs_of (dss_one (ds_ret (de_callTy (fun _ => cr_tuple rfl) rc_tuple (fun _ => by rfl) (fun _ => T.tuple_) (by decide +kernel) (da_cons (de_n (dn_lc (o := true) (own := [(("number" : Str), 3), (("factors" : Str), 4)]) (fun _ => rfl) (fun _ => sc_check_systemX.nd) (di_seq (de_var (fun _ => pv 0))) (fun _ => (blkOk_by (own := [(("number" : Str), 3), (("factors" : Str), 4)]) (N := ["system", "at", "equation", "number", "factors"]) (sc := defScope s_check_system) (by decide +kernel))) (dg_tup (n := 2) (dgs_cons (dg_name (i := 3) (fun _ => pg_name sc_check_systemX.nd rfl (by first | exact Or.inl rfl | exact Or.inr rfl))) (dgs_cons (dg_name (i := 4) (fun _ => pg_name sc_check_systemX.nd rfl (by first | exact Or.inl rfl | exact Or.inr rfl))) dgs_nil))) dts_nil (de_tup (da_cons (de_var (fun _ => pv 3)) (da_cons (de_callTy (fun _ => cr_tuple rfl) rc_tuple (fun _ => by rfl) (fun _ => T.tuple_) (by decide +kernel) (da_cons (de_callTy (fun _ => cr_list rfl) rc_list (fun _ => by rfl) (fun _ => T.list_) (by decide +kernel) (da_cons (de_var (fun _ => pv 4)) da_nil)) da_nil)) da_nil))) (by decide))) da_nil)))))))) (fun δ Qd Xd l h => ?_)
  obtain ⟨d, at', w, rfl, hw, hx⟩ := h
  rcases hw with ⟨hp, hs, rfl, rfl⟩ | ⟨b, xs, k, v, x, rfl, hz, hz2, hk, rfl, good, hb⟩
  · refine ⟨rfl, d, rfl, hp, false, congrArg Dt.bl hs, ite_t rfl ?_⟩
    exact ⟨rfl, hx⟩
  refine ⟨rfl, _, rfl, sq_pln, true, congrArg Dt.bl sq_mkS, ite_f rfl ?_⟩
  have hs0 : itemsD (mkS b xs) = some xs := mkS_items _ _
  have kl : k < xs.length := (List.getElem?_eq_some_iff.mp hk).1
  have one : ∀ (u : Nat) (y : Dt), Row u y → u < 1000 → ∃ (n : Int) (fb : Bool) (f : List Int), itemsD y = some [.int n, mkS fb (f.map .int)] ∧ f.length = u ∧ pln y = true ∧ coupD y = true := by
    rintro u y ⟨r, rfl, hl⟩ _
    exact ⟨r.n, r.fb, r.f, mkS_items _ _, hl, sq_pln, couple_row _⟩
  have en : ∀ (i : Nat) (q : Dt), (enumFrom 0 xs)[i]? = some q → ∃ y, xs[i]? = some y ∧ q = .tup [.int (i : Int), y] := fun i q h => by
    have := enumFrom_map id 0 xs
    rw [List.map_id] at this
    rw [this, List.getElem?_map] at h
    obtain ⟨p, hp, rfl⟩ := Option.map_eq_some_iff.mp h
    rw [List.getElem?_zipIdx] at hp
    obtain ⟨y, hy, rfl⟩ := Option.map_eq_some_iff.mp hp
    exact ⟨y, hy, by simp⟩
  have el : (enumFrom 0 xs).length = xs.length := by
    have := enumFrom_map id 0 xs
    rw [List.map_id] at this
    rw [this, List.length_map, List.length_zipIdx]
  cases b
  all_goals
    first
      | refine Or.inr ?_
        show dxForL _ _ _ (enumFrom 0 xs) (.val (.tup xs) :: _)
      | refine Or.inl ?_
        show dxForL _ _ _ (enumFrom 0 xs) (.val (.lst xs) :: _)
    refine dx_untilF (k := k) (fun i δ => ∃ s1 s2, δ = [.val _, s1, s2, .any, .any]) (by rw [el]; exact kl) ⟨_, _, rfl⟩ (fun i dd δ E hi ik hI h1 => ?_) (fun dd δ E hi hI hE => ?_)
    · obtain ⟨s1, s2, rfl⟩ := hI
      obtain ⟨y, hy, rfl⟩ := en i dd hi
      obtain ⟨n, fb, f, iy, fl, py, cy⟩ := one v y (good i y ik hy) hz2
      obtain ⟨y0, xs0, rfl⟩ : ∃ y0 xs0, xs = y0 :: xs0 := by
        cases xs with
        | nil => cases hy
        | cons y0 xs0 => exact ⟨y0, xs0, rfl⟩
      obtain ⟨n0, fb0, f0, iy0, fl0, _, _⟩ := one v y0 (good 0 y0 (by omega) rfl) hz2
      refine ⟨rfl, rfl, rfl, y, rfl, py, true, congrArg Dt.bl cy, ite_f rfl ?_⟩
      refine dIx_items iy (atI_nat (j := 0) rfl) ⟨rfl, .int n, rfl, rfl, true, rfl, ite_f rfl ?_⟩
      refine dIx_items iy (atI_nat (j := 1) rfl) ⟨rfl, mkS fb (f.map .int), rfl, sq_pln, (pl_row fb f (by omega)).2, true, congrArg Dt.bl (side_row fb f), ite_f rfl ?_⟩
      dsimp only
      unfold dxIf
      refine tst_len_ix (b := false) rfl iy (mkS_items _ _) rfl hs0 iy0 (mkS_items _ _) (by rw [List.length_map, List.length_map, fl, fl0]; simp) ?_
      refine ite_f rfl ?_
      exact h1 _ ⟨.val (.int (i : Int)), .val _, rfl⟩
    · obtain ⟨s1, s2, rfl⟩ := hI
      obtain ⟨y, hy, rfl⟩ := en k dd hi
      rw [hk] at hy
      cases hy
      refine ⟨rfl, rfl, ?_⟩
      rcases hb with ⟨⟨px, bf⟩, rfl⟩ | ⟨k0, rfl, u, uv, hu, ru⟩
      · refine ⟨rfl, x, rfl, px, ?_⟩
        rcases bf with bf | ⟨a, c, ix, pa, pc, bf⟩
        · refine ⟨false, congrArg Dt.bl bf, ite_t rfl (ite_t rfl ⟨rfl, ?_⟩)⟩
          rw [hE]
          exact hx
        cases cx : coupD x with
        | false =>
          refine ⟨false, rfl, ite_t rfl (ite_t rfl ⟨rfl, ?_⟩)⟩
          rw [hE]
          exact hx
        | true =>
        refine ⟨true, rfl, ite_f rfl ?_⟩
        refine dIx_items ix (atI_nat (j := 0) rfl) ⟨rfl, a, rfl, pa, ?_⟩
        rcases bf with bf | ⟨bf, bs⟩
        · refine ⟨false, congrArg Dt.bl bf, ite_t rfl (ite_t rfl ⟨rfl, ?_⟩)⟩
          rw [hE]
          exact hx
        refine ⟨true, congrArg Dt.bl bf, ite_f rfl ?_⟩
        refine dIx_items ix (atI_nat (j := 1) rfl) ⟨rfl, c, rfl, pc.1, pc.2, ?_⟩
        refine ⟨false, congrArg Dt.bl bs, ite_t rfl ⟨rfl, ?_⟩⟩
        rw [hE]
        exact hx
      · obtain ⟨n, fb, f, iy, fl, py, cy⟩ := one u x ru hu
        obtain ⟨y0, xs0, rfl⟩ : ∃ y0 xs0, xs = y0 :: xs0 := by
          cases xs with
          | nil => cases hk
          | cons y0 xs0 => exact ⟨y0, xs0, rfl⟩
        obtain ⟨n0, fb0, f0, iy0, fl0, _, _⟩ := one v y0 (good 0 y0 (by omega) rfl) hz2
        refine ⟨rfl, x, rfl, py, true, congrArg Dt.bl cy, ite_f rfl ?_⟩
        refine dIx_items iy (atI_nat (j := 0) rfl) ⟨rfl, .int n, rfl, rfl, true, rfl, ite_f rfl ?_⟩
        refine dIx_items iy (atI_nat (j := 1) rfl) ⟨rfl, mkS fb (f.map .int), rfl, sq_pln, (pl_row fb f (by omega)).2, true, congrArg Dt.bl (side_row fb f), ite_f rfl ?_⟩
        dsimp only
        unfold dxIf
        refine tst_len_ix (b := true) rfl iy (mkS_items _ _) rfl hs0 iy0 (mkS_items _ _) (by rw [List.length_map, List.length_map, fl, fl0]; simp [uv]) ?_
        refine ite_t rfl ⟨rfl, ?_⟩
        rw [hE]
        exact hx
end
def sp_wholeX (C : Addr) : SpcX := fun δ _ X => ∃ (d : Dt) (at' : Int) (w : Str), δ = [.val d] ∧ Wrong d at' w ∧ X (exBE C at' w)
theorem sc_wholeX : FnScope ["system", "equations", "moves", "start", "zero", "ways", "waiting", "at", "figures", "row"] ["system"] (defScope s_whole) := ⟨rfl, rfl, rfl, by decide +kernel, rfl, by decide +kernel, by decide +kernel⟩
section
variable {P : Program} {w : World} {K : PySem.W.Frag} {mg : Str → Option Value} {base : Heap}
theorem ok_wholeX   (E_PressError : X0 K mg "PressError" ve) (E_BadEquation : X1 K mg "BadEquation" "BadEquation.__init__" s_BadEquation_init ["self", "at", "what"] ["at", "what"] (.ref E_PressError.C :: ve)) (D_whole : Dn K mg "whole" s_whole ["system"]) (D_check_system : Dn K mg "check_system" s_check_system ["system"]) (G_check_system : FnOk P w K mg base (L2.CX P w) 3 D_check_system.f D_check_system.fd ["system"] (dspX K 1 (sp_checkX E_BadEquation.C))) (T : TB mg) : FnOk P w K mg base (L2.CX P w) 4 D_whole.f D_whole.fd ["system"] (dspX K 1 (sp_wholeX E_BadEquation.C)) := by
  refine fn_x (k := 3) (N := ["system", "equations", "moves", "start", "zero", "ways", "waiting", "at", "figures", "row"]) D_whole.F sc_wholeX (fun cdv Ar outer s H E hr => (dxs_stop (dx_set (fun _ p => ps_set (i := 1) sc_wholeX.nd rfl (by first | exact Or.inl rfl | exact Or.inr rfl) p) (dex_call (fun _ W tk pa => pe_callS G_check_system (hr.mono (by decide)) (by rfl) D_check_system.m D_check_system.F.kp D_check_system.b (passAt tk) pa) (dl_val (de_var (fun _ => pv 0)) dl_nil))))) (fun δ Qd Xd l h => ?_)
  obtain ⟨d, at', w, rfl, hw, hx⟩ := h
  exact ⟨rfl, d, at', w, rfl, hw, hx⟩
end
end My
set_option maxHeartbeats 1000000
/-! repr of any data without instances: scalars, lists, tuples, empty dicts -/
namespace Dl
open PySem PySem.Spec PyProof.Rows L2 Lcn Sq
/-- sys.modules is a dict -/
def GSys (base : Heap) : Prop := ∃ o es n, base.get? sysModules = some o ∧ o.data = .dict es n
mutual
def pyW : Dt → PyData
  | .non => .none
  | .bl b => .bool b
  | .int i => .int i
  | .str s => .str s
  | .lst xs => .list (pyWL xs)
  | .tup xs => .tuple (pyWL xs)
  | .dk _ => .dict []
  | .ins _ _ => .none
  | .dt _ => .none
def pyWL : List Dt → List PyData
  | [] => []
  | x :: r => pyW x :: pyWL r
end
mutual
def okW : Dt → Bool
  | .non => true
  | .bl _ => true
  | .int _ => true
  | .str _ => true
  | .lst xs => okWL xs
  | .tup xs => okWL xs
  | .dk es => es.isEmpty
  | .ins _ _ => false
  | .dt _ => false
def okWL : List Dt → Bool
  | [] => true
  | x :: r => okW x && okWL r
end
section
variable {X : Cx} {pins : List (Addr × Obj)} {σ : L2.St} {H : Hp} {s : Shared} {av : Addr → Prop}
mutual
theorem reads_W (I : Inv X pins σ H s) (g : GSys X.base) : ∀ (d : Dt) (v : V) (u : Value), okW d = true → Rep X.K av H v d → RelV v u → ∃ as, Reads s.heap u (pyW d) as ∧ sysModules ∉ as
  | .non, _, _, _, h, r => by
    cases h
    cases r
    exact ⟨_, Reads.none, fun m => nomatch m⟩
  | .bl b, _, _, _, h, r => by
    cases h
    cases r
    exact ⟨_, Reads.bool b, fun m => nomatch m⟩
  | .int i, _, _, _, h, r => by
    cases h
    obtain ⟨t, rfl⟩ := r
    exact ⟨_, Reads.int i t, fun m => nomatch m⟩
  | .str x, _, _, _, h, r => by
    cases h
    obtain ⟨t, rfl⟩ := r
    exact ⟨_, Reads.str x t, fun m => nomatch m⟩
  | .lst ds, _, _, ok, h, r => by
    obtain ⟨a, xs, rfl, hx, lx⟩ := h.lst_inv
    cases r
    obtain ⟨its, rv, ⟨o, n, ho, hc, _, hd⟩, _⟩ := I.list hx.sq
    obtain ⟨as, hr, na⟩ := reads_WL I g ds _ its (by unfold okW at ok; exact ok) lx rv
    refine ⟨_, Reads.list ho hc hd hr, fun m => ?_⟩
    rcases List.mem_cons.mp m with e | m
    · obtain ⟨o2, es, n2, l2, d2⟩ := g
      have := I.bk _ _ l2
      rw [e, ho] at this
      cases this
      rw [hd] at d2
      cases d2
    · exact na m
  | .tup ds, _, _, ok, h, r => by
    obtain ⟨a, xs, rfl, hx, lx⟩ := h.tup_inv
    cases r
    obtain ⟨its, rv, ⟨o, ho, hc, n, hd⟩, _⟩ := I.tuple hx.sq
    obtain ⟨as, hr, na⟩ := reads_WL I g ds _ its (by unfold okW at ok; exact ok) lx rv
    exact ⟨_, Reads.tuple ho hc hd hr, na⟩
  | .dk es, _, _, ok, h, r => by
    cases h with
    | dk na h l f =>
      rename_i a kvs
      cases r
      have e0 : es = [] := List.isEmpty_iff.mp (by unfold okW at ok; exact ok)
      subst e0
      have k0 : kvs = [] := List.map_eq_nil_iff.mp l
      subst k0
      have ok' : ObjOk X.prog X.w H s.heap a (.dK []) := by
        rcases h with h | ⟨o, h⟩
        · exact I.hok _ _ h
        · exact (I.hok _ _ h).2
      obtain ⟨_, ns, vs, kv, o, es, ep, ho, ex, hd, _, pr, _⟩ := ok'
      cases kv
      have en : es.toList = [] := by
        cases pr' : es.toList with
        | nil => rfl
        | cons y ys =>
          rw [pr'] at pr
          cases pr
      have rr : Reads s.heap (.ref a) (.dict []) (a :: [] ++ []) := Reads.dict (as := []) (bs := []) ho ex.1 hd (by rw [en]; exact ReadsAll.nil) (by rw [en]; exact ReadsAll.nil)
      refine ⟨_, rr, fun m => ?_⟩
      have m : sysModules = a := by simpa using m
      rw [← m] at ns
      exact absurd ns (by decide)
  | .ins _ _, _, _, ok, _, _ => by cases ok
  | .dt _, _, _, ok, _, _ => by cases ok
theorem reads_WL (I : Inv X pins σ H s) (g : GSys X.base) : ∀ (ds : List Dt) (vs : List V) (us : List Value), okWL ds = true → RepL X.K av H vs ds → Vals vs us → ∃ as, ReadsAll s.heap us (pyWL ds) as ∧ sysModules ∉ as
  | [], vs, us, _, h, r => by
    have : vs = [] := List.eq_nil_of_length_eq_zero h.l
    subst this
    cases r
    exact ⟨_, ReadsAll.nil, fun m => nomatch m⟩
  | d :: ds, vs, us, ok, h, r => by
    cases vs with
    | nil => exact absurd h.l (by simp)
    | cons v vs =>
      obtain ⟨h1, h2⟩ := RepL.head h
      cases r with
      | cons r1 r2 =>
        unfold okWL at ok
        rw [Bool.and_eq_true] at ok
        obtain ⟨as, q1, n1⟩ := reads_W I g d _ _ ok.1 h1 r1
        obtain ⟨bs, q2, n2⟩ := reads_WL I g ds _ _ ok.2 h2 r2
        exact ⟨_, ReadsAll.cons q1 q2, fun m => (List.mem_append.mp m).elim n1 n2⟩
end
end
/-- what can be shown -/
def shwW (d : Dt) : Bool := okW d && (decide ((pyW d).depth ≤ 64) && ((pyW d).showable && decide ((pyW d).shown.length ≤ sizeLine)))
def rReprW (K : PySem.W.Frag) : List V → Hp → VK → Prop := fun vs H Q => ∃ (v : V) (d : Dt) (av : Addr → Prop), vs = [v] ∧ Rep K av H v d ∧ shwW d = true ∧ Q (.str (pyW d).shown) H
theorem cr_reprW {X : Cx} (gs : GSys X.base) (hg : X.A.guards = some []) (hu : X.A.units + 66 < cLine) : CallR X (.builtin "repr") (rReprW X.K) := by
  intro pins s σ H xs us Q I r h
  obtain ⟨v, d, av, rfl, rp, hs, q⟩ := h
  unfold shwW at hs
  simp only [Bool.and_eq_true, decide_eq_true_eq] at hs
  obtain ⟨ok, hdp, hsh, hz⟩ := hs
  cases r with
  | cons ru rn =>
    rename_i u us'
    cases rn
    cases d with
    | non =>
      cases rp
      cases ru
      exact P.repr_of_none ⟨.str (pyW .non).shown, H, I.tok _, ⟨_, rfl⟩, q⟩
    | bl b =>
      cases rp
      cases ru
      exact P.repr_of_bool ⟨.str (pyW (.bl b)).shown, H, I.tok _, ⟨_, rfl⟩, q⟩
    | int i =>
      cases rp
      obtain ⟨t, rfl⟩ := ru
      exact P.repr_of_int (by unfold pyW PyData.showable at hsh; exact of_decide_eq_true hsh) ⟨.str (pyW (.int i)).shown, H, I.tok _, ⟨_, rfl⟩, q⟩
    | str x =>
      cases rp
      obtain ⟨t, rfl⟩ := ru
      exact P.repr_of_str ⟨.str (pyW (.str x)).shown, H, I.tok _, ⟨_, rfl⟩, q⟩ (hsz := hz)
    | ins => cases ok
    | dt => cases ok
    | lst ds =>
      obtain ⟨as, rd, na⟩ := reads_W I gs _ v u ok rp ru
      obtain ⟨a, xs, rfl, hx, lx⟩ := rp.lst_inv
      cases ru
      exact repr_of_reads' rd hsh (fun _ => na) hg (by omega) (fun _ _ e => e) (fun h' u tk hk => ⟨.str (pyW (.lst ds)).shown, H, I.kept hk, ⟨u, rfl⟩, q⟩) hz
    | tup ds =>
      obtain ⟨as, rd, na⟩ := reads_W I gs _ v u ok rp ru
      obtain ⟨a, xs, rfl, hx, lx⟩ := rp.tup_inv
      cases ru
      exact repr_of_reads' rd hsh (fun _ => na) hg (by omega) (fun _ _ e => e) (fun h' u tk hk => ⟨.str (pyW (.tup ds)).shown, H, I.kept hk, ⟨u, rfl⟩, q⟩) hz
    | dk es =>
      obtain ⟨as, rd, na⟩ := reads_W I gs _ v u ok rp ru
      cases rp
      cases ru
      exact repr_of_reads' rd hsh (fun _ => na) hg (by omega) (fun _ _ e => e) (fun h' u tk hk => ⟨.str (pyW (.dk es)).shown, H, I.kept hk, ⟨u, rfl⟩, q⟩) hz
def dReprW (ds : List Dt) (Q : Dt → Prop) : Prop := ∃ d, ds = [d] ∧ shwW d = true ∧ Q (.str (pyW d).shown)
theorem rc_reprW {K : PySem.W.Frag} : RcOk K (rReprW K) dReprW := fun av H xs ds Q Qd al r e q => by
  obtain ⟨d, rfl, hs, e⟩ := e
  obtain ⟨x, rfl, rx⟩ := repl1 r
  exact ⟨x, d, av, rfl, rx, hs, q _ _ H (Same.refl _) (.str _) e⟩
end Dl
/-! a law's start: the source stands, nothing else is known -/
namespace Dl
open PySem PySem.Spec PyProof.Rows L2 Lcn Sq
theorem sok_law {K : PySem.W.Frag} {a p L : Addr} {ns : List Int} {H : Hp} {n : Nat} (s : Src H p L ns) : Sok ⟨K, some (p, L, ns, []), fun b => b = p ∨ b = L, H, []⟩ H (some (.ref a) :: some (.ref p) :: List.replicate n none) (.any :: .src :: List.replicate n .any) := by
  have noo : ∀ (i : Nat) (a' : Addr) (ds : Oc), (Sl.any :: Sl.src :: List.replicate n Sl.any)[i]? ≠ some (.own a' ds) := fun i a' ds h => by
    match i with
    | 0 => cases h
    | 1 => cases h
    | i + 2 =>
      have h : (List.replicate n Sl.any)[i]? = some (.own a' ds) := h
      rw [List.getElem?_replicate] at h
      split at h <;> cases h
  refine ⟨by simp, fun i x h => ?_, fun i j u t b g1 g2 f1 f2 => ?_, fun i a' c h => absurd h (noo i a' c), ⟨s, fun p m => nomatch m⟩, Stp.refl H, (fun b h => h.imp id fun h => h.elim id fun h => (nomatch h)), fun b h => ?_, fun p m => nomatch m⟩
  · match i with
    | 0 =>
      cases h
      trivial
    | 1 =>
      cases h
      exact ⟨_, rfl, rfl⟩
    | i + 2 =>
      have h : (List.replicate n Sl.any)[i]? = some x := h
      rw [List.getElem?_replicate] at h
      split at h
      · cases h
        trivial
      · cases h
  · cases u with
    | own a' ds => exact absurd g1 (noo i a' ds)
    | _ => exact f1.elim
  · obtain ⟨_, _, _, q⟩ := s
    rcases h with rfl | rfl
    · exact ⟨_, q.at_, nt_lst⟩
    · exact ⟨_, q.ls, nt_lst⟩
theorem sok_lawT {K : PySem.W.Frag} {a p L : Addr} {ns : List Int} {T : List (Addr × Str)} {H : Hp} {n : Nat} (s : Src H p L ns) (t : LamX.Tabs T H) : Sok ⟨K, some (p, L, ns, T), sa (some (p, L, ns, T)), H, []⟩ H (some (.ref a) :: some (.ref p) :: List.replicate n none) (.any :: .srt T :: List.replicate n .any) := by
  have noo : ∀ (i : Nat) (a' : Addr) (ds : Oc), (Sl.any :: Sl.srt T :: List.replicate n Sl.any)[i]? ≠ some (.own a' ds) := fun i a' ds h => by
    match i with
    | 0 => cases h
    | 1 => cases h
    | i + 2 =>
      have h : (List.replicate n Sl.any)[i]? = some (.own a' ds) := h
      rw [List.getElem?_replicate] at h
      split at h <;> cases h
  refine ⟨by simp, fun i x h => ?_, fun i j u t b g1 g2 f1 f2 => ?_, fun i a' c h => absurd h (noo i a' c), ⟨s, t⟩, Stp.refl H, fun b h => h, fun b h => ?_, fun p m => nomatch m⟩
  · match i with
    | 0 =>
      cases h
      trivial
    | 1 =>
      cases h
      exact ⟨_, rfl, rfl, rfl⟩
    | i + 2 =>
      have h : (List.replicate n Sl.any)[i]? = some x := h
      rw [List.getElem?_replicate] at h
      split at h
      · cases h
        trivial
      · cases h
  · cases u with
    | own a' ds => exact absurd g1 (noo i a' ds)
    | _ => exact f1.elim
  · exact Gs.dom (S := some (p, L, ns, T)) ⟨s, t⟩ h
/-- the end: True is given back -/
theorem ends_law {C : Ctx} {D : Ends} (h : ∀ H, D.rt (.bl true) H) : EndsR C D { nx := fun _ => False, rt := fun d => d = .bl true } :=
  ⟨fun _ _ _ _ e => e.elim, fun v d H e r _ qd => by
    subst qd
    rw [r.bl_inv]
    exact h H, fun _ _ _ _ e => e.elim, fun _ _ _ _ e => e.elim⟩
end Dl
set_option maxHeartbeats 1000000
namespace My
open PySem PySem.Spec PyProof.Rows L2 Lcn Sq Dl
theorem pyWL_map (ds : List Dt) : pyWL ds = ds.map pyW := by
  induction ds with
  | nil => rfl
  | cons d ds ih => rw [pyWL, ih, List.map_cons]
/-- a thing that can be shown: its depth, its weight -/
structure ShW (n w : Nat) (d : Dt) : Prop where
  ok : okW d = true
  dp : (pyW d).depth ≤ n
  sh : (pyW d).showable = true
  sl : (pyW d).leavesShort 40 = true
  wt : (pyW d).weight ≤ w
theorem ShW.up {n w n' w' : Nat} {d : Dt} (h : ShW n w d) (hn : n ≤ n') (hw : w ≤ w') : ShW n' w' d := ⟨h.ok, Nat.le_trans h.dp hn, h.sh, h.sl, Nat.le_trans h.wt hw⟩
theorem ShW.fin {n w : Nat} {d : Dt} (h : ShW n w d) (hn : n ≤ 64) (hw : w ≤ 10000) : shwW d = true := by
  have l := PyData.shown_le 40 (by decide) _ h.sl
  have l2 : (pyW d).shown.length ≤ sizeLine := by
    refine Nat.le_trans l ?_
    have := h.wt
    have e : (10000 : Nat) * 42 + 40 ≤ sizeLine := by decide
    omega
  unfold shwW
  rw [h.ok, h.sh, decide_eq_true (Nat.le_trans h.dp hn), decide_eq_true l2]
  rfl
theorem shW_int {i : Int} (h : i.natAbs < 2 ^ 120) : ShW 0 120 (.int i) := by
  have lg : i.natAbs.log2 < 120 := by
    by_cases z : i.natAbs = 0
    · rw [z]
      decide
    · exact (Nat.log2_lt z).mpr h
  refine ⟨rfl, Nat.le_refl _, ?_, ?_, ?_⟩
  · show decide _ = true
    exact decide_eq_true (by omega)
  · show decide _ = true
    refine decide_eq_true ?_
    have := int_text_length_le10 (a := i) (k := 39) (by decide) (Nat.lt_of_lt_of_le h (by decide))
    show (Str.ofString (toString i)).length ≤ 40
    rw [PySem.ofString_length]
    exact this
  · show (if i == 0 then 0 else i.natAbs.log2 + 1) ≤ 120
    split <;> omega
theorem shW_non : ShW 0 0 .non := ⟨rfl, Nat.le_refl _, rfl, rfl, Nat.le_refl _⟩
theorem shW_bl (b : Bool) : ShW 0 0 (.bl b) := ⟨rfl, Nat.le_refl _, rfl, rfl, Nat.le_refl _⟩
theorem shW_emp : ShW 1 0 (.dk []) := ⟨rfl, Nat.le_refl _, rfl, rfl, Nat.le_refl _⟩
theorem shW_str {x : Str} (h : (x.cps.toList.all fun c => decide (c < 16 ^ 8)) = true) (hw : x.cps.size ≤ 9) : ShW 0 9 (.str x) := ⟨rfl, Nat.le_refl _, rfl, h, hw⟩
theorem shW_all {n w : Nat} : ∀ {ds : List Dt}, (∀ d, d ∈ ds → ShW n w d) → okWL ds = true ∧ PyData.depthAll (pyWL ds) ≤ n ∧ PyData.showableAll (pyWL ds) = true ∧ PyData.leavesShortAll 40 (pyWL ds) = true ∧ PyData.weightAll (pyWL ds) ≤ (w + 1) * ds.length
  | [], _ => ⟨rfl, Nat.zero_le _, rfl, rfl, Nat.le_refl _⟩
  | d :: ds, h => by
    obtain ⟨h1, h2, h3, h4, h5⟩ := shW_all fun x m => h x (List.mem_cons_of_mem _ m)
    have a := h d (List.mem_cons_self ..)
    refine ⟨by rw [okWL, a.ok, h1]; rfl, ?_, by rw [pyWL, PyData.showableAll, a.sh, h3]; rfl, by rw [pyWL, PyData.leavesShortAll, a.sl, h4]; rfl, ?_⟩
    · rw [pyWL, PyData.depthAll]
      exact Nat.max_le.mpr ⟨a.dp, h2⟩
    · rw [pyWL, PyData.weightAll, List.length_cons, Nat.mul_succ]
      have := a.wt
      omega
theorem shW_mk {n w m : Nat} {b : Bool} {ds : List Dt} (h : ∀ d, d ∈ ds → ShW n w d) (hm : ds.length ≤ m) : ShW (n + 1) ((w + 1) * m) (mkS b ds) := by
  obtain ⟨h1, h2, h3, h4, h5⟩ := shW_all h
  have h6 := Nat.le_trans h5 (Nat.mul_le_mul_left (w + 1) hm)
  cases b
  · exact ⟨by show okW (.tup ds) = true; rw [okW]; exact h1, by show PyData.depth (.tuple _) ≤ _; rw [PyData.depth]; omega, by show PyData.showable (.tuple _) = true; rw [PyData.showable]; exact h3, by show PyData.leavesShort 40 (.tuple _) = true; rw [PyData.leavesShort]; exact h4, by show PyData.weight (.tuple _) ≤ _; rw [PyData.weight]; exact h6⟩
  · exact ⟨by show okW (.lst ds) = true; rw [okW]; exact h1, by show PyData.depth (.list _) ≤ _; rw [PyData.depth]; omega, by show PyData.showable (.list _) = true; rw [PyData.showable]; exact h3, by show PyData.leavesShort 40 (.list _) = true; rw [PyData.leavesShort]; exact h4, by show PyData.weight (.list _) ≤ _; rw [PyData.weight]; exact h6⟩
theorem shW_ints {b : Bool} {xs : List Int} {m : Nat} (h : ∀ x, x ∈ xs → x.natAbs < 2 ^ 120) (hm : xs.length ≤ m) : ShW 1 (121 * m) (mkS b (xs.map .int)) := shW_mk (fun d md => by
  obtain ⟨x, mx, rfl⟩ := List.mem_map.mp md
  exact shW_int (h x mx)) (by rw [List.length_map]; exact hm)
theorem shW_row {r : RowH} (hn : r.n.natAbs < 2 ^ 120) (hf : ∀ x, x ∈ r.f → x.natAbs < 2 ^ 120) (hl : r.f.length ≤ 5) : ShW 2 1212 (rowH r) := by
  refine shW_mk (n := 1) (w := 605) (m := 2) (fun d m => ?_) (Nat.le_refl _)
  rcases List.mem_cons.mp m with rfl | m
  · exact (shW_int hn).up (by decide) (by decide)
  · have : d = mkS r.fb (r.f.map .int) := by simpa using m
    rw [this]
    exact shW_ints hf hl
end My
set_option maxHeartbeats 4000000
namespace My
open PySem PySem.Spec PyProof.Rows L2 Lcn Sq Dl
open Hm
def sp_either2 : Spc := fun δ Q => ∃ (b : Bool) (ds : List Dt), δ = [.src, .val (mkS b ds)] ∧ ∀ b, Q (mkS b ds)
/-- a system of the law's: at most four equations of v factors, all small -/
structure Sys (S : List (Int × List Int)) (v : Nat) : Prop where
  s4 : S.length ≤ 4
  v4 : v ≤ 4
  fl : ∀ p, p ∈ S → p.2.length = v
  fb : ∀ p, p ∈ S → ∀ x, x ∈ p.2 → x.natAbs < 2 ^ 10
  nb : ∀ p, p ∈ S → p.1.natAbs < 2 ^ 119
def sp_handed : Spc := fun δ Q => ∃ (S : List (Int × List Int)), δ = [.src, .val (sysD S)] ∧ S.length < 1000 ∧ ∀ (b : Bool) (H : List RowH), sysH H = S → Q (mkS b (H.map rowH))
/-- a wrong equation: what it is, the word -/
def Odd (v : Nat) (first : Bool) (x : Dt) (w : Str) : Prop := ShW 3 2000 x ∧ ((BadF x ∧ w = "form") ∨ (first = false ∧ w = "factors" ∧ ∃ u, u ≠ v ∧ u < 1000 ∧ Row u x))
def sp_odd : Spc := fun δ Q => ∃ (p : Int × List Int) (first : Bool), δ = [.src, .val (formD p), .val (.bl first)] ∧ p.2.length ≤ 4 ∧ (∀ x, x ∈ p.2 → x.natAbs < 2 ^ 10) ∧ p.1.natAbs < 2 ^ 119 ∧ ∀ x w, Odd p.2.length first x w → Q (.tup [x, .str w])
def sp_spoilt : Spc := fun δ Q => ∃ (S : List (Int × List Int)) (v : Nat), δ = [.src, .val (sysD S)] ∧ S ≠ [] ∧ Sys S v ∧ ∀ (d : Dt) (k : Nat) (w : Str), Wrong d (k : Int) w → ShW 4 9000 d → Q (.tup [d, .tup [.int (k : Int), .str w]])
theorem sc__law_either : FnScope ["_law_source_here", "_law_thing"] ["_law_source_here", "_law_thing"] (defScope s__law_either) := ⟨rfl, rfl, rfl, by decide +kernel, rfl, by decide +kernel, by decide +kernel⟩
section
variable {P : Program} {w : World} {K : PySem.W.Frag} {mg : Str → Option Value} {base : Heap}
theorem ok__law_either  (D__law_either : Dn K mg "_law_either" s__law_either ["_law_source_here", "_law_thing"]) (D__law_take : Dn K mg "_law_take" s__law_take ["_law_source_here", "_law_many"]) (G__law_take : FnOk P w K mg base CX0 1 D__law_take.f D__law_take.fd ["_law_source_here", "_law_many"] (dsp K 2 sp_take)) (T : TB mg) : FnOk P w K mg base CX0 2 D__law_either.f D__law_either.fd ["_law_source_here", "_law_thing"] (dsp K 2 sp_either2) := by
  refine fn_d (k := 1) (N := ["_law_source_here", "_law_thing"]) D__law_either.F sc__law_either (fun cdv Ar outer s H E hr => (dss_one (ds_ret (de_if (dt_cmpC (cd_eq (fun _ => ru64 hr)) (de_call (fun _ pa => pe_call G__law_take (hr.mono (by decide)) (by rfl) D__law_take.m D__law_take.F.kp D__law_take.b .nil pass0 pa) (dl_src (fun _ => pv 0) (dl_val de_int dl_nil))) de_int (nomark _)) (de_callTy (fun _ => cr_tuple rfl) rc_tuple (fun _ => by rfl) (fun _ => T.tuple_) (by decide +kernel) (da_cons (de_var (fun _ => pv 1)) da_nil)) (de_callTy (fun _ => cr_list rfl) rc_list (fun _ => by rfl) (fun _ => T.list_) (by decide +kernel) (da_cons (de_var (fun _ => pv 1)) da_nil)))))) (fun δ Qd l h => ?_)
  obtain ⟨b, ds, rfl, hq⟩ := h
  refine ⟨rfl, 2, rfl, by decide, by decide, fun r r0 r1 => ?_⟩
  by_cases h : r = 0
  · refine dEq_int true (by simp [h]) ⟨_, rfl, ite_t rfl ?_⟩
    have := hq false
    cases b <;> exact this
  · refine dEq_int false (by simp [h]) ⟨_, rfl, ite_f rfl ?_⟩
    have := hq true
    cases b <;> exact this
end
theorem sc__law_handed : FnScope ["_law_source_here", "_law_system", "_law_form"] ["_law_source_here", "_law_system"] (defScope s__law_handed) := ⟨rfl, rfl, rfl, by decide +kernel, rfl, by decide +kernel, by decide +kernel⟩
section
variable {P : Program} {w : World} {K : PySem.W.Frag} {mg : Str → Option Value} {base : Heap}
theorem ok__law_handed  (D__law_handed : Dn K mg "_law_handed" s__law_handed ["_law_source_here", "_law_system"]) (D__law_either : Dn K mg "_law_either" s__law_either ["_law_source_here", "_law_thing"]) (G__law_either : FnOk P w K mg base CX0 2 D__law_either.f D__law_either.fd ["_law_source_here", "_law_thing"] (dsp K 2 sp_either2)) (T : TB mg) : FnOk P w K mg base CX0 3 D__law_handed.f D__law_handed.fd ["_law_source_here", "_law_system"] (dsp K 2 sp_handed) := by
  refine fn_d (k := 2) (N := ["_law_source_here", "_law_system", "_law_form"]) D__law_handed.F sc__law_handed (fun cdv Ar outer s H E hr => (dss_one (ds_ret (de_call (fun _ pa => pe_call G__law_either (hr.mono (by decide)) (by rfl) D__law_either.m D__law_either.F.kp D__law_either.b .nil pass0 pa) (dl_src (fun _ => pv 0) (dl_val (de_n (dn_lc (o := true) (own := [(("_law_form" : Str), 2)]) (fun _ => rfl) (fun _ => sc__law_handed.nd) (di_seq (de_var (fun _ => pv 1))) (fun _ => (blkOk_by (own := [(("_law_form" : Str), 2)]) (N := ["_law_source_here", "_law_system", "_law_form"]) (sc := defScope s__law_handed) (by decide +kernel))) (dg_name (i := 2) (fun _ => pg_name sc__law_handed.nd rfl (by first | exact Or.inl rfl | exact Or.inr rfl))) dts_nil (de_call (fun _ pa => pe_call G__law_either (hr.mono (by decide)) (by rfl) D__law_either.m D__law_either.F.kp D__law_either.b .nil pass0 pa) (dl_src (fun _ => pv 0) (dl_val (de_n (dn_lst (da_cons (de_ixA (de_var (fun _ => pv 2)) de_int (fun _ _ => rfl)) (da_cons (de_call (fun _ pa => pe_call G__law_either (hr.mono (by decide)) (by rfl) D__law_either.m D__law_either.F.kp D__law_either.b .nil pass0 pa) (dl_src (fun _ => pv 0) (dl_val (de_ixA (de_var (fun _ => pv 2)) de_int (fun _ _ => rfl)) dl_nil))) da_nil)))) dl_nil))) (by decide))) dl_nil)))))) (fun δ Qd l h => ?_)
  obtain ⟨S, rfl, hz, hq⟩ := h
  refine ⟨rfl, by rw [List.length_map]; exact k1000 hz, ?_⟩
  refine lc_some rowH (fun (p : Int × List Int) (r : RowH) => r.n = p.1 ∧ r.f = p.2) S [] (fun p m Q q => ?_) (fun zs ls hs => ?_)
  · refine ⟨_, atI_nat (j := 0) rfl, _, atI_nat (j := 1) rfl, ?_⟩
    refine ⟨rfl, false, p.2.map .int, rfl, fun fb => ?_⟩
    refine ⟨by show 2 ≤ sizeLine; decide, rfl, true, [.int p.1, mkS fb (p.2.map .int)], rfl, fun b => ?_⟩
    exact q ⟨b, p.1, fb, p.2⟩ ⟨rfl, rfl⟩
  · rw [List.nil_append]
    refine ⟨rfl, true, zs.map rowH, rfl, fun b => hq b zs ?_⟩
    refine List.ext_getElem (by unfold sysH; rw [List.length_map, ls]) fun i h1 h2 => ?_
    have hzs : i < zs.length := by omega
    obtain ⟨e1, e2⟩ := hs i S[i] zs[i] (List.getElem?_eq_getElem h2) (List.getElem?_eq_getElem hzs)
    have e3 : (sysH zs)[i] = (zs[i].n, zs[i].f) := by simp [sysH]
    rw [e3, e1, e2]
end
theorem cut_to (xs : List Dt) (j : Nat) : Dl.cutD xs none (some (j : Int)) = xs.take j := by
  unfold Dl.cutD
  rw [HT.sIx_none, HT.sIx_nat, List.drop_zero, Nat.sub_zero]
  rcases Nat.le_total j xs.length with h | h
  · rw [Nat.min_eq_left h]
  · rw [Nat.min_eq_right h, List.take_of_length_le (Nat.le_refl _), List.take_of_length_le h]
theorem cut_from (xs : List Dt) (k : Nat) : Dl.cutD xs (some (k : Int)) none = xs.drop k := by
  unfold Dl.cutD
  rw [HT.sIx_none, HT.sIx_nat]
  rcases Nat.le_total k xs.length with h | h
  · rw [Nat.min_eq_left h]
    exact List.take_of_length_le (by rw [List.length_drop]; exact Nat.le_refl _)
  · rw [Nat.min_eq_right h, List.drop_of_length_le h, List.drop_of_length_le (Nat.le_refl _), List.take_nil]
structure Od (o : Dt) : Prop where
  p : pln o = true
  s : sqD o = false
  w : whD o = false
  d : sideD o = false
  i : itemsD o = none
  h : ShW 1 9 o
theorem od_of {o : Dt} (h : o = .non ∨ o = .bl true ∨ o = .str "1" ∨ o = .dk []) : Od o := by
  rcases h with rfl | rfl | rfl | rfl
  · exact ⟨rfl, rfl, rfl, rfl, rfl, shW_non.up (by decide) (by decide)⟩
  · exact ⟨rfl, rfl, rfl, rfl, rfl, (shW_bl _).up (by decide) (by decide)⟩
  · exact ⟨rfl, rfl, rfl, rfl, rfl, (shW_str (by decide +kernel) (by decide +kernel)).up (by decide) (by decide)⟩
  · exact ⟨rfl, rfl, rfl, rfl, rfl, shW_emp.up (by decide) (by decide)⟩
theorem shW_of {bb : Bool} {n w : Nat} {xs : List Dt} (h : ∀ x, x ∈ xs → ShW n w x) (m : Nat) (hm : xs.length ≤ m) (hn : n + 1 ≤ 3) (hw : (w + 1) * m ≤ 2000) : ShW 3 2000 (mkS bb xs) := (shW_mk h hm).up hn hw
theorem shW_tI {f : List Int} (fl : f.length ≤ 5) (fb : ∀ x, x ∈ f → x.natAbs < 2 ^ 10) : ShW 2 660 (tI f) := by
  refine ShW.up (n := 1) (w := 121 * 5) ?_ (by decide) (by decide)
  exact shW_ints (b := false) (fun x m => Nat.lt_of_lt_of_le (fb x m) (by decide)) fl
theorem odd0 {v : Nat} {first : Bool} {o : Dt} (od : Od o) : Odd v first o "form" := ⟨od.h.up (by decide) (by decide), .inl ⟨⟨od.p, .inl (by unfold coupD; rw [od.i])⟩, rfl⟩⟩
theorem odd1 {v : Nat} {first : Bool} {o : Dt} {f : List Int} (od : Od o) (fl : f.length ≤ 4) (fb : ∀ x, x ∈ f → x.natAbs < 2 ^ 10) : Odd v first (.tup [o, tI f]) "form" := by
  refine ⟨shW_of (bb := false) (n := 2) (w := 660) (fun x m => ?_) 2 (Nat.le_refl _) (by decide) (by decide), .inl ⟨⟨rfl, .inr ⟨o, tI f, rfl, od.p, pl_row false f (by omega), .inl od.w⟩⟩, rfl⟩⟩
  rcases List.mem_cons.mp m with rfl | m
  · exact od.h.up (by decide) (by decide)
  · have : x = tI f := by simpa using m
    rw [this]
    exact shW_tI (by omega) fb
theorem odd2 {v : Nat} {first : Bool} {o : Dt} {n : Int} (od : Od o) (nb : n.natAbs < 2 ^ 119) : Odd v first (.lst [.int n, o]) "form" := by
  refine ⟨shW_of (bb := true) (n := 2) (w := 660) (fun x m => ?_) 2 (Nat.le_refl _) (by decide) (by decide), .inl ⟨⟨rfl, .inr ⟨.int n, o, rfl, rfl, ⟨od.p, fun es h => by rw [od.i] at h; cases h⟩, .inr ⟨rfl, od.d⟩⟩⟩, rfl⟩⟩
  rcases List.mem_cons.mp m with rfl | m
  · exact (shW_int (Nat.lt_of_lt_of_le nb (by decide))).up (by decide) (by decide)
  · have : x = o := by simpa using m
    rw [this]
    exact od.h.up (by decide) (by decide)
theorem odd3 {v : Nat} {first : Bool} {o : Dt} {n : Int} {f : List Int} (od : Od o) (fl : f.length ≤ 4) (fb : ∀ x, x ∈ f → x.natAbs < 2 ^ 10) (nb : n.natAbs < 2 ^ 119) : Odd v first (.tup [.int n, .lst (f.map .int ++ [o])]) "form" := by
  have it : ∀ x, x ∈ f.map Dt.int ++ [o] → ShW 1 120 x ∧ pln x = true := fun x m => by
    rcases List.mem_append.mp m with m | m
    · obtain ⟨y, my, rfl⟩ := List.mem_map.mp m
      exact ⟨(shW_int (Nat.lt_of_lt_of_le (fb y my) (by decide))).up (by decide) (by decide), rfl⟩
    · have : x = o := by simpa using m
      rw [this]
      exact ⟨od.h.up (by decide) (by decide), od.p⟩
  have ln : (f.map Dt.int ++ [o]).length ≤ 5 := by
    rw [List.length_append, List.length_map]
    show f.length + 1 ≤ 5
    omega
  have sd : sideD (.lst (f.map .int ++ [o])) = false := by
    show (f.map Dt.int ++ [o]).all whD = false
    rw [List.all_append]
    simp [od.w]
  refine ⟨shW_of (bb := false) (n := 2) (w := 660) (fun x m => ?_) 2 (Nat.le_refl _) (by decide) (by decide), .inl ⟨⟨rfl, .inr ⟨.int n, _, rfl, rfl, ⟨rfl, fun es h => ?_⟩, .inr ⟨rfl, sd⟩⟩⟩, rfl⟩⟩
  · rcases List.mem_cons.mp m with rfl | m
    · exact (shW_int (Nat.lt_of_lt_of_le nb (by decide))).up (by decide) (by decide)
    · have : x = .lst (f.map .int ++ [o]) := by simpa using m
      rw [this]
      exact (shW_mk (b := true) (fun y m => (it y m).1) ln).up (by decide) (by decide)
  · cases h
    exact ⟨by omega, fun y m => (it y m).2⟩
theorem odd4 {v : Nat} {first : Bool} {x : Dt} {n : Int} {f : List Int} (fl : f.length ≤ 4) (fb : ∀ x, x ∈ f → x.natAbs < 2 ^ 10) (nb : n.natAbs < 2 ^ 119) (h : x = .tup [.int n] ∨ x = .tup [.int n, tI f, .int 0] ∨ x = .tup []) : Odd v first x "form" := by
  have si : ∀ i : Int, i.natAbs < 2 ^ 119 → ShW 2 660 (.int i) := fun i h => (shW_int (Nat.lt_of_lt_of_le h (by decide))).up (by decide) (by decide)
  refine ⟨?_, .inl ⟨⟨?_, .inl ?_⟩, rfl⟩⟩
  · rcases h with rfl | rfl | rfl
    · exact shW_of (bb := false) (n := 2) (w := 660) (fun x m => by simp at m; rw [m]; exact si n nb) 1 (Nat.le_refl _) (by decide) (by decide)
    · refine shW_of (bb := false) (n := 2) (w := 660) (fun x m => ?_) 3 (Nat.le_refl _) (by decide) (by decide)
      simp at m
      rcases m with rfl | rfl | rfl
      · exact si n nb
      · exact shW_tI (by omega) fb
      · exact si 0 (by decide)
    · exact shW_of (bb := false) (n := 2) (w := 660) (fun x m => nomatch m) 0 (Nat.le_refl _) (by decide) (by decide)
  · rcases h with rfl | rfl | rfl <;> rfl
  · rcases h with rfl | rfl | rfl <;> rfl
theorem odd5 {v : Nat} {n : Int} {g : List Int} (gl : g.length ≤ 5) (gb : ∀ x, x ∈ g → x.natAbs < 2 ^ 10) (nb : n.natAbs < 2 ^ 119) (ne : g.length ≠ v) : Odd v false (.tup [.int n, tI g]) "factors" := by
  refine ⟨shW_of (bb := false) (n := 2) (w := 660) (fun x m => ?_) 2 (Nat.le_refl _) (by decide) (by decide), .inr ⟨rfl, rfl, g.length, ne, by omega, ⟨false, n, false, g⟩, rfl, rfl⟩⟩
  rcases List.mem_cons.mp m with rfl | m
  · exact (shW_int (Nat.lt_of_lt_of_le nb (by decide))).up (by decide) (by decide)
  · have : x = tI g := by simpa using m
    rw [this]
    exact shW_tI gl gb
theorem sc__law_odd_equation : FnScope ["_law_source_here", "_law_form", "_law_first", "_law_odd", "_law_kind"] ["_law_source_here", "_law_form", "_law_first"] (defScope s__law_odd_equation) := ⟨rfl, rfl, rfl, by decide +kernel, rfl, by decide +kernel, by decide +kernel⟩
section
variable {P : Program} {w : World} {K : PySem.W.Frag} {mg : Str → Option Value} {base : Heap}
theorem ok__law_odd_equation  (D__law_odd_equation : Dn K mg "_law_odd_equation" s__law_odd_equation ["_law_source_here", "_law_form", "_law_first"]) (D__law_take : Dn K mg "_law_take" s__law_take ["_law_source_here", "_law_many"]) (G__law_take : FnOk P w K mg base CX0 1 D__law_take.f D__law_take.fd ["_law_source_here", "_law_many"] (dsp K 2 sp_take)) (T : TB mg) : FnOk P w K mg base CX0 2 D__law_odd_equation.f D__law_odd_equation.fd ["_law_source_here", "_law_form", "_law_first"] (dsp K 3 sp_odd) := by
  refine fn_d (k := 1) (N := ["_law_source_here", "_law_form", "_law_first", "_law_odd", "_law_kind"]) D__law_odd_equation.F sc__law_odd_equation (fun cdv Ar outer s H E hr => (dss_cons (ds_set (fun _ p => ps_set (i := 3) sc__law_odd_equation.nd rfl (by first | exact Or.inl rfl | exact Or.inr rfl) p) (de_ixA (de_n (dn_lst (da_cons de_non (da_cons de_bl (da_cons de_str (da_cons de_emp da_nil)))))) (de_call (fun _ pa => pe_call G__law_take (hr.mono (by decide)) (by rfl) D__law_take.m D__law_take.F.kp D__law_take.b .nil pass0 pa) (dl_src (fun _ => pv 0) (dl_val de_int dl_nil))) (fun _ _ => rfl)))
  (dss_cons (ds_set (fun _ p => ps_set (i := 4) sc__law_odd_equation.nd rfl (by first | exact Or.inl rfl | exact Or.inr rfl) p) (de_call (fun _ pa => pe_call G__law_take (hr.mono (by decide)) (by rfl) D__law_take.m D__law_take.F.kp D__law_take.b .nil pass0 pa) (dl_src (fun _ => pv 0) (dl_val (de_if (dt_tru (de_var (fun _ => pv 2))) de_int de_int) dl_nil))))
  (dss_cons (ds_if (dt_cmpC (cd_eq (fun _ => ru64 hr)) (de_var (fun _ => pv 4)) de_int (nomark _)) (dss_one (ds_ret (de_tup (da_cons (de_var (fun _ => pv 3)) (da_cons de_str da_nil))))) dss_nil)
  (dss_cons (ds_if (dt_cmpC (cd_eq (fun _ => ru64 hr)) (de_var (fun _ => pv 4)) de_int (nomark _)) (dss_one (ds_ret (de_tup (da_cons (de_tup (da_cons (de_var (fun _ => pv 3)) (da_cons (de_ixA (de_var (fun _ => pv 1)) de_int (fun _ _ => rfl)) da_nil))) (da_cons de_str da_nil))))) dss_nil)
  (dss_cons (ds_if (dt_cmpC (cd_eq (fun _ => ru64 hr)) (de_var (fun _ => pv 4)) de_int (nomark _)) (dss_one (ds_ret (de_tup (da_cons (de_n (dn_lst (da_cons (de_ixA (de_var (fun _ => pv 1)) de_int (fun _ _ => rfl)) (da_cons (de_var (fun _ => pv 3)) da_nil)))) (da_cons de_str da_nil))))) dss_nil)
  (dss_cons (ds_if (dt_cmpC (cd_eq (fun _ => ru64 hr)) (de_var (fun _ => pv 4)) de_int (nomark _)) (dss_one (ds_ret (de_tup (da_cons (de_tup (da_cons (de_ixA (de_var (fun _ => pv 1)) de_int (fun _ _ => rfl)) (da_cons (de_add (de_callTy (fun _ => cr_list rfl) rc_list (fun _ => by rfl) (fun _ => T.list_) (by decide +kernel) (da_cons (de_ixA (de_var (fun _ => pv 1)) de_int (fun _ _ => rfl)) da_nil)) (de_n (dn_lst (da_cons (de_var (fun _ => pv 3)) da_nil)))) da_nil))) (da_cons de_str da_nil))))) dss_nil)
  (dss_cons (ds_if (dt_cmpC (cd_eq (fun _ => ru64 hr)) (de_var (fun _ => pv 4)) de_int (nomark _)) (dss_one (ds_ret (de_tup (da_cons (de_ixA (de_n (dn_lst (da_cons (de_tup (da_cons (de_ixA (de_var (fun _ => pv 1)) de_int (fun _ _ => rfl)) da_nil)) (da_cons (de_tup (da_cons (de_ixA (de_var (fun _ => pv 1)) de_int (fun _ _ => rfl)) (da_cons (de_ixA (de_var (fun _ => pv 1)) de_int (fun _ _ => rfl)) (da_cons de_int da_nil)))) (da_cons (de_tup da_nil) da_nil))))) (de_call (fun _ pa => pe_call G__law_take (hr.mono (by decide)) (by rfl) D__law_take.m D__law_take.F.kp D__law_take.b .nil pass0 pa) (dl_src (fun _ => pv 0) (dl_val de_int dl_nil))) (fun _ _ => rfl)) (da_cons de_str da_nil))))) dss_nil)
  (dss_cons (ds_if (dt_w (dw_and (dt_cmpC (cd_eq (fun _ => ru64 hr)) (de_var (fun _ => pv 4)) de_int (nomark _)) (dw_and1 (dt_cmpC cd_gt (de_callB (fun _ => cr_len rfl) rc_len (fun _ => by rfl) (fun _ => T.len) PySem.boot_len (da_cons (de_ixA (de_var (fun _ => pv 1)) de_int (fun _ _ => rfl)) da_nil)) de_int (nomark _))))) (dss_one (ds_ret (de_tup (da_cons (de_tup (da_cons (de_ixA (de_var (fun _ => pv 1)) de_int (fun _ _ => rfl)) (da_cons (de_slice (de_ixA (de_var (fun _ => pv 1)) de_int (fun _ _ => rfl)) (do_some de_int) do_none) da_nil))) (da_cons de_str da_nil))))) dss_nil)
  (dss_one (ds_ret (de_tup (da_cons (de_tup (da_cons (de_ixA (de_var (fun _ => pv 1)) de_int (fun _ _ => rfl)) (da_cons (de_add (de_ixA (de_var (fun _ => pv 1)) de_int (fun _ _ => rfl)) (de_tup (da_cons de_int da_nil))) da_nil))) (da_cons de_str da_nil)))))))))))))) (fun δ Qd l h => ?_)
  obtain ⟨⟨n, f⟩, first, rfl, fl, fb, nb, hq⟩ := h
  refine ⟨by show 4 ≤ sizeLine; decide, rfl, 4, rfl, by decide, by decide, fun r r0 r1 => ?_⟩
  have pick : ∃ o, atI [.non, .bl true, .str "1", .dk []] r = some o ∧ Od o := by
    have : r = 0 ∨ r = 1 ∨ r = 2 ∨ r = 3 := by omega
    rcases this with rfl | rfl | rfl | rfl
    · exact ⟨_, rfl, od_of (.inl rfl)⟩
    · exact ⟨_, rfl, od_of (.inr (.inl rfl))⟩
    · exact ⟨_, rfl, od_of (.inr (.inr (.inl rfl)))⟩
    · exact ⟨_, rfl, od_of (.inr (.inr (.inr rfl)))⟩
  obtain ⟨o, ho, od⟩ := pick
  refine ⟨o, ho, ?_⟩
  have two : 2 ≤ sizeLine := by decide
  cases first
  · refine ⟨trivial, false, rfl, ite_f rfl ⟨rfl, 7, rfl, by decide, by decide, fun k k0 k1 => ?_⟩⟩
    by_cases z0 : k = 0
    · exact dEq_int true (by simp [z0]) ⟨_, rfl, ite_t rfl ⟨two, hq _ _ (odd0 od)⟩⟩
    refine dEq_int false (by simp [z0]) ⟨_, rfl, ite_f rfl ?_⟩
    by_cases z1 : k = 1
    · exact dEq_int true (by simp [z1]) ⟨_, rfl, ite_t rfl ⟨_, atI_nat (j := 1) rfl, two, two, hq _ _ (odd1 od fl fb)⟩⟩
    refine dEq_int false (by simp [z1]) ⟨_, rfl, ite_f rfl ?_⟩
    by_cases z2 : k = 2
    · exact dEq_int true (by simp [z2]) ⟨_, rfl, ite_t rfl ⟨_, atI_nat (j := 0) rfl, two, two, hq _ _ (odd2 od nb)⟩⟩
    refine dEq_int false (by simp [z2]) ⟨_, rfl, ite_f rfl ?_⟩
    by_cases z3 : k = 3
    · refine dEq_int true (by simp [z3]) ⟨_, rfl, ite_t rfl ⟨_, atI_nat (j := 0) rfl, _, atI_nat (j := 1) rfl, by show 1 ≤ sizeLine; decide, by show (f.map Dt.int).length + 1 ≤ sizeLine; rw [List.length_map]; exact k1000 (by have fl : f.length ≤ 4 := fl; omega), two, two, hq _ _ (odd3 od fl fb nb)⟩⟩
    refine dEq_int false (by simp [z3]) ⟨_, rfl, ite_f rfl ?_⟩
    by_cases z4 : k = 4
    · refine dEq_int true (by simp [z4]) ⟨_, rfl, ite_t rfl ⟨_, atI_nat (j := 0) rfl, by show 1 ≤ sizeLine; decide, _, atI_nat (j := 0) rfl, _, atI_nat (j := 1) rfl, by show 3 ≤ sizeLine; decide, Nat.zero_le _, by show 3 ≤ sizeLine; decide, rfl, 3, rfl, by decide, by decide, fun j j0 j1 => ?_⟩⟩
      have : j = 0 ∨ j = 1 ∨ j = 2 := by omega
      rcases this with rfl | rfl | rfl
      · exact ⟨_, rfl, two, hq _ _ (odd4 fl fb nb (.inl rfl))⟩
      · exact ⟨_, rfl, two, hq _ _ (odd4 fl fb nb (.inr (.inl rfl)))⟩
      · exact ⟨_, rfl, two, hq _ _ (odd4 fl fb nb (.inr (.inr rfl)))⟩
    refine dEq_int false (by simp [z4]) ⟨_, rfl, ite_f rfl ?_⟩
    have fl : f.length ≤ 4 := fl
    have last : Qd (.tup [.tup [.int n, .tup (f.map .int ++ [.int 0])], .str "factors"]) := by
      have e : (.tup (f.map .int ++ [.int 0]) : Dt) = tI (f ++ [0]) := by
        unfold tI
        rw [List.map_append]
        rfl
      rw [e]
      refine hq _ _ (odd5 (by rw [List.length_append]; show f.length + 1 ≤ 5; omega) (fun x m => ?_) nb (by rw [List.length_append]; show f.length + 1 ≠ f.length; omega))
      rcases List.mem_append.mp m with m | m
      · exact fb x m
      · have : x = 0 := by simpa using m
        rw [this]
        decide
    by_cases z5 : k = 5
    · refine dEq_int true (by simp [z5]) ⟨_, rfl, ite_t rfl ⟨_, atI_nat (j := 1) rfl, _, rfl, ?_⟩⟩
      have fl2 : ((f.map Dt.int).length : Int) = (f.length : Int) := by rw [List.length_map]
      by_cases zf : f.length = 0
      · refine ite_f (decide_eq_false (by show ¬ (0 : Int) < ((f.map Dt.int).length : Int); rw [fl2]; omega)) ?_
        exact ⟨_, atI_nat (j := 0) rfl, _, atI_nat (j := 1) rfl, by show 1 ≤ sizeLine; decide, by show (f.map Dt.int).length + 1 ≤ sizeLine; rw [List.length_map]; exact k1000 (by omega), two, two, last⟩
      · refine ite_t (decide_eq_true (by show (0 : Int) < ((f.map Dt.int).length : Int); rw [fl2]; omega)) ⟨_, atI_nat (j := 0) rfl, _, atI_nat (j := 1) rfl, _, rfl, two, two, ?_⟩
        have ec : Dl.cutD (f.map Dt.int) (some 1) none = (f.drop 1).map .int := (cut_from (f.map Dt.int) 1).trans (by rw [List.map_drop])
        show Qd (.tup [.tup [.int n, .tup (Dl.cutD (f.map Dt.int) (some 1) none)], .str "factors"])
        rw [ec]
        exact hq _ _ (odd5 (by rw [List.length_drop]; omega) (fun x m => fb x (List.mem_of_mem_drop m)) nb (by rw [List.length_drop]; show f.length - 1 ≠ f.length; omega))
    · exact dEq_int false (by simp [z5]) ⟨_, rfl, ite_f rfl ⟨_, atI_nat (j := 0) rfl, _, atI_nat (j := 1) rfl, by show 1 ≤ sizeLine; decide, by show (f.map Dt.int).length + 1 ≤ sizeLine; rw [List.length_map]; exact k1000 (by omega), two, two, last⟩⟩
  · refine ⟨trivial, true, rfl, ite_t rfl ⟨rfl, 5, rfl, by decide, by decide, fun k k0 k1 => ?_⟩⟩
    by_cases z0 : k = 0
    · exact dEq_int true (by simp [z0]) ⟨_, rfl, ite_t rfl ⟨two, hq _ _ (odd0 od)⟩⟩
    refine dEq_int false (by simp [z0]) ⟨_, rfl, ite_f rfl ?_⟩
    by_cases z1 : k = 1
    · exact dEq_int true (by simp [z1]) ⟨_, rfl, ite_t rfl ⟨_, atI_nat (j := 1) rfl, two, two, hq _ _ (odd1 od fl fb)⟩⟩
    refine dEq_int false (by simp [z1]) ⟨_, rfl, ite_f rfl ?_⟩
    by_cases z2 : k = 2
    · exact dEq_int true (by simp [z2]) ⟨_, rfl, ite_t rfl ⟨_, atI_nat (j := 0) rfl, two, two, hq _ _ (odd2 od nb)⟩⟩
    refine dEq_int false (by simp [z2]) ⟨_, rfl, ite_f rfl ?_⟩
    by_cases z3 : k = 3
    · refine dEq_int true (by simp [z3]) ⟨_, rfl, ite_t rfl ⟨_, atI_nat (j := 0) rfl, _, atI_nat (j := 1) rfl, by show 1 ≤ sizeLine; decide, by show (f.map Dt.int).length + 1 ≤ sizeLine; rw [List.length_map]; exact k1000 (by have fl : f.length ≤ 4 := fl; omega), two, two, hq _ _ (odd3 od fl fb nb)⟩⟩
    refine dEq_int false (by simp [z3]) ⟨_, rfl, ite_f rfl ?_⟩
    by_cases z4 : k = 4
    · refine dEq_int true (by simp [z4]) ⟨_, rfl, ite_t rfl ⟨_, atI_nat (j := 0) rfl, by show 1 ≤ sizeLine; decide, _, atI_nat (j := 0) rfl, _, atI_nat (j := 1) rfl, by show 3 ≤ sizeLine; decide, Nat.zero_le _, by show 3 ≤ sizeLine; decide, rfl, 3, rfl, by decide, by decide, fun j j0 j1 => ?_⟩⟩
      have : j = 0 ∨ j = 1 ∨ j = 2 := by omega
      rcases this with rfl | rfl | rfl
      · exact ⟨_, rfl, two, hq _ _ (odd4 fl fb nb (.inl rfl))⟩
      · exact ⟨_, rfl, two, hq _ _ (odd4 fl fb nb (.inr (.inl rfl)))⟩
      · exact ⟨_, rfl, two, hq _ _ (odd4 fl fb nb (.inr (.inr rfl)))⟩
    refine dEq_int false (by simp [z4]) ⟨_, rfl, ite_f rfl ?_⟩
    omega
end
theorem shW_form {p : Int × List Int} (fl : p.2.length ≤ 4) (fb : ∀ x, x ∈ p.2 → x.natAbs < 2 ^ 10) (nb : p.1.natAbs < 2 ^ 119) (b : Bool) : ShW 3 2000 (mkS b [.int p.1, tI p.2]) := by
  refine shW_of (n := 2) (w := 660) (fun x m => ?_) 2 (Nat.le_refl _) (by decide) (by decide)
  rcases List.mem_cons.mp m with rfl | m
  · exact (shW_int (Nat.lt_of_lt_of_le nb (by decide))).up (by decide) (by decide)
  · have : x = tI p.2 := by simpa using m
    rw [this]
    exact shW_tI (by omega) fb
theorem ixN_nat {n i : Nat} (h : i < n) : ixN n (i : Int) = some i := by
  have : atI (List.range n) (i : Int) = some i := atI_nat (by simp [h])
  unfold atI at this
  rw [List.length_range] at this
  cases e : ixN n (i : Int) with
  | none => rw [e] at this; cases this
  | some j =>
    rw [e] at this
    have h2 : (List.range n)[j]? = some i := this
    have := (List.getElem?_eq_some_iff.mp h2).2
    simp at this
    rw [this]
def Bad (v : Nat) (k : Nat) (x : Dt) (w : Str) : Prop := (BadF x ∧ w = "form") ∨ (0 < k ∧ w = "factors" ∧ ∃ u, u ≠ v ∧ u < 1000 ∧ Row u x)
def SpI (S : List (Int × List Int)) (v : Nat) (ps : List Int) (i : Nat) (told : List Dt) (due : Dt) : Prop := told.length = S.length ∧ (∀ y, y ∈ told → ShW 3 2000 y) ∧
  ((i = 0 ∧ due = .non ∧ ∀ y, y ∈ told → Row v y) ∨ (0 < i ∧ ∃ (k : Nat) (x : Dt) (w : Str), due = .tup [.int (k : Int), .str w] ∧ told[k]? = some x ∧ Bad v k x w ∧ (∀ (j : Nat) (y : Dt), j < k → told[j]? = some y → Row v y) ∧ ∀ p, p ∈ ps → (k : Int) ≤ p))
theorem mem_set {α : Type} {xs : List α} {i : Nat} {x y : α} (h : y ∈ xs.set i x) : y ∈ xs ∨ y = x := by
  rcases List.mem_or_eq_of_mem_set h with h | h
  · exact .inl h
  · exact .inr h
theorem spI_first {S : List (Int × List Int)} {v : Nat} {ps : List Int} {told : List Dt} {due x : Dt} {w : Str} {p : Int} (h : SpI S v ps 0 told due) (p0 : 0 ≤ p) (p1 : p < S.length) (mn : ∀ q, q ∈ ps → p ≤ q) (o : Odd v (decide (p = 0)) x w) : SpI S v ps 1 (told.set p.toNat x) (.tup [.int p, .str w]) := by
  obtain ⟨hl, hs, h | h⟩ := h
  · obtain ⟨_, rfl, hr⟩ := h
    refine ⟨by rw [List.length_set]; exact hl, fun y m => ?_, .inr ⟨Nat.one_pos, p.toNat, x, w, by rw [Int.toNat_of_nonneg p0], List.getElem?_set_self (by omega), ?_, fun j y hj hy => ?_, fun q m => by rw [Int.toNat_of_nonneg p0]; exact mn q m⟩⟩
    · rcases mem_set m with m | rfl
      · exact hs y m
      · exact o.1
    · rcases o.2 with b | ⟨e, b, c⟩
      · exact .inl b
      · refine .inr ⟨?_, b, c⟩
        have := of_decide_eq_false e
        omega
    · rw [List.getElem?_set_ne (by omega)] at hy
      exact hr y (List.mem_of_getElem? hy)
  · exact absurd h.1 (Nat.lt_irrefl _)
theorem spI_next {S : List (Int × List Int)} {v : Nat} {ps : List Int} {told : List Dt} {due x : Dt} {w : Str} {p : Int} {i : Nat} {f : Bool} (h : SpI S v ps i told due) (i0 : 0 < i) (m : p ∈ ps) (ne : ∀ (k : Nat) (w : Str), due = .tup [.int (k : Int), .str w] → p ≠ k) (o : Odd v f x w) : SpI S v ps (i + 1) (told.set p.toNat x) due := by
  obtain ⟨hl, hs, h | ⟨_, k, y, w', rfl, hk, hb, hg, hm⟩⟩ := h
  · omega
  have pk := hm p m
  have pn := ne k w' rfl
  refine ⟨by rw [List.length_set]; exact hl, fun y m => ?_, .inr ⟨Nat.succ_pos _, k, y, w', rfl, ?_, hb, fun j z hj hz => ?_, hm⟩⟩
  · rcases mem_set m with m | rfl
    · exact hs y m
    · exact o.1
  · rw [List.getElem?_set_ne (by omega)]
    exact hk
  · rw [List.getElem?_set_ne (by omega)] at hz
    exact hg j z hj hz
theorem spI_up {S : List (Int × List Int)} {v : Nat} {ps : List Int} {told : List Dt} {due : Dt} {i : Nat} (h : SpI S v ps i told due) (i0 : 0 < i) : SpI S v ps (i + 1) told due := by
  obtain ⟨hl, hs, h | ⟨_, h⟩⟩ := h
  · omega
  · exact ⟨hl, hs, .inr ⟨Nat.succ_pos _, h⟩⟩
theorem spI_out {S : List (Int × List Int)} {v : Nat} {ps : List Int} {told : List Dt} {due : Dt} {i : Nat} (h : SpI S v ps i told due) (i0 : 0 < i) (s4 : S.length ≤ 4) (v4 : v ≤ 4) (b : Bool) : ∃ (k : Nat) (w : Str), due = .tup [.int (k : Int), .str w] ∧ Wrong (mkS b told) (k : Int) w ∧ ShW 4 9000 (mkS b told) := by
  obtain ⟨hl, hs, h | ⟨_, k, y, w', rfl, hk, hb, hg, hm⟩⟩ := h
  · omega
  exact ⟨k, w', rfl, .inr ⟨b, told, k, v, y, rfl, by omega, by omega, hk, rfl, hg, hb⟩, (shW_mk hs (m := 4) (by omega)).up (by decide) (by decide)⟩
theorem sc__law_spoilt : FnScope ["_law_source_here", "_law_system", "_law_places", "_law_told", "_law_due", "_law_at", "_law_form", "_law_odd", "_law_word"] ["_law_source_here", "_law_system"] (defScope s__law_spoilt) := ⟨rfl, rfl, rfl, by decide +kernel, rfl, by decide +kernel, by decide +kernel⟩
section
variable {P : Program} {w : World} {K : PySem.W.Frag} {mg : Str → Option Value} {base : Heap}
theorem ok__law_spoilt  (D__law_spoilt : Dn K mg "_law_spoilt" s__law_spoilt ["_law_source_here", "_law_system"]) (D__law_take : Dn K mg "_law_take" s__law_take ["_law_source_here", "_law_many"]) (G__law_take : FnOk P w K mg base CX0 1 D__law_take.f D__law_take.fd ["_law_source_here", "_law_many"] (dsp K 2 sp_take)) (D__law_either : Dn K mg "_law_either" s__law_either ["_law_source_here", "_law_thing"]) (G__law_either : FnOk P w K mg base CX0 2 D__law_either.f D__law_either.fd ["_law_source_here", "_law_thing"] (dsp K 2 sp_either2)) (D__law_odd_equation : Dn K mg "_law_odd_equation" s__law_odd_equation ["_law_source_here", "_law_form", "_law_first"]) (G__law_odd_equation : FnOk P w K mg base CX0 2 D__law_odd_equation.f D__law_odd_equation.fd ["_law_source_here", "_law_form", "_law_first"] (dsp K 3 sp_odd)) (T : TB mg) : FnOk P w K mg base CX0 3 D__law_spoilt.f D__law_spoilt.fd ["_law_source_here", "_law_system"] (dsp K 2 sp_spoilt) := by
  refine fn_d (k := 2) (N := ["_law_source_here", "_law_system", "_law_places", "_law_told", "_law_due", "_law_at", "_law_form", "_law_odd", "_law_word"]) D__law_spoilt.F sc__law_spoilt (fun cdv Ar outer s H E hr => (dss_cons (ds_set (fun _ p => ps_set (i := 2) sc__law_spoilt.nd rfl (by first | exact Or.inl rfl | exact Or.inr rfl) p) (de_n (dn_lst (da_cons (de_call (fun _ pa => pe_call G__law_take (hr.mono (by decide)) (by rfl) D__law_take.m D__law_take.F.kp D__law_take.b .nil pass0 pa) (dl_src (fun _ => pv 0) (dl_val (de_callB (fun _ => cr_len rfl) rc_len (fun _ => by rfl) (fun _ => T.len) PySem.boot_len (da_cons (de_var (fun _ => pv 1)) da_nil)) dl_nil))) da_nil))))
  (dss_cons (ds_if (dt_cmpC (cd_eq (fun _ => ru64 hr)) (de_call (fun _ pa => pe_call G__law_take (hr.mono (by decide)) (by rfl) D__law_take.m D__law_take.F.kp D__law_take.b .nil pass0 pa) (dl_src (fun _ => pv 0) (dl_val de_int dl_nil))) de_int (nomark _)) (dss_one (ds_set (fun _ p => ps_set (i := 2) sc__law_spoilt.nd rfl (by first | exact Or.inl rfl | exact Or.inr rfl) p) (de_callB (fun _ => cr_sortI rfl) rc_sortI (fun _ => by rfl) (fun _ => T.sorted) (by decide +kernel) (da_cons (de_n (dn_lst (da_cons (de_ixA (de_var (fun _ => pv 2)) de_int (fun _ _ => rfl)) (da_cons (de_call (fun _ pa => pe_call G__law_take (hr.mono (by decide)) (by rfl) D__law_take.m D__law_take.F.kp D__law_take.b .nil pass0 pa) (dl_src (fun _ => pv 0) (dl_val (de_callB (fun _ => cr_len rfl) rc_len (fun _ => by rfl) (fun _ => T.len) PySem.boot_len (da_cons (de_var (fun _ => pv 1)) da_nil)) dl_nil))) da_nil)))) da_nil)))) dss_nil)
  (dss_cons (ds_ofN (ds_lcN (o := true) (i := 3) (own := [(("_law_form" : Str), 6)]) (fun _ => rfl) (fun _ => sc__law_spoilt.nd) (fun _ => rfl) (fun _ => rfl) (fun _ => sw_true rfl rfl rfl (by decide +kernel)) (di_seq (de_var (fun _ => pv 1))) (fun _ => (blkOk_by (own := [(("_law_form" : Str), 6)]) (N := ["_law_source_here", "_law_system", "_law_places", "_law_told", "_law_due", "_law_at", "_law_form", "_law_odd", "_law_word"]) (sc := defScope s__law_spoilt) (by decide +kernel))) (dg_name (i := 6) (fun _ => pg_name sc__law_spoilt.nd rfl (by first | exact Or.inl rfl | exact Or.inr rfl))) dts_nil (de_call (fun _ pa => pe_call G__law_either (hr.mono (by decide)) (by rfl) D__law_either.m D__law_either.F.kp D__law_either.b .nil pass0 pa) (dl_src (fun _ => pv 0) (dl_val (de_var (fun _ => pv 6)) dl_nil))) (by decide) rfl))
  (dss_cons (ds_set (fun _ p => ps_set (i := 4) sc__law_spoilt.nd rfl (by first | exact Or.inl rfl | exact Or.inr rfl) p) de_non)
  (dss_cons (ds_for (fun _ => rfl) (di_seq (de_var (fun _ => pv 2))) (dg_name (i := 5) (fun _ => pg_name sc__law_spoilt.nd rfl (by first | exact Or.inl rfl | exact Or.inr rfl))) (dss_cons (ds_if (dt_w (dw_and (dt_cmpC cd_notN (de_var (fun _ => pv 4)) de_non (nomark _)) (dw_and1 (dt_cmpC (cd_eq (fun _ => ru64 hr)) (de_var (fun _ => pv 5)) (de_ixA (de_var (fun _ => pv 4)) de_int (fun _ _ => rfl)) (nomark _))))) (dss_one ds_continue) dss_nil)
  (dss_cons (ds_asg (fun _ p q => ps_asg p q) (de_call (fun _ pa => pe_call G__law_odd_equation (hr.mono (by decide)) (by rfl) D__law_odd_equation.m D__law_odd_equation.F.kp D__law_odd_equation.b .nil pass0 pa) (dl_src (fun _ => pv 0) (dl_val (de_ixA (de_var (fun _ => pv 1)) (de_var (fun _ => pv 5)) (fun _ _ => rfl)) (dl_val (de_cmpC (cd_eq (fun _ => ru64 hr)) (de_var (fun _ => pv 5)) de_int (nomark _)) dl_nil)))) (dg_tup (n := 2) (dgs_cons (dg_name (i := 7) (fun _ => pg_name sc__law_spoilt.nd rfl (by first | exact Or.inl rfl | exact Or.inr rfl))) (dgs_cons (dg_name (i := 8) (fun _ => pg_name sc__law_spoilt.nd rfl (by first | exact Or.inl rfl | exact Or.inr rfl))) dgs_nil))))
  (dss_cons (ds_put (fun _ p q => ps_asg p (pg_sub (pv 3) q set_list)) (de_var (fun _ => pv 7)) (de_var (fun _ => pv 5)))
  (dss_one (ds_if (dt_cmpC cd_isN (de_var (fun _ => pv 4)) de_non (nomark _)) (dss_one (ds_set (fun _ p => ps_set (i := 4) sc__law_spoilt.nd rfl (by first | exact Or.inl rfl | exact Or.inr rfl) p) (de_tup (da_cons (de_var (fun _ => pv 5)) (da_cons (de_var (fun _ => pv 8)) da_nil))))) dss_nil))))) (fun _ => PassesOwn.never))
  (dss_one (ds_ret (de_tup (da_cons (de_call (fun _ pa => pe_call G__law_either (hr.mono (by decide)) (by rfl) D__law_either.m D__law_either.F.kp D__law_either.b .nil pass0 pa) (dl_src (fun _ => pv 0) (dl_val (de_varO (fun _ => pv 3)) dl_nil))) (da_cons (de_var (fun _ => pv 4)) da_nil))))))))))) (fun δ Qd l h => ?_)
  obtain ⟨S, v, rfl, ne, ok, hq⟩ := h
  have s4 := ok.s4
  have s0 : 0 < S.length := List.length_pos_iff.mpr ne
  have big : (S.length : Int) < 2 ^ 200 := Int.lt_trans (by omega : (S.length : Int) < 1000) (by decide)
  have el : ((S.map formD).length : Int) = (S.length : Int) := by rw [List.length_map]
  refine ⟨rfl, ((S.map formD).length : Int), rfl, by rw [el]; omega, by rw [el]; exact big, fun p1 p10 p11 => ?_⟩
  rw [el] at p11
  refine ⟨by show 1 ≤ sizeLine; decide, rfl, 3, rfl, by decide, by decide, fun r r0 r1 => ?_⟩
  by_cases hr : r = 0
  · refine dEq_int true (by simp [hr]) ⟨_, rfl, ite_t rfl ?_⟩
    refine ⟨_, atI_nat (j := 0) rfl, rfl, ((S.map formD).length : Int), rfl, by rw [el]; omega, by rw [el]; exact big, fun p2 p20 p21 => ?_⟩
    rw [el] at p21
    refine ⟨by show 2 ≤ sizeLine; decide, [p1, p2], rfl, fun ms pm pw => ?_⟩
    obtain ⟨pne, pin, pmin⟩ : ms ≠ [] ∧ (∀ p, p ∈ ms → 0 ≤ p ∧ p < S.length) ∧ ∀ p q, ms[0]? = some p → q ∈ ms → p ≤ q := by
      refine ⟨fun e => ?_, fun p m => ?_, fun p q h m => ?_⟩
      · have := pm.length_eq
        rw [e] at this
        simp at this
      · have := pm.subset m
        simp at this
        rcases this with rfl | rfl
        · exact ⟨p10, p11⟩
        · exact ⟨p20, p21⟩
      · cases ms with
        | nil => cases h
        | cons y ys =>
          cases h
          rcases List.mem_cons.mp m with rfl | m
          · exact Int.le_refl _
          · exact (List.pairwise_cons.mp pw).1 q m
    clear pm pw
    refine ⟨rfl, by rw [List.length_map]; exact k1000 (by omega), ?_⟩
    refine lc_some (fun r : Bool × (Int × List Int) => mkS r.1 [.int r.2.1, tI r.2.2]) (fun p r => r.2 = p) S [] (fun p m Q q => ?_) (fun zs ls hs => ?_)
    · exact ⟨rfl, false, [.int p.1, tI p.2], rfl, fun b => q (b, p) rfl⟩
    intro a
    rw [List.nil_append]
    have zr : ∀ r, r ∈ zs → r.2 ∈ S := fun r m => by
      obtain ⟨i, hi⟩ := List.mem_iff_getElem?.mp m
      have li : i < S.length := by rw [← ls]; exact (List.getElem?_eq_some_iff.mp hi).1
      rw [hs i S[i] r (List.getElem?_eq_getElem li) hi]
      exact List.getElem_mem ..
    have st : SpI S v ms 0 (zs.map fun r => mkS r.1 [.int r.2.1, tI r.2.2]) .non := by
      refine ⟨by rw [List.length_map, ls], fun y m => ?_, .inl ⟨rfl, rfl, fun y m => ?_⟩⟩
      · obtain ⟨r, mr, rfl⟩ := List.mem_map.mp m
        have ms := zr r mr
        exact shW_form (by rw [ok.fl _ ms]; exact ok.v4) (ok.fb _ ms) (ok.nb _ ms) r.1
      · obtain ⟨r, mr, rfl⟩ := List.mem_map.mp m
        exact ⟨⟨r.1, r.2.1, false, r.2.2⟩, rfl, ok.fl _ (zr r mr)⟩
    refine for_inv (fun i δ => ∃ (told : List Dt) (due : Dt) (s5 s6 : Sl) (s7 s8 : Sl), δ = [.src, .val (sysD S), .val (.lst (ms.map .int)), .own a (.l told), .val due, s5, s6, s7, s8] ∧ SpI S v ms i told due) ⟨_, _, _, _, _, _, rfl, st⟩ (fun i dd δ N hi hI h1 => ?_) (fun δ hI => ?_)
    · obtain ⟨told, due, s5, s6, s7, s8, rfl, hsp⟩ := hI
      have hi : (ms.map Dt.int)[i]? = some dd := hi
      rw [List.getElem?_map] at hi
      obtain ⟨p, hp, rfl⟩ := Option.map_eq_some_iff.mp hi
      have pm := List.mem_of_getElem? hp
      obtain ⟨q0, q1⟩ := pin p pm
      have tl : told.length = S.length := hsp.1
      obtain ⟨k, rfl⟩ : ∃ k : Nat, p = (k : Int) := ⟨p.toNat, by omega⟩
      have kS : k < S.length := by omega
      have atS : atI (S.map formD) (k : Int) = some (formD S[k]) := atI_map (f := formD) (atI_nat (List.getElem?_eq_getElem kS))
      have ms : S[k] ∈ S := List.getElem_mem ..
      have fl := ok.fl _ ms
      have b4 : S[k].2.length ≤ 4 := by rw [fl]; exact ok.v4
      rcases Nat.eq_zero_or_pos i with i0 | i0
      · subst i0
        have edue : due = .non := by
          obtain ⟨_, _, h | h⟩ := hsp
          · exact h.2.1
          · exact absurd h.1 (Nat.lt_irrefl _)
        subst edue
        refine ⟨rfl, false, rfl, ite_f rfl (ite_f rfl ?_)⟩
        refine ⟨_, atS, dEq_int (decide ((k : Int) = 0)) rfl ⟨rfl, S[k], decide ((k : Int) = 0), rfl, b4, ok.fb _ ms, ok.nb _ ms, fun x w od => ?_⟩⟩
        refine ⟨rfl, rfl, k, ixN_nat (by omega), rfl, true, rfl, ite_t rfl ⟨by show 2 ≤ sizeLine; decide, ?_⟩⟩
        rw [fl] at od
        exact h1 _ ⟨_, _, _, _, _, _, rfl, spI_first hsp q0 q1 (fun q m => pmin _ q hp m) od⟩
      · obtain ⟨_, _, h | ⟨_, k0, x0, w0, rfl, hk0, hb0, hg0, hm0⟩⟩ := id hsp
        · omega
        by_cases hkk : (k : Int) = (k0 : Int)
        · refine ⟨rfl, true, rfl, ite_t rfl ⟨_, atI_nat (j := 0) rfl, dEq_int true (by simp [hkk]) ⟨_, rfl, ite_t rfl ?_⟩⟩⟩
          exact h1 _ ⟨_, _, _, _, _, _, rfl, spI_up hsp i0⟩
        refine ⟨rfl, true, rfl, ite_t rfl ⟨_, atI_nat (j := 0) rfl, dEq_int false (by simp [hkk]) ⟨_, rfl, ite_f rfl ?_⟩⟩⟩
        refine ⟨_, atS, dEq_int (decide ((k : Int) = 0)) rfl ⟨rfl, S[k], decide ((k : Int) = 0), rfl, b4, ok.fb _ ms, ok.nb _ ms, fun x w od => ?_⟩⟩
        refine ⟨rfl, rfl, k, ixN_nat (by omega), rfl, false, rfl, ite_f rfl ?_⟩
        rw [fl] at od
        exact h1 _ ⟨_, _, _, _, _, _, rfl, spI_next hsp i0 pm (fun k' w' e => by cases e; exact hkk) od⟩
    · obtain ⟨told, due, s5, s6, s7, s8, rfl, hsp⟩ := hI
      have i0 : 0 < (ms.map Dt.int).length := by rw [List.length_map]; exact List.length_pos_iff.mpr pne
      refine ⟨rfl, true, told, rfl, fun b => ?_⟩
      obtain ⟨k, w, e, hw, hsh⟩ := spI_out hsp i0 s4 ok.v4 b
      subst e
      exact ⟨by show 2 ≤ sizeLine; decide, hq _ k w hw hsh⟩
  · refine dEq_int false (by simp [hr]) ⟨_, rfl, ite_f rfl ?_⟩
    obtain ⟨pne, pin, pmin⟩ : [p1] ≠ [] ∧ (∀ p, p ∈ [p1] → 0 ≤ p ∧ p < S.length) ∧ ∀ p q, [p1][0]? = some p → q ∈ [p1] → p ≤ q := ⟨by simp, fun p m => by simp at m; rw [m]; exact ⟨p10, p11⟩, fun p q h m => by simp at h m; omega⟩
    refine ⟨rfl, by rw [List.length_map]; exact k1000 (by omega), ?_⟩
    refine lc_some (fun r : Bool × (Int × List Int) => mkS r.1 [.int r.2.1, tI r.2.2]) (fun p r => r.2 = p) S [] (fun p m Q q => ?_) (fun zs ls hs => ?_)
    · exact ⟨rfl, false, [.int p.1, tI p.2], rfl, fun b => q (b, p) rfl⟩
    intro a
    rw [List.nil_append]
    have zr : ∀ r, r ∈ zs → r.2 ∈ S := fun r m => by
      obtain ⟨i, hi⟩ := List.mem_iff_getElem?.mp m
      have li : i < S.length := by rw [← ls]; exact (List.getElem?_eq_some_iff.mp hi).1
      rw [hs i S[i] r (List.getElem?_eq_getElem li) hi]
      exact List.getElem_mem ..
    have st : SpI S v [p1] 0 (zs.map fun r => mkS r.1 [.int r.2.1, tI r.2.2]) .non := by
      refine ⟨by rw [List.length_map, ls], fun y m => ?_, .inl ⟨rfl, rfl, fun y m => ?_⟩⟩
      · obtain ⟨r, mr, rfl⟩ := List.mem_map.mp m
        have ms := zr r mr
        exact shW_form (by rw [ok.fl _ ms]; exact ok.v4) (ok.fb _ ms) (ok.nb _ ms) r.1
      · obtain ⟨r, mr, rfl⟩ := List.mem_map.mp m
        exact ⟨⟨r.1, r.2.1, false, r.2.2⟩, rfl, ok.fl _ (zr r mr)⟩
    refine for_inv (fun i δ => ∃ (told : List Dt) (due : Dt) (s5 s6 : Sl) (s7 s8 : Sl), δ = [.src, .val (sysD S), .val (.lst ([p1].map .int)), .own a (.l told), .val due, s5, s6, s7, s8] ∧ SpI S v [p1] i told due) ⟨_, _, _, _, _, _, rfl, st⟩ (fun i dd δ N hi hI h1 => ?_) (fun δ hI => ?_)
    · obtain ⟨told, due, s5, s6, s7, s8, rfl, hsp⟩ := hI
      have hi : ([p1].map Dt.int)[i]? = some dd := hi
      rw [List.getElem?_map] at hi
      obtain ⟨p, hp, rfl⟩ := Option.map_eq_some_iff.mp hi
      have pm := List.mem_of_getElem? hp
      obtain ⟨q0, q1⟩ := pin p pm
      have tl : told.length = S.length := hsp.1
      obtain ⟨k, rfl⟩ : ∃ k : Nat, p = (k : Int) := ⟨p.toNat, by omega⟩
      have kS : k < S.length := by omega
      have atS : atI (S.map formD) (k : Int) = some (formD S[k]) := atI_map (f := formD) (atI_nat (List.getElem?_eq_getElem kS))
      have ms : S[k] ∈ S := List.getElem_mem ..
      have fl := ok.fl _ ms
      have b4 : S[k].2.length ≤ 4 := by rw [fl]; exact ok.v4
      rcases Nat.eq_zero_or_pos i with i0 | i0
      · subst i0
        have edue : due = .non := by
          obtain ⟨_, _, h | h⟩ := hsp
          · exact h.2.1
          · exact absurd h.1 (Nat.lt_irrefl _)
        subst edue
        refine ⟨rfl, false, rfl, ite_f rfl (ite_f rfl ?_)⟩
        refine ⟨_, atS, dEq_int (decide ((k : Int) = 0)) rfl ⟨rfl, S[k], decide ((k : Int) = 0), rfl, b4, ok.fb _ ms, ok.nb _ ms, fun x w od => ?_⟩⟩
        refine ⟨rfl, rfl, k, ixN_nat (by omega), rfl, true, rfl, ite_t rfl ⟨by show 2 ≤ sizeLine; decide, ?_⟩⟩
        rw [fl] at od
        exact h1 _ ⟨_, _, _, _, _, _, rfl, spI_first hsp q0 q1 (fun q m => pmin _ q hp m) od⟩
      · obtain ⟨_, _, h | ⟨_, k0, x0, w0, rfl, hk0, hb0, hg0, hm0⟩⟩ := id hsp
        · omega
        by_cases hkk : (k : Int) = (k0 : Int)
        · refine ⟨rfl, true, rfl, ite_t rfl ⟨_, atI_nat (j := 0) rfl, dEq_int true (by simp [hkk]) ⟨_, rfl, ite_t rfl ?_⟩⟩⟩
          exact h1 _ ⟨_, _, _, _, _, _, rfl, spI_up hsp i0⟩
        refine ⟨rfl, true, rfl, ite_t rfl ⟨_, atI_nat (j := 0) rfl, dEq_int false (by simp [hkk]) ⟨_, rfl, ite_f rfl ?_⟩⟩⟩
        refine ⟨_, atS, dEq_int (decide ((k : Int) = 0)) rfl ⟨rfl, S[k], decide ((k : Int) = 0), rfl, b4, ok.fb _ ms, ok.nb _ ms, fun x w od => ?_⟩⟩
        refine ⟨rfl, rfl, k, ixN_nat (by omega), rfl, false, rfl, ite_f rfl ?_⟩
        rw [fl] at od
        exact h1 _ ⟨_, _, _, _, _, _, rfl, spI_next hsp i0 pm (fun k' w' e => by cases e; exact hkk) od⟩
    · obtain ⟨told, due, s5, s6, s7, s8, rfl, hsp⟩ := hI
      have i0 : 0 < ([p1].map Dt.int).length := by rw [List.length_map]; exact List.length_pos_iff.mpr pne
      refine ⟨rfl, true, told, rfl, fun b => ?_⟩
      obtain ⟨k, w, e, hw, hsh⟩ := spI_out hsp i0 s4 ok.v4 b
      subst e
      exact ⟨by show 2 ≤ sizeLine; decide, hq _ k w hw hsh⟩
end
end My
set_option maxHeartbeats 4000000
namespace My
open PySem PySem.Spec PyProof.Rows L2 Lcn Sq Dl
open Hm
theorem sc__law_refused : FnScope ["_law_call", "_law_at", "_law_what", "e"] ["_law_call", "_law_at", "_law_what"] (defScope s__law_refused) := ⟨rfl, rfl, rfl, by decide +kernel, rfl, by decide +kernel, by decide +kernel⟩
def lamq : Str := ("_law_refusals_right" : Str) ++ (".<locals>." : Str) ++ ("<lambda>" : Str)
def sp_refus (P0 : Addr) : Spc := fun δ Q => ∃ (S : List (Int × List Int)) (v : Nat), δ = [.srt [(P0, lamq)], .val (sysD S)] ∧ Sys S v ∧ Q (.bl true)
theorem sep_formD : Sep formD := sep_two sep_int sep_iT
theorem fit_formD (p : Int × List Int) : Fit 2 (formD p) := fit_tup (n := 1) fun d m => by
  simp at m
  rcases m with rfl | rfl
  · exact fit_int 1 _
  · exact fit_iT _
theorem sys_nil {neg : Bool} {S : List (Int × List Int)} {Q : Dt → Prop} (q : Q (.bl (if neg then !decide (S = []) else decide (S = [])))) : dEq neg (sysD S) (.lst []) Q :=
  dEq_sep (f := fun xs : List (Int × List Int) => Dt.lst (xs.map formD)) (sep_lst sep_formD) (n := 3) (fun xs => fit_lst (fit_map fit_formD xs)) (by decide) (x := S) (y := []) q
theorem fit_strW {x : Str} (h : PyData.strOk x = true) : Fit 0 (.str x) := ⟨by show PyData.strOk x = true; exact h, Nat.le_refl _⟩
theorem eqAW {i : Int} {w : Str} {Q : Dt → Prop} (hw : PyData.strOk w = true) (q : Q (.bl true)) : dEq false (.tup [.int i, .str w]) (.tup [.int i, .str w]) Q := by
  have f : Fit 1 (.tup [.int i, .str w]) := fit_tup (n := 0) fun d m => by
    simp at m
    rcases m with rfl | rfl
    · exact fit_int 0 _
    · exact fit_strW hw
  unfold dEq
  refine ⟨f.sh (by decide), f.sh (by decide), ?_⟩
  rw [eqv_same _ f.1]
  exact q
theorem wrong_str {d : Dt} {k : Int} {w : Str} (h : Wrong d k w) : PyData.strOk w = true := by
  rcases h with ⟨_, _, _, rfl⟩ | ⟨_, _, _, _, _, _, _, _, _, _, _, ⟨_, rfl⟩ | ⟨_, rfl, _⟩⟩ <;> decide +kernel
theorem kit_pe {K : PySem.W.Frag} {mg : Str → Option Value} {st : Stmt} (P : X0 K mg "PressError" ve) (E : X1 K mg "BadEquation" "BadEquation.__init__" st ["self", "at", "what"] ["at", "what"] (.ref P.C :: ve)) : PySem.W.kitOne K (.ref E.C) (.ref P.C) = some true := by
  rw [kit_own E.X P.X]
  simp
theorem kit_ve {K : PySem.W.Frag} {mg : Str → Option Value} {st : Stmt} (P : X0 K mg "PressError" ve) (E : X1 K mg "BadEquation" "BadEquation.__init__" st ["self", "at", "what"] ["at", "what"] (.ref P.C :: ve)) : PySem.W.kitOne K (.ref E.C) (.type "ValueError") = some true := by
  rw [kit_bt E.X (by decide +kernel)]
  rfl
theorem exm_be {K : PySem.W.Frag} {mg : Str → Option Value} {st : Stmt} {bm : List Value} (E : X1 K mg "BadEquation" "BadEquation.__init__" st ["self", "at", "what"] ["at", "what"] bm) : PySem.W.exmOne K (.ref E.C) (.ref E.C) = some true := by
  rw [exm_own E.X E.X]
  simp
theorem sc__law_refusals_right : FnScope ["_law_source_here", "_law_system", "_law_odd", "_law_kept", "_law_wrong", "_law_due"] ["_law_source_here", "_law_system"] (defScope s__law_refusals_right) := ⟨rfl, rfl, rfl, by decide +kernel, rfl, by decide +kernel, by decide +kernel⟩
section
variable {P : Program} {w : World} {K : PySem.W.Frag} {mg : Str → Option Value} {base : Heap}
theorem ok__law_refusals_right (GS : GSys base) (E_PressError : X0 K mg "PressError" ve) (E_BadEquation : X1 K mg "BadEquation" "BadEquation.__init__" s_BadEquation_init ["self", "at", "what"] ["at", "what"] (.ref E_PressError.C :: ve)) (N_ValueError : mg "ValueError" = none) (D__law_refused : Dn K mg "_law_refused" s__law_refused ["_law_call", "_law_at", "_law_what"]) (D_check_system : Dn K mg "check_system" s_check_system ["system"]) (D_whole : Dn K mg "whole" s_whole ["system"]) (GX_check_system : FnOk P w K mg base (L2.CX P w) 3 D_check_system.f D_check_system.fd ["system"] (dspX K 1 (sp_checkX E_BadEquation.C))) (GX_whole : FnOk P w K mg base (L2.CX P w) 4 D_whole.f D_whole.fd ["system"] (dspX K 1 (sp_wholeX E_BadEquation.C))) (D__law_refusals_right : Dn K mg "_law_refusals_right" s__law_refusals_right ["_law_source_here", "_law_system"]) (D__law_take : Dn K mg "_law_take" s__law_take ["_law_source_here", "_law_many"]) (G__law_take : FnOk P w K mg base CX0 1 D__law_take.f D__law_take.fd ["_law_source_here", "_law_many"] (dsp K 2 sp_take)) (D__law_spoilt : Dn K mg "_law_spoilt" s__law_spoilt ["_law_source_here", "_law_system"]) (G__law_spoilt : FnOk P w K mg base CX0 3 D__law_spoilt.f D__law_spoilt.fd ["_law_source_here", "_law_system"] (dsp K 2 sp_spoilt)) (T : TB mg) {cA P0 : Addr} (HCD : D__law_refusals_right.fd.code = .ref cA) (TMB : LamX.TabB base mg cA P0) : Gd.FnG P w K mg base CX0 9 D__law_refusals_right.f D__law_refusals_right.fd ["_law_source_here", "_law_system"] (dsp K 2 (sp_refus P0)) := by
  refine fn_dgc (hc := HCD) (k := 8) (N := ["_law_source_here", "_law_system", "_law_odd", "_law_kept", "_law_wrong", "_law_due"]) D__law_refusals_right.F sc__law_refusals_right (fun Ar outer s H E hgd hr => (dss_cons (ds_set (fun _ p => ps_set (i := 2) sc__law_refusals_right.nd rfl (by first | exact Or.inl rfl | exact Or.inr rfl) p) (de_ixA (de_n (dn_lst (da_cons de_non (da_cons de_int (da_cons de_bl (da_cons de_str (da_cons de_emp (da_cons de_str da_nil)))))))) (de_call (fun _ pa => pe_call G__law_take (hr.mono (by decide)) (by rfl) D__law_take.m D__law_take.F.kp D__law_take.b .nil pass0 pa) (dl_src (fun _ => pv 0) (dl_val de_int dl_nil))) (fun _ _ => rfl)))
  (dss_cons (ds_if (dt_not (dt_val (de_lam (i0 := 0) (ie := 3) (k := 4) (fun _ => rfl) (q := lamq) (fun _ => rfl) (fun _ => by rfl) (fun _ => D__law_refused.m) D__law_refused.F D__law_refused.b sc__law_refused rfl (Or.inl rfl) (by decide) rfl rfl (fun _ => ⟨by rfl, by decide, .inl E_BadEquation.m⟩) (duss_one (dus_ret (due_and (due_cmp (cd_eq (fun j => by have h := ru64 (hr.deeper (PyProof.Rows.envOfC "_law_refused" (defScope s__law_refused) j.j.s.heap.objs.size D__law_refused.f j.j.cg)); exact h)) (due_tup (dua_cons (due_fld (fun _ => pv 3)) (dua_cons (due_fld (fun _ => pv 3)) dua_nil))) (due_of (de_tup (da_cons (de_var (fun _ => pv 1)) (da_cons (de_var (fun _ => pv 2)) da_nil)))) (nomark _)) (due_and (due_isi (fun _ => pv 3) (fun _ => pe_glob (v := .ref E_PressError.C) (by rfl) E_PressError.m rfl) (.own _) (fun _ => by rfl) (fun _ => T.isinstance)) (due_one (due_isi (fun _ => pv 3) (fun _ => pe_bltn (v := .ty "ValueError") (by rfl) N_ValueError (by decide +kernel) rfl) (.ty _) (fun _ => by rfl) (fun _ => T.isinstance))))))) (tr := fun _ _ _ => False) (fun _ => ⟨fun _ _ _ _ _ _ h => h.elim⟩) (fun _ => TMB) (fun _ => rfl) (fun _ => hr.mono (by decide)) (fun _ => LamX.lamS_by (by show LamX.lamSB (defScope s__law_refusals_right) _ = true; decide +kernel)) (fun _ => by rfl) (fun _ _ _ _ _ => by rfl) (dex_call (fun b W tk pa => pe_callS GX_check_system (b.hr.mono (by decide)) (by rfl) D_check_system.m D_check_system.F.kp D_check_system.b (passAt tk) pa) (dl_val (de_var (fun _ => pe_var (i := 2) rfl (Or.inr (Or.inr rfl)))) dl_nil)) (da_cons de_int (da_cons de_str da_nil))))) (dss_one (ds_ret de_bl)) dss_nil)
  (dss_cons (ds_if (dt_not (dt_val (de_lam (i0 := 0) (ie := 3) (k := 4) (fun _ => rfl) (q := lamq) (fun _ => rfl) (fun _ => by rfl) (fun _ => D__law_refused.m) D__law_refused.F D__law_refused.b sc__law_refused rfl (Or.inl rfl) (by decide) rfl rfl (fun _ => ⟨by rfl, by decide, .inl E_BadEquation.m⟩) (duss_one (dus_ret (due_and (due_cmp (cd_eq (fun j => by have h := ru64 (hr.deeper (PyProof.Rows.envOfC "_law_refused" (defScope s__law_refused) j.j.s.heap.objs.size D__law_refused.f j.j.cg)); exact h)) (due_tup (dua_cons (due_fld (fun _ => pv 3)) (dua_cons (due_fld (fun _ => pv 3)) dua_nil))) (due_of (de_tup (da_cons (de_var (fun _ => pv 1)) (da_cons (de_var (fun _ => pv 2)) da_nil)))) (nomark _)) (due_and (due_isi (fun _ => pv 3) (fun _ => pe_glob (v := .ref E_PressError.C) (by rfl) E_PressError.m rfl) (.own _) (fun _ => by rfl) (fun _ => T.isinstance)) (due_one (due_isi (fun _ => pv 3) (fun _ => pe_bltn (v := .ty "ValueError") (by rfl) N_ValueError (by decide +kernel) rfl) (.ty _) (fun _ => by rfl) (fun _ => T.isinstance))))))) (tr := fun _ _ _ => False) (fun _ => ⟨fun _ _ _ _ _ _ h => h.elim⟩) (fun _ => TMB) (fun _ => rfl) (fun _ => hr.mono (by decide)) (fun _ => LamX.lamS_by (by show LamX.lamSB (defScope s__law_refusals_right) _ = true; decide +kernel)) (fun _ => by rfl) (fun _ _ _ _ _ => by rfl) (dex_call (fun b W tk pa => pe_callS GX_whole (b.hr.mono (by decide)) (by rfl) D_whole.m D_whole.F.kp D_whole.b (passAt tk) pa) (dl_val (de_var (fun _ => pe_var (i := 2) rfl (Or.inr (Or.inr rfl)))) dl_nil)) (da_cons de_int (da_cons de_str da_nil))))) (dss_one (ds_ret de_bl)) dss_nil)
  (dss_cons (ds_if (dt_cmpC (cd_eq (fun _ => ru64 hr)) (de_var (fun _ => pv 1)) (de_n (dn_lst da_nil)) (nomark _)) (dss_one (ds_ret de_bl)) dss_nil)
  (dss_cons (ds_asg (fun _ p q => ps_asg p q) (de_call (fun _ pa => pe_call G__law_spoilt (hr.mono (by decide)) (by rfl) D__law_spoilt.m D__law_spoilt.F.kp D__law_spoilt.b .nil pass0 pa) (dl_src (fun _ => pv 0) (dl_val (de_var (fun _ => pv 1)) dl_nil))) (dg_tup (n := 2) (dgs_cons (dg_name (i := 4) (fun _ => pg_name sc__law_refusals_right.nd rfl (by first | exact Or.inl rfl | exact Or.inr rfl))) (dgs_cons (dg_name (i := 5) (fun _ => pg_name sc__law_refusals_right.nd rfl (by first | exact Or.inl rfl | exact Or.inr rfl))) dgs_nil))))
  (dss_cons (ds_set (fun _ p => ps_set (i := 3) sc__law_refusals_right.nd rfl (by first | exact Or.inl rfl | exact Or.inr rfl) p) (de_callB (fun _ => cr_reprW GS hgd (ru66 hr)) rc_reprW (fun _ => by rfl) (fun _ => T.repr) (by decide +kernel) (da_cons (de_var (fun _ => pv 4)) da_nil)))
  (dss_cons (ds_if (dt_not (dt_val (de_lam (i0 := 0) (ie := 3) (k := 4) (fun _ => rfl) (q := lamq) (fun _ => rfl) (fun _ => by rfl) (fun _ => D__law_refused.m) D__law_refused.F D__law_refused.b sc__law_refused rfl (Or.inl rfl) (by decide) rfl rfl (fun _ => ⟨by rfl, by decide, .inl E_BadEquation.m⟩) (duss_one (dus_ret (due_and (due_cmp (cd_eq (fun j => by have h := ru64 (hr.deeper (PyProof.Rows.envOfC "_law_refused" (defScope s__law_refused) j.j.s.heap.objs.size D__law_refused.f j.j.cg)); exact h)) (due_tup (dua_cons (due_fld (fun _ => pv 3)) (dua_cons (due_fld (fun _ => pv 3)) dua_nil))) (due_of (de_tup (da_cons (de_var (fun _ => pv 1)) (da_cons (de_var (fun _ => pv 2)) da_nil)))) (nomark _)) (due_and (due_isi (fun _ => pv 3) (fun _ => pe_glob (v := .ref E_PressError.C) (by rfl) E_PressError.m rfl) (.own _) (fun _ => by rfl) (fun _ => T.isinstance)) (due_one (due_isi (fun _ => pv 3) (fun _ => pe_bltn (v := .ty "ValueError") (by rfl) N_ValueError (by decide +kernel) rfl) (.ty _) (fun _ => by rfl) (fun _ => T.isinstance))))))) (tr := fun _ _ _ => False) (fun _ => ⟨fun _ _ _ _ _ _ h => h.elim⟩) (fun _ => TMB) (fun _ => rfl) (fun _ => hr.mono (by decide)) (fun _ => LamX.lamS_by (by show LamX.lamSB (defScope s__law_refusals_right) _ = true; decide +kernel)) (fun _ => by rfl) (fun _ _ _ _ _ => by rfl) (dex_call (fun b W tk pa => pe_callS GX_check_system (b.hr.mono (by decide)) (by rfl) D_check_system.m D_check_system.F.kp D_check_system.b (passAt tk) pa) (dl_val (de_var (fun _ => pe_var (i := 4) rfl (Or.inr (Or.inr rfl)))) dl_nil)) (da_cons (de_ixA (de_var (fun _ => pv 5)) de_int (fun _ _ => rfl)) (da_cons (de_ixA (de_var (fun _ => pv 5)) de_int (fun _ _ => rfl)) da_nil))))) (dss_one (ds_ret de_bl)) dss_nil)
  (dss_one (ds_ret (de_and (de_lam (i0 := 0) (ie := 3) (k := 4) (fun _ => rfl) (q := lamq) (fun _ => rfl) (fun _ => by rfl) (fun _ => D__law_refused.m) D__law_refused.F D__law_refused.b sc__law_refused rfl (Or.inl rfl) (by decide) rfl rfl (fun _ => ⟨by rfl, by decide, .inl E_BadEquation.m⟩) (duss_one (dus_ret (due_and (due_cmp (cd_eq (fun j => by have h := ru64 (hr.deeper (PyProof.Rows.envOfC "_law_refused" (defScope s__law_refused) j.j.s.heap.objs.size D__law_refused.f j.j.cg)); exact h)) (due_tup (dua_cons (due_fld (fun _ => pv 3)) (dua_cons (due_fld (fun _ => pv 3)) dua_nil))) (due_of (de_tup (da_cons (de_var (fun _ => pv 1)) (da_cons (de_var (fun _ => pv 2)) da_nil)))) (nomark _)) (due_and (due_isi (fun _ => pv 3) (fun _ => pe_glob (v := .ref E_PressError.C) (by rfl) E_PressError.m rfl) (.own _) (fun _ => by rfl) (fun _ => T.isinstance)) (due_one (due_isi (fun _ => pv 3) (fun _ => pe_bltn (v := .ty "ValueError") (by rfl) N_ValueError (by decide +kernel) rfl) (.ty _) (fun _ => by rfl) (fun _ => T.isinstance))))))) (tr := fun _ _ _ => False) (fun _ => ⟨fun _ _ _ _ _ _ h => h.elim⟩) (fun _ => TMB) (fun _ => rfl) (fun _ => hr.mono (by decide)) (fun _ => LamX.lamS_by (by show LamX.lamSB (defScope s__law_refusals_right) _ = true; decide +kernel)) (fun _ => by rfl) (fun _ _ _ _ _ => by rfl) (dex_call (fun b W tk pa => pe_callS GX_whole (b.hr.mono (by decide)) (by rfl) D_whole.m D_whole.F.kp D_whole.b (passAt tk) pa) (dl_val (de_var (fun _ => pe_var (i := 4) rfl (Or.inr (Or.inr rfl)))) dl_nil)) (da_cons (de_ixA (de_var (fun _ => pv 5)) de_int (fun _ _ => rfl)) (da_cons (de_ixA (de_var (fun _ => pv 5)) de_int (fun _ _ => rfl)) da_nil))) (de_one (de_cmpC cd_eqS (de_callB (fun _ => cr_reprW GS hgd (ru66 hr)) rc_reprW (fun _ => by rfl) (fun _ => T.repr) (by decide +kernel) (da_cons (de_var (fun _ => pv 4)) da_nil)) (de_var (fun _ => pv 3)) (nomark _)))))))))))))) (fun δ Qd l h => ?_)
  obtain ⟨S, v, rfl, ok, hq⟩ := h
  have two : 2 ≤ sizeLine := by decide
  refine ⟨by show 6 ≤ sizeLine; decide, Or.inl ⟨rfl, 6, rfl, by decide, by decide, fun r r0 r1 => ?_⟩⟩
  have pick : ∃ o, atI [.non, .int 0, .bl true, .str "", .dk [], .str "12"] r = some o ∧ Wrong o 0 "system" := by
    have : r = 0 ∨ r = 1 ∨ r = 2 ∨ r = 3 ∨ r = 4 ∨ r = 5 := by omega
    rcases this with rfl | rfl | rfl | rfl | rfl | rfl <;> exact ⟨_, rfl, .inl ⟨rfl, rfl, rfl, rfl⟩⟩
  obtain ⟨o, ho, wr⟩ := pick
  refine ⟨o, ho, ?_⟩
  refine ⟨rfl, rfl, rfl, o, 0, _, rfl, wr, exm_be E_BadEquation, (by show 3 < 4; decide), E_BadEquation.X.xc, E_BadEquation.X.no "at" (by simp), _, rfl, E_BadEquation.X.xc, E_BadEquation.X.no "what" (by simp), _, rfl, two, two, eqAW (wrong_str wr) ⟨true, rfl, E_BadEquation.X.xc, true, kit_pe E_PressError E_BadEquation, true, rfl, E_BadEquation.X.xc, true, kit_ve E_PressError E_BadEquation, true, rfl, true, rfl, ite_f rfl ?_⟩⟩
  refine ⟨rfl, rfl, rfl, o, 0, _, rfl, wr, exm_be E_BadEquation, (by show 3 < 4; decide), E_BadEquation.X.xc, E_BadEquation.X.no "at" (by simp), _, rfl, E_BadEquation.X.xc, E_BadEquation.X.no "what" (by simp), _, rfl, two, two, eqAW (wrong_str wr) ⟨true, rfl, E_BadEquation.X.xc, true, kit_pe E_PressError E_BadEquation, true, rfl, E_BadEquation.X.xc, true, kit_ve E_PressError E_BadEquation, true, rfl, true, rfl, ite_f rfl ?_⟩⟩
  refine ⟨Nat.zero_le _, sys_nil ⟨_, rfl, ?_⟩⟩
  by_cases ne : S = []
  · exact ite_t (decide_eq_true ne) hq
  refine ite_f (decide_eq_false ne) ?_
  refine Or.inl ⟨rfl, S, v, rfl, ne, ok, fun d k w hw hsh => ⟨rfl, rfl, ?_⟩⟩
  refine ⟨d, rfl, hsh.fin (by decide) (by decide), ?_⟩
  refine ⟨rfl, _, atI_nat (j := 0) rfl, _, atI_nat (j := 1) rfl, rfl, rfl, d, (k : Int), w, rfl, hw, exm_be E_BadEquation, (by show 3 < 4; decide), E_BadEquation.X.xc, E_BadEquation.X.no "at" (by simp), _, rfl, E_BadEquation.X.xc, E_BadEquation.X.no "what" (by simp), _, rfl, two, two, eqAW (wrong_str hw) ⟨true, rfl, E_BadEquation.X.xc, true, kit_pe E_PressError E_BadEquation, true, rfl, E_BadEquation.X.xc, true, kit_ve E_PressError E_BadEquation, true, rfl, true, rfl, ite_f rfl ?_⟩⟩
  refine ⟨rfl, _, atI_nat (j := 0) rfl, _, atI_nat (j := 1) rfl, rfl, rfl, d, (k : Int), w, rfl, hw, exm_be E_BadEquation, (by show 3 < 4; decide), E_BadEquation.X.xc, E_BadEquation.X.no "at" (by simp), _, rfl, E_BadEquation.X.xc, E_BadEquation.X.no "what" (by simp), _, rfl, two, two, eqAW (wrong_str hw) ⟨true, rfl, E_BadEquation.X.xc, true, kit_pe E_PressError E_BadEquation, true, rfl, E_BadEquation.X.xc, true, kit_ve E_PressError E_BadEquation, true, rfl, true, rfl, d, rfl, hsh.fin (by decide) (by decide), ?_⟩⟩
  generalize (pyW d).shown = z
  show Qd (.bl (decide (z = z)))
  rw [decide_eq_true rfl]
  exact hq
end
end My
set_option maxHeartbeats 4000000
namespace My
open PySem PySem.Spec PyProof.Rows L2 Lcn Sq Dl
open Hm
theorem take_one {α : Type} {xs : List α} {i : Nat} {x : α} (h : xs[i]? = some x) : xs.take (i + 1) = xs.take i ++ [x] := by
  rw [List.take_succ, h]
  rfl
theorem map_int2 {α : Type} (f : α → Int) (xs : List α) : (xs.map fun x => Dt.int (f x)) = (xs.map f).map .int := by rw [List.map_map]; rfl
theorem pair_len (xs ys : List Dt) : (Dl.pairD xs ys).length = min xs.length ys.length := by
  unfold Dl.pairD
  rw [List.length_map, List.length_zip]
theorem pair_mk (s c : List Int) : Dl.pairD (s.map .int) (c.map .int) = (s.zip c).map fun p => .tup [.int p.1, .int p.2] := by
  unfold Dl.pairD
  rw [List.zip_map, List.map_map]
  rfl
def dot (f g : List Int) : Int := ((f.zip g).map fun p => p.1 * p.2).sum
theorem dot_fold (L : List (Int × Int)) : ∀ n : Int, L.foldl (fun t p => t + p.1 * p.2) n = n + (L.map fun p => p.1 * p.2).sum := by
  induction L with
  | nil => intro n; simp
  | cons p L ih => intro n; rw [List.foldl_cons, ih, List.map_cons, List.sum_cons]; omega
def numD : Dt → Int
  | .int n => n
  | _ => 0
def goodN : Dt → Bool
  | .int n => decide (0 ≤ n)
  | _ => false
def valP (p : Int × List Int) (ys : List Dt) : Int := p.1 + dot p.2 (ys.map numD)
def numsT : Dt := .tup [.str "numbers"]
def faultL (S : List (Int × List Int)) (ys : List Dt) : Dt := match (List.range ys.length).find? (fun i => !goodN (ys.getD i .non)) with
  | some i => .tup [.str "number", .int (i : Int)]
  | none => match (List.range S.length).find? (fun i => decide (valP (S.getD i (0, [])) ys ≠ 0)) with
    | some i => .tup [.str "equation", .int (i : Int)]
    | none => .non
def faultD (S : List (Int × List Int)) (v : Nat) (d : Dt) : Dt := match itemsD d with
  | none => numsT
  | some ys => if S ≠ [] ∧ ys.length ≠ v then numsT else faultL S ys
/-- what may be asked -/
structure Ask (d : Dt) : Prop where
  p : pln d = true
  i : ∀ ys, itemsD d = some ys → ys.length < 1000 ∧ ∀ y, y ∈ ys → pln y = true ∧ (numD y).natAbs < 2 ^ 120
def sp_value : Spc := fun δ Q => ∃ (n : Int) (f : List Int) (gb : Bool) (x : List Int), δ = [.val (.tup [.int n, tI f]), .val (mkS gb (x.map .int))] ∧ f.length < 1000 ∧ (∀ a, a ∈ f → a.natAbs < 2 ^ 10) ∧ (∀ a, a ∈ x → a.natAbs < 2 ^ 120) ∧ Q (.int (n + dot f x))
def sp_form : Spc := fun δ Q => ∃ (r : RowH) (xb : Bool) (x : List Int), δ = [.val (rowH r), .val (mkS xb (x.map .int))] ∧ r.f.length < 1000 ∧ (∀ a, a ∈ r.f → a.natAbs < 2 ^ 10) ∧ (∀ a, a ∈ x → a.natAbs < 2 ^ 120) ∧ Q (.int (r.n + dot r.f x))
def sp_fault : Spc := fun δ Q => ∃ (b : Bool) (H : List RowH) (v : Nat) (d : Dt), δ = [.val (mkS b (H.map rowH)), .val d] ∧ (∀ r, r ∈ H → r.f.length = v ∧ ∀ a, a ∈ r.f → a.natAbs < 2 ^ 10) ∧ H.length < 1000 ∧ v < 1000 ∧ Ask d ∧ Q (faultD (sysH H) v d)
def sp_due : Spc := fun δ Q => ∃ (S : List (Int × List Int)) (v : Nat) (d : Dt), δ = [.val (sysD S), .val d] ∧ (∀ p, p ∈ S → p.2.length = v ∧ ∀ a, a ∈ p.2 → a.natAbs < 2 ^ 10) ∧ S.length < 1000 ∧ v < 1000 ∧ Ask d ∧ Q (faultD S v d)
theorem enum_range (xs : List Dt) : enumFrom 0 xs = (List.range xs.length).map fun i : Nat => Dt.tup [.int (i : Int), xs.getD i .non] := by
  have := enumFrom_map id 0 xs
  rw [List.map_id] at this
  rw [this]
  refine List.ext_getElem (by simp) fun i h1 h2 => ?_
  have hi : i < xs.length := by simpa using h1
  simp [List.getD_eq_getElem?_getD, hi]
theorem items_mk {d : Dt} {ys : List Dt} (h : itemsD d = some ys) : ∃ b, d = mkS b ys := by
  cases d with
  | lst es => cases h; exact ⟨true, rfl⟩
  | tup es => cases h; exact ⟨false, rfl⟩
  | _ => cases h
theorem good_ints {ys : List Dt} (h : (List.range ys.length).find? (fun i => !goodN (ys.getD i .non)) = none) : ys = (ys.map numD).map .int := by
  refine List.ext_getElem (by simp) fun i h1 h2 => ?_
  have := List.find?_eq_none.mp h i (List.mem_range.mpr h1)
  have e : ys.getD i .non = ys[i] := by rw [List.getD_eq_getElem?_getD, List.getElem?_eq_getElem h1]; rfl
  rw [e] at this
  rw [List.getElem_map, List.getElem_map]
  cases hy : ys[i] with
  | int n => rfl
  | _ => rw [hy] at this; simp [goodN] at this
theorem good_cases {y : Dt} (hp : pln y = true) : (∃ n, y = .int n) ∨ (whD y = false ∧ goodN y = false) := by
  cases y with
  | int n => exact .inl ⟨n, rfl⟩
  | _ => exact .inr ⟨rfl, rfl⟩
theorem tst_pos {i : Nat} {δ : List Sl} {x : Dt} {es : List Dt} {Q : Bool → Prop} (hi : δ[i]? = some (.val x)) (hx : itemsD x = some es) (b : Bool) (hb : decide ((0 : Int) < (es.length : Int)) = b) (q : Q b) : dTst (dOp (dI0 fun i j => Dt.bl (decide (j < i))) (dCall dLen (dConsA (dVar i) dNilA)) (dC (Dt.int 0))) δ Q := by
  unfold dTst dOp dCall dConsA dNilA dC
  refine dVar_val hi (lenD hx ?_)
  subst hb
  exact ⟨_, rfl, q⟩
theorem tst_len_ix0 {i j : Nat} {b : Bool} {δ : List Sl} {x s z c y' : Dt} {es fs ss : List Dt} {Q : Bool → Prop} (hi : δ[i]? = some (.val x)) (hx : itemsD x = some es) (hj : δ[j]? = some (.val s)) (hs : itemsD s = some (z :: ss)) (hz : itemsD z = some [c, y']) (hy' : itemsD y' = some fs) (e : b = !decide (es.length = fs.length)) (q : Q b) :
    dTst (dOp (dEq true) (dCall dLen (dConsA (dVar i) dNilA)) (dCall dLen (dConsA (dOp dIx (dOp dIx (dVar j) (dC (.int 0))) (dC (.int 1))) dNilA))) δ Q := by
  unfold dTst dOp dCall dConsA dNilA dC
  refine dVar_val hi (lenD hx (dVar_val hj (dIx_items hs (atI_nat (j := 0) rfl) (dIx_items hz (atI_nat (j := 1) rfl) (lenD hy' ?_)))))
  cases b with
  | false =>
    have e : es.length = fs.length := by simpa using e
    exact dEq_int false (by simp [e]) ⟨_, rfl, q⟩
  | true =>
    have e : ¬ es.length = fs.length := by simpa using e
    have e2 : ¬ (es.length : Int) = (fs.length : Int) := by omega
    exact dEq_int true (by simp [e2]) ⟨_, rfl, q⟩
theorem sc__law_value : FnScope ["_law_form", "_law_numbers", "_law_total", "_law_factor", "_law_number"] ["_law_form", "_law_numbers"] (defScope s__law_value) := ⟨rfl, rfl, rfl, by decide +kernel, rfl, by decide +kernel, by decide +kernel⟩
section
variable {P : Program} {w : World} {K : PySem.W.Frag} {mg : Str → Option Value} {base : Heap}
theorem ok__law_value  (D__law_value : Dn K mg "_law_value" s__law_value ["_law_form", "_law_numbers"]) (T : TB mg) : FnOk P w K mg base CX0 1 D__law_value.f D__law_value.fd ["_law_form", "_law_numbers"] (dsp K 2 sp_value) := by
  refine fn_d (k := 0) (N := ["_law_form", "_law_numbers", "_law_total", "_law_factor", "_law_number"]) D__law_value.F sc__law_value (fun cdv Ar outer s H E hr => (dss_cons (ds_set (fun _ p => ps_set (i := 2) sc__law_value.nd rfl (by first | exact Or.inl rfl | exact Or.inr rfl) p) (de_ixA (de_var (fun _ => pv 0)) de_int (fun _ _ => rfl)))
  (dss_cons (ds_for (fun _ => rfl) (di_zip (fun _ => by rfl) (fun _ => T.zip) (da_cons (de_ixA (de_var (fun _ => pv 0)) de_int (fun _ _ => rfl)) (da_cons (de_var (fun _ => pv 1)) da_nil))) (dg_tup (n := 2) (dgs_cons (dg_name (i := 3) (fun _ => pg_name sc__law_value.nd rfl (by first | exact Or.inl rfl | exact Or.inr rfl))) (dgs_cons (dg_name (i := 4) (fun _ => pg_name sc__law_value.nd rfl (by first | exact Or.inl rfl | exact Or.inr rfl))) dgs_nil))) (dss_one (ds_set (fun _ p => ps_set (i := 2) sc__law_value.nd rfl (by first | exact Or.inl rfl | exact Or.inr rfl) p) (de_add (de_var (fun _ => pv 2)) (de_mulA (de_var (fun _ => pv 3)) (de_var (fun _ => pv 4)))))) (fun _ => PassesOwn.never))
  (dss_one (ds_ret (de_var (fun _ => pv 2))))))) (fun δ Qd l h => ?_)
  obtain ⟨n, f, gb, x, rfl, hz, hf, hx, hq⟩ := h
  refine ⟨_, rfl, _, rfl, _, _, rfl, mkS_items _ _, ?_⟩
  rw [pair_mk]
  refine for_inv (fun i δ => ∃ s3 s4, δ = [.val (.tup [.int n, tI f]), .val (mkS gb (x.map .int)), .val (.int (((f.zip x).take i).foldl (fun t p => t + p.1 * p.2) n)), s3, s4]) ⟨_, _, rfl⟩ (fun i dd δ N hi hI h1 => ?_) (fun δ hI => ?_)
  · obtain ⟨s3, s4, rfl⟩ := hI
    rw [List.getElem?_map] at hi
    obtain ⟨p, hp, rfl⟩ := Option.map_eq_some_iff.mp hi
    have pm := List.mem_of_getElem? hp
    have b1 := hf p.1 (List.of_mem_zip pm).1
    have b2 := hx p.2 (List.of_mem_zip pm).2
    refine ⟨rfl, rfl, wide_mul (a := 20) (b := 130) (Nat.lt_of_lt_of_le b1 (by decide)) (Nat.lt_of_lt_of_le b2 (Nat.pow_le_pow_right (by decide) (by decide))) (by decide) (by decide) (by decide), ?_⟩
    refine h1 _ ⟨.val (.int p.1), .val (.int p.2), ?_⟩
    rw [take_one hp, List.foldl_append]
    rfl
  · obtain ⟨s3, s4, rfl⟩ := hI
    rw [List.length_map, List.take_length, dot_fold]
    exact hq
end
theorem sc_form_value : FnScope ["form", "numbers", "number", "factors", "factor", "value"] ["form", "numbers"] (defScope s_form_value) := ⟨rfl, rfl, rfl, by decide +kernel, rfl, by decide +kernel, by decide +kernel⟩
section
variable {P : Program} {w : World} {K : PySem.W.Frag} {mg : Str → Option Value} {base : Heap}
theorem ok_form_value  (D_form_value : Dn K mg "form_value" s_form_value ["form", "numbers"]) (T : TB mg) : FnOk P w K mg base CX0 1 D_form_value.f D_form_value.fd ["form", "numbers"] (dsp K 2 sp_form) := by
  refine fn_d (k := 0) (N := ["form", "numbers", "number", "factors", "factor", "value"]) D_form_value.F sc_form_value (fun cdv Ar outer s H E hr => (dss_cons (ds_asg (fun _ p q => ps_asg p q) (de_var (fun _ => pv 0)) (dg_tup (n := 2) (dgs_cons (dg_name (i := 2) (fun _ => pg_name sc_form_value.nd rfl (by first | exact Or.inl rfl | exact Or.inr rfl))) (dgs_cons (dg_name (i := 3) (fun _ => pg_name sc_form_value.nd rfl (by first | exact Or.inl rfl | exact Or.inr rfl))) dgs_nil))))
  (dss_one (ds_ret (de_add (de_var (fun _ => pv 2)) (de_callB (fun _ => cr_sumK rfl rfl) rc_sum (fun _ => by rfl) (fun _ => T.sum_) (by decide +kernel) (da_cons (de_n (dn_lc (o := true) (own := [(("factor" : Str), 4), (("value" : Str), 5)]) (fun _ => rfl) (fun _ => sc_form_value.nd) (di_zip (fun _ => by rfl) (fun _ => T.zip) (da_cons (de_var (fun _ => pv 3)) (da_cons (de_var (fun _ => pv 1)) da_nil))) (fun _ => (blkOk_by (own := [(("factor" : Str), 4), (("value" : Str), 5)]) (N := ["form", "numbers", "number", "factors", "factor", "value"]) (sc := defScope s_form_value) (by decide +kernel))) (dg_tup (n := 2) (dgs_cons (dg_name (i := 4) (fun _ => pg_name sc_form_value.nd rfl (by first | exact Or.inl rfl | exact Or.inr rfl))) (dgs_cons (dg_name (i := 5) (fun _ => pg_name sc_form_value.nd rfl (by first | exact Or.inl rfl | exact Or.inr rfl))) dgs_nil))) dts_nil (de_mulA (de_var (fun _ => pv 4)) (de_var (fun _ => pv 5))) (by decide))) da_nil))))))) (fun δ Qd l h => ?_)
  obtain ⟨r, xb, x, rfl, hz, hf, hx, hq⟩ := h
  obtain ⟨rb, n, fb, f⟩ := r
  cases rb
  all_goals
    refine ⟨rfl, rfl, ?_⟩
    refine ⟨_, _, mkS_items _ _, mkS_items _ _, rfl, ?_, ?_⟩
    · rw [pair_len, List.length_map]
      exact k1000 (Nat.lt_of_le_of_lt (Nat.min_le_left _ _) hz)
    rw [pair_mk]
    refine lc_map (fun p : Int × Int => Dt.int (p.1 * p.2)) (f.zip x) (fun p m Q q => ⟨rfl, rfl, wide_mul (a := 20) (b := 130) (Nat.lt_of_lt_of_le (hf p.1 (List.of_mem_zip m).1) (by decide)) (Nat.lt_of_lt_of_le (hx p.2 (List.of_mem_zip m).2) (Nat.pow_le_pow_right (by decide) (by decide))) (by decide) (by decide) (by decide), q⟩) ?_
    rw [map_int2 (fun p : Int × Int => p.1 * p.2)]
    exact ⟨_, rfl, hq⟩
end
theorem sc__law_is_whole : FnScope ["_law_thing"] ["_law_thing"] (defScope s__law_is_whole) := ⟨rfl, rfl, rfl, by decide +kernel, rfl, by decide +kernel, by decide +kernel⟩
section
variable {P : Program} {w : World} {K : PySem.W.Frag} {mg : Str → Option Value} {base : Heap}
theorem ok__law_is_whole  (D__law_is_whole : Dn K mg "_law_is_whole" s__law_is_whole ["_law_thing"]) (T : TB mg) : FnOk P w K mg base CX0 1 D__law_is_whole.f D__law_is_whole.fd ["_law_thing"] (dsp K 1 sp_whole2) := by
  refine fn_d (k := 0) (N := ["_law_thing"]) D__law_is_whole.F sc__law_is_whole (fun cdv Ar outer s H E hr => (dss_one (ds_ret (de_and (de_isi1 (de_var (fun _ => pv 0)) (fun _ => pe_bltn (v := .ty "int") (by rfl) T.int (by decide +kernel) rfl) (fun _ => by rfl) (fun _ => T.isinstance)) (de_one (de_not (de_isi1 (de_var (fun _ => pv 0)) (fun _ => pe_bltn (v := .ty "bool") (by rfl) T.bool (by decide +kernel) rfl) (fun _ => by rfl) (fun _ => T.isinstance)))))))) (fun δ Qd l h => ?_)
  obtain ⟨d, rfl, hp, hq⟩ := h
  cases d with
  | ins => cases hp
  | dt => cases hp
  | int i => exact ⟨_, rfl, _, rfl, ite_t rfl ⟨_, rfl, _, rfl, hq⟩⟩
  | bl b => exact ⟨_, rfl, _, rfl, ite_t rfl ⟨_, rfl, _, rfl, hq⟩⟩
  | lst ds => exact ⟨_, rfl, _, rfl, ite_f rfl hq⟩
  | tup ds => exact ⟨_, rfl, _, rfl, ite_f rfl hq⟩
  | non => exact ⟨_, rfl, _, rfl, ite_f rfl hq⟩
  | str s => exact ⟨_, rfl, _, rfl, ite_f rfl hq⟩
  | dk es => exact ⟨_, rfl, _, rfl, ite_f rfl hq⟩
end
theorem sc_answer_fault : FnScope ["system", "numbers", "at", "number", "equation"] ["system", "numbers"] (defScope s_answer_fault) := ⟨rfl, rfl, rfl, by decide +kernel, rfl, by decide +kernel, by decide +kernel⟩
section
variable {P : Program} {w : World} {K : PySem.W.Frag} {mg : Str → Option Value} {base : Heap}
theorem ok_answer_fault  (D_answer_fault : Dn K mg "answer_fault" s_answer_fault ["system", "numbers"]) (D_is_sequence : Dn K mg "is_sequence" s_is_sequence ["thing"]) (G_is_sequence : FnOk P w K mg base CX0 1 D_is_sequence.f D_is_sequence.fd ["thing"] (dsp K 1 sp_seq2)) (D_is_whole : Dn K mg "is_whole" s_is_whole ["thing"]) (G_is_whole : FnOk P w K mg base CX0 1 D_is_whole.f D_is_whole.fd ["thing"] (dsp K 1 sp_whole2)) (D_form_value : Dn K mg "form_value" s_form_value ["form", "numbers"]) (G_form_value : FnOk P w K mg base CX0 1 D_form_value.f D_form_value.fd ["form", "numbers"] (dsp K 2 sp_form)) (T : TB mg) : FnOk P w K mg base CX0 3 D_answer_fault.f D_answer_fault.fd ["system", "numbers"] (dsp K 2 sp_fault) := by
  refine fn_d (k := 2) (N := ["system", "numbers", "at", "number", "equation"]) D_answer_fault.F sc_answer_fault (fun cdv Ar outer s H E hr => (dss_cons (ds_if (dt_w (dw_or (dt_not (dt_val (de_call (fun _ pa => pe_call G_is_sequence (hr.mono (by decide)) (by rfl) D_is_sequence.m D_is_sequence.F.kp D_is_sequence.b .nil pass0 pa) (dl_val (de_var (fun _ => pv 1)) dl_nil)))) (dw_or1 (dt_w (dw_and (dt_cmpC cd_gt (de_callB (fun _ => cr_len rfl) rc_len (fun _ => by rfl) (fun _ => T.len) PySem.boot_len (da_cons (de_var (fun _ => pv 0)) da_nil)) de_int (nomark _)) (dw_and1 (dt_cmpC (cd_ne (fun _ => ru64 hr)) (de_callB (fun _ => cr_len rfl) rc_len (fun _ => by rfl) (fun _ => T.len) PySem.boot_len (da_cons (de_var (fun _ => pv 1)) da_nil)) (de_callB (fun _ => cr_len rfl) rc_len (fun _ => by rfl) (fun _ => T.len) PySem.boot_len (da_cons (de_ixA (de_ixA (de_var (fun _ => pv 0)) de_int (fun _ _ => rfl)) de_int (fun _ _ => rfl)) da_nil)) (nomark _)))))))) (dss_one (ds_ret (de_tup (da_cons de_str da_nil)))) dss_nil)
  (dss_cons (ds_for (fun _ => rfl) (di_or (di_enumL (fun _ => by rfl) (fun _ => T.enumerate) (da_cons (de_var (fun _ => pv 1)) da_nil)) (di_enumT (fun _ => by rfl) (fun _ => T.enumerate) (da_cons (de_var (fun _ => pv 1)) da_nil))) (dg_tup (n := 2) (dgs_cons (dg_name (i := 2) (fun _ => pg_name sc_answer_fault.nd rfl (by first | exact Or.inl rfl | exact Or.inr rfl))) (dgs_cons (dg_name (i := 3) (fun _ => pg_name sc_answer_fault.nd rfl (by first | exact Or.inl rfl | exact Or.inr rfl))) dgs_nil))) (dss_one (ds_if (dt_w (dw_or (dt_not (dt_val (de_call (fun _ pa => pe_call G_is_whole (hr.mono (by decide)) (by rfl) D_is_whole.m D_is_whole.F.kp D_is_whole.b .nil pass0 pa) (dl_val (de_var (fun _ => pv 3)) dl_nil)))) (dw_or1 (dt_cmpC cd_lt (de_var (fun _ => pv 3)) de_int (nomark _))))) (dss_one (ds_ret (de_tup (da_cons de_str (da_cons (de_var (fun _ => pv 2)) da_nil))))) dss_nil)) (fun _ => PassesOwn.never))
  (dss_cons (ds_for (fun _ => rfl) (di_or (di_enumL (fun _ => by rfl) (fun _ => T.enumerate) (da_cons (de_var (fun _ => pv 0)) da_nil)) (di_enumT (fun _ => by rfl) (fun _ => T.enumerate) (da_cons (de_var (fun _ => pv 0)) da_nil))) (dg_tup (n := 2) (dgs_cons (dg_name (i := 2) (fun _ => pg_name sc_answer_fault.nd rfl (by first | exact Or.inl rfl | exact Or.inr rfl))) (dgs_cons (dg_name (i := 4) (fun _ => pg_name sc_answer_fault.nd rfl (by first | exact Or.inl rfl | exact Or.inr rfl))) dgs_nil))) (dss_one (ds_if (dt_cmpC (cd_ne (fun _ => ru64 hr)) (de_call (fun _ pa => pe_call G_form_value (hr.mono (by decide)) (by rfl) D_form_value.m D_form_value.F.kp D_form_value.b .nil pass0 pa) (dl_val (de_var (fun _ => pv 4)) (dl_val (de_var (fun _ => pv 1)) dl_nil))) de_int (nomark _)) (dss_one (ds_ret (de_tup (da_cons de_str (da_cons (de_var (fun _ => pv 2)) da_nil))))) dss_nil)) (fun _ => PassesOwn.never))
  (dss_one (ds_ret de_non)))))) (fun δ Qd l h => ?_)
  obtain ⟨b, H, v, d, rfl, hr, hz, hv, ask, hq⟩ := h
  have s0 : itemsD (mkS b (H.map rowH)) = some (H.map rowH) := mkS_items _ _
  unfold faultD at hq
  refine ⟨rfl, d, rfl, ask.p, ?_⟩
  cases it : itemsD d with
  | none =>
    rw [it] at hq
    have sq : sqD d = false := by
      cases d with
      | lst => cases it
      | tup => cases it
      | _ => rfl
    exact ⟨false, congrArg Dt.bl sq, ite_t rfl ⟨by show 1 ≤ sizeLine; decide, hq⟩⟩
  | some ys =>
  rw [it] at hq
  obtain ⟨yl, yp⟩ := ask.i ys it
  obtain ⟨db, rfl⟩ := items_mk it
  refine ⟨true, congrArg Dt.bl sq_mkS, ite_f rfl ?_⟩
  have test : ∀ R : Bool → Prop, R (decide (sysH H ≠ [] ∧ ys.length ≠ v)) → dAndT (dTst (dOp (dI0 fun i j => Dt.bl (decide (j < i))) (dCall dLen (dConsA (dVar 0) dNilA)) (dC (Dt.int 0)))) (dTst (dOp (dEq true) (dCall dLen (dConsA (dVar 1) dNilA)) (dCall dLen (dConsA (dOp dIx (dOp dIx (dVar 0) (dC (Dt.int 0))) (dC (Dt.int 1))) dNilA)))) (st0 ["system", "numbers", "at", "number", "equation"] [Sl.val (mkS b (H.map rowH)), Sl.val (mkS db ys)]) R := fun R q => by
    unfold dAndT
    cases H with
    | nil => exact tst_pos rfl s0 false rfl q
    | cons r H =>
      refine tst_pos rfl s0 true (by simp) ?_
      have rl := (hr r (List.mem_cons_self ..)).1
      refine tst_len_ix0 (b := decide (ys.length ≠ v)) rfl it rfl s0 (mkS_items _ _) (mkS_items _ _) (by rw [List.length_map, rl]; simp) ?_
      have e : decide (sysH (r :: H) ≠ [] ∧ ys.length ≠ v) = decide (ys.length ≠ v) := decide_eq_decide.mpr ⟨fun h => h.2, fun h => ⟨by simp [sysH], h⟩⟩
      rw [e] at q
      exact q
  have sl : (sysH H).length = H.length := by unfold sysH; rw [List.length_map]
  refine test _ ?_
  dsimp only at hq
  by_cases c : sysH H ≠ [] ∧ ys.length ≠ v
  · rw [if_pos c] at hq
    rw [decide_eq_true c]
    exact ite_t rfl ⟨by show 1 ≤ sizeLine; decide, hq⟩
  rw [if_neg c] at hq
  rw [decide_eq_false c]
  unfold faultL at hq
  refine ite_f rfl ?_
  cases db
  all_goals
    first
      | refine Or.inr ?_
        show dForL _ _ _ (enumFrom 0 ys) (_ :: .val (.tup ys) :: _)
      | refine Or.inl ?_
        show dForL _ _ _ (enumFrom 0 ys) (_ :: .val (.lst ys) :: _)
    rw [enum_range]
    refine for_find (g := fun i : Nat => Dt.tup [.int (i : Int), ys.getD i .non]) (fun δ => ∃ s2 s3 s4, δ = [.val _, .val _, s2, s3, s4]) (fun i => !goodN (ys.getD i .non)) (fun i => .tup [.str "number", .int (i : Int)]) (List.range ys.length) _ ⟨_, _, _, rfl⟩ (fun i m δ N hI h1 h2 => ?_) (fun i e => ?_) (fun e δ hI => ?_)
    · obtain ⟨s2, s3, s4, rfl⟩ := hI
      have il := List.mem_range.mp m
      have gy : ys.getD i .non = ys[i] := by rw [List.getD_eq_getElem?_getD, List.getElem?_eq_getElem il]; rfl
      rw [gy] at h1 h2 ⊢
      have py := (yp _ (List.getElem_mem il)).1
      generalize ys[i] = y at h1 h2 py ⊢
      rcases good_cases py with ⟨n, rfl⟩ | ⟨g1, g2⟩
      · by_cases n0 : 0 ≤ n
        · refine ⟨rfl, rfl, rfl, .int n, rfl, rfl, true, rfl, ite_f rfl ⟨_, rfl, ite_f (decide_eq_false (by omega)) ?_⟩⟩
          exact h2 (by show (!decide (0 ≤ n)) = false; rw [decide_eq_true n0]; rfl) _ ⟨_, _, _, rfl⟩
        · refine ⟨rfl, rfl, rfl, .int n, rfl, rfl, true, rfl, ite_f rfl ⟨_, rfl, ite_t (decide_eq_true (by omega)) ⟨by show 2 ≤ sizeLine; decide, ?_⟩⟩⟩
          exact h1 (by show (!decide (0 ≤ n)) = true; rw [decide_eq_false n0]; rfl)
      · refine ⟨rfl, rfl, rfl, y, rfl, py, false, congrArg Dt.bl g1, ite_t rfl (ite_t rfl ⟨by show 2 ≤ sizeLine; decide, ?_⟩)⟩
        exact h1 (by rw [g2]; rfl)
    · rw [e] at hq
      exact hq
    rw [e] at hq
    obtain ⟨s2, s3, s4, rfl⟩ := hI
    obtain ⟨x, rfl⟩ : ∃ x : List Int, ys = x.map .int := ⟨_, good_ints e⟩
    have xn : (x.map Dt.int).map numD = x := by rw [List.map_map]; exact (List.map_congr_left fun a _ => rfl).trans (List.map_id x)
    have xb : ∀ a, a ∈ x → a.natAbs < 2 ^ 120 := fun a m => (yp (.int a) (List.mem_map.mpr ⟨a, m, rfl⟩)).2
    cases b
    all_goals
      first
        | refine Or.inr ?_
          show dForL _ _ _ (enumFrom 0 (H.map rowH)) (.val (.tup (H.map rowH)) :: _)
        | refine Or.inl ?_
          show dForL _ _ _ (enumFrom 0 (H.map rowH)) (.val (.lst (H.map rowH)) :: _)
      rw [enum_range]
      refine for_find (g := fun i : Nat => Dt.tup [.int (i : Int), (H.map rowH).getD i .non]) (fun δ => ∃ s2 s3 s4, δ = [.val _, .val _, s2, s3, s4]) (fun i => decide (valP ((sysH H).getD i (0, [])) (x.map .int) ≠ 0)) (fun i => .tup [.str "equation", .int (i : Int)]) (List.range (H.map rowH).length) _ ⟨_, _, _, rfl⟩ (fun i m δ N hI h1 h2 => ?_) (fun i e => ?_) (fun e δ hI => ?_)
      · obtain ⟨s2, s3, s4, rfl⟩ := hI
        have il : i < H.length := by have := List.mem_range.mp m; rw [List.length_map] at this; exact this
        have gy : (H.map rowH).getD i .non = rowH H[i] := by rw [List.getD_eq_getElem?_getD, List.getElem?_map, List.getElem?_eq_getElem il]; rfl
        have gs : (sysH H).getD i (0, []) = (H[i].n, H[i].f) := by unfold sysH; rw [List.getD_eq_getElem?_getD, List.getElem?_map, List.getElem?_eq_getElem il]; rfl
        obtain ⟨r1, r2⟩ := hr H[i] (List.getElem_mem il)
        rw [gs] at h1 h2
        unfold valP at h1 h2
        rw [xn] at h1 h2
        rw [gy]
        refine ⟨rfl, rfl, rfl, H[i], ?_⟩
        first
          | refine ⟨false, x, rfl, by omega, r2, xb, ?_⟩
          | refine ⟨true, x, rfl, by omega, r2, xb, ?_⟩
        by_cases z : H[i].n + dot H[i].f x = 0
        · refine dEq_int false (by simp [z]) ⟨_, rfl, ite_f rfl ?_⟩
          exact h2 (by simp [z]) _ ⟨_, _, _, rfl⟩
        · refine dEq_int true (by simp [z]) ⟨_, rfl, ite_t rfl ⟨by show 2 ≤ sizeLine; decide, ?_⟩⟩
          exact h1 (by simp [z])
      · rw [List.length_map, ← sl] at e
        rw [e] at hq
        exact hq
      · rw [List.length_map, ← sl] at e
        rw [e] at hq
        obtain ⟨s2, s3, s4, rfl⟩ := hI
        exact hq
end
theorem isi_seq {d : Dt} (h : pln d = true) : isiB ["list", "tuple"] d = some (sqD d) := by
  cases d with
  | ins => cases h
  | dt => cases h
  | _ =>
    first
      | exact isi_f (b := true) rfl (by decide +kernel)
      | exact isi_f (b := false) rfl (by decide +kernel)
theorem seq_items {d : Dt} : sqD d = (itemsD d).isSome := by cases d <;> rfl
theorem sc__law_due_fault : FnScope ["_law_system", "_law_numbers", "_law_at"] ["_law_system", "_law_numbers"] (defScope s__law_due_fault) := ⟨rfl, rfl, rfl, by decide +kernel, rfl, by decide +kernel, by decide +kernel⟩
section
variable {P : Program} {w : World} {K : PySem.W.Frag} {mg : Str → Option Value} {base : Heap}
theorem ok__law_due_fault  (D__law_due_fault : Dn K mg "_law_due_fault" s__law_due_fault ["_law_system", "_law_numbers"]) (D__law_is_whole : Dn K mg "_law_is_whole" s__law_is_whole ["_law_thing"]) (G__law_is_whole : FnOk P w K mg base CX0 1 D__law_is_whole.f D__law_is_whole.fd ["_law_thing"] (dsp K 1 sp_whole2)) (D__law_value : Dn K mg "_law_value" s__law_value ["_law_form", "_law_numbers"]) (G__law_value : FnOk P w K mg base CX0 1 D__law_value.f D__law_value.fd ["_law_form", "_law_numbers"] (dsp K 2 sp_value)) (T : TB mg) : FnOk P w K mg base CX0 3 D__law_due_fault.f D__law_due_fault.fd ["_law_system", "_law_numbers"] (dsp K 2 sp_due) := by
  refine fn_d (k := 2) (N := ["_law_system", "_law_numbers", "_law_at"]) D__law_due_fault.F sc__law_due_fault (fun cdv Ar outer s H E hr => (dss_cons (ds_if (dt_w (dw_or (dt_not (dt_val (de_isi2 (de_var (fun _ => pv 1)) (fun _ => pe_bltn (v := .ty "list") (by rfl) T.list_ (by decide +kernel) rfl) (fun _ => pe_bltn (v := .ty "tuple") (by rfl) T.tuple_ (by decide +kernel) rfl) (fun _ => by rfl) (fun _ => T.isinstance)))) (dw_or1 (dt_w (dw_and (dt_cmpC (cd_ne (fun _ => ru64 hr)) (de_var (fun _ => pv 0)) (de_n (dn_lst da_nil)) (nomark _)) (dw_and1 (dt_cmpC (cd_ne (fun _ => ru64 hr)) (de_callB (fun _ => cr_len rfl) rc_len (fun _ => by rfl) (fun _ => T.len) PySem.boot_len (da_cons (de_var (fun _ => pv 1)) da_nil)) (de_callB (fun _ => cr_len rfl) rc_len (fun _ => by rfl) (fun _ => T.len) PySem.boot_len (da_cons (de_ixA (de_ixA (de_var (fun _ => pv 0)) de_int (fun _ _ => rfl)) de_int (fun _ _ => rfl)) da_nil)) (nomark _)))))))) (dss_one (ds_ret (de_tup (da_cons de_str da_nil)))) dss_nil)
  (dss_cons (ds_for (fun _ => rfl) (di_range1 (fun _ => by rfl) (fun _ => T.range) (da_cons (de_callB (fun _ => cr_len rfl) rc_len (fun _ => by rfl) (fun _ => T.len) PySem.boot_len (da_cons (de_var (fun _ => pv 1)) da_nil)) da_nil)) (dg_name (i := 2) (fun _ => pg_name sc__law_due_fault.nd rfl (by first | exact Or.inl rfl | exact Or.inr rfl))) (dss_one (ds_if (dt_w (dw_or (dt_not (dt_val (de_call (fun _ pa => pe_call G__law_is_whole (hr.mono (by decide)) (by rfl) D__law_is_whole.m D__law_is_whole.F.kp D__law_is_whole.b .nil pass0 pa) (dl_val (de_ixA (de_var (fun _ => pv 1)) (de_var (fun _ => pv 2)) (fun _ _ => rfl)) dl_nil)))) (dw_or1 (dt_cmpC cd_lt (de_ixA (de_var (fun _ => pv 1)) (de_var (fun _ => pv 2)) (fun _ _ => rfl)) de_int (nomark _))))) (dss_one (ds_ret (de_tup (da_cons de_str (da_cons (de_var (fun _ => pv 2)) da_nil))))) dss_nil)) (fun _ => PassesOwn.never))
  (dss_cons (ds_for (fun _ => rfl) (di_range1 (fun _ => by rfl) (fun _ => T.range) (da_cons (de_callB (fun _ => cr_len rfl) rc_len (fun _ => by rfl) (fun _ => T.len) PySem.boot_len (da_cons (de_var (fun _ => pv 0)) da_nil)) da_nil)) (dg_name (i := 2) (fun _ => pg_name sc__law_due_fault.nd rfl (by first | exact Or.inl rfl | exact Or.inr rfl))) (dss_one (ds_if (dt_cmpC (cd_ne (fun _ => ru64 hr)) (de_call (fun _ pa => pe_call G__law_value (hr.mono (by decide)) (by rfl) D__law_value.m D__law_value.F.kp D__law_value.b .nil pass0 pa) (dl_val (de_ixA (de_var (fun _ => pv 0)) (de_var (fun _ => pv 2)) (fun _ _ => rfl)) (dl_val (de_var (fun _ => pv 1)) dl_nil))) de_int (nomark _)) (dss_one (ds_ret (de_tup (da_cons de_str (da_cons (de_var (fun _ => pv 2)) da_nil))))) dss_nil)) (fun _ => PassesOwn.never))
  (dss_one (ds_ret de_non)))))) (fun δ Qd l h => ?_)
  obtain ⟨S, v, d, rfl, hr, hz, hv, ask, hq⟩ := h
  unfold faultD at hq
  refine ⟨sqD d, isi_seq ask.p, sqD d, rfl, ?_⟩
  have one : 1 ≤ sizeLine := by decide
  cases it : itemsD d with
  | none =>
    rw [it] at hq
    rw [seq_items, it]
    exact ite_t rfl (ite_t rfl ⟨one, hq⟩)
  | some ys =>
  rw [it] at hq
  obtain ⟨yl, yp⟩ := ask.i ys it
  rw [seq_items, it]
  refine ite_f rfl ?_
  have test : ∀ R : Bool → Prop, R (decide (S ≠ [] ∧ ys.length ≠ v)) → dAndT (dTst (dOp (dEq true) (dVar 0) fun δ Q => dNilA δ fun ds => ds.length ≤ sizeLine ∧ (fun ds => Q (Dt.lst ds)) ds)) (dTst (dOp (dEq true) (dCall dLen (dConsA (dVar 1) dNilA)) (dCall dLen (dConsA (dOp dIx (dOp dIx (dVar 0) (dC (Dt.int 0))) (dC (Dt.int 1))) dNilA)))) (st0 ["_law_system", "_law_numbers", "_law_at"] [Sl.val (sysD S), Sl.val d]) R := fun R q => by
    unfold dAndT
    refine ⟨Nat.zero_le _, sys_nil ⟨_, rfl, ?_⟩⟩
    cases S with
    | nil => exact ite_f rfl q
    | cons p S =>
      refine ite_t (by simp) ?_
      have rl := (hr p (List.mem_cons_self ..)).1
      refine tst_len_ix0 (b := decide (ys.length ≠ v)) rfl it rfl (show itemsD (sysD (p :: S)) = some (formD p :: S.map formD) from rfl) (show itemsD (formD p) = some [.int p.1, tI p.2] from rfl) (show itemsD (tI p.2) = some (p.2.map .int) from rfl) (by rw [List.length_map, rl]; simp) ?_
      have e : decide (p :: S ≠ [] ∧ ys.length ≠ v) = decide (ys.length ≠ v) := decide_eq_decide.mpr ⟨fun h => h.2, fun h => ⟨by simp, h⟩⟩
      rw [e] at q
      exact q
  refine test _ ?_
  dsimp only at hq
  by_cases c : S ≠ [] ∧ ys.length ≠ v
  · rw [if_pos c] at hq
    rw [decide_eq_true c]
    exact ite_t rfl ⟨one, hq⟩
  rw [if_neg c] at hq
  rw [decide_eq_false c]
  unfold faultL at hq
  refine ite_f rfl ?_
  have bn := b62 (i := ys.length) (by omega) (by omega)
  have bs := b62 (i := S.length) (by omega) (by omega)
  have el : ((S.map formD).length : Int) = (S.length : Int) := by rw [List.length_map]
  obtain ⟨db, rfl⟩ := items_mk it
  cases db
  all_goals
    refine ⟨bn.1, bn.2, ?_⟩
    unfold rngD
    rw [Int.toNat_natCast]
    refine for_find (g := fun i : Nat => Dt.int (0 + (i : Int))) (fun δ => ∃ s2, δ = [.val _, .val _, s2]) (fun i => !goodN (ys.getD i .non)) (fun i => .tup [.str "number", .int (i : Int)]) (List.range ys.length) _ ⟨_, rfl⟩ (fun i m δ N hI h1 h2 => ?_) (fun i e => ?_) (fun e δ hI => ?_)
    · obtain ⟨s2, rfl⟩ := hI
      have il := List.mem_range.mp m
      have gy : ys.getD i .non = ys[i] := by rw [List.getD_eq_getElem?_getD, List.getElem?_eq_getElem il]; rfl
      have ga : atI ys (i : Int) = some ys[i] := atI_nat (List.getElem?_eq_getElem il)
      rw [gy] at h1 h2
      have py := (yp _ (List.getElem_mem il)).1
      rw [Int.zero_add]
      generalize ys[i] = y at h1 h2 py ga
      rcases good_cases py with ⟨n, rfl⟩ | ⟨g1, g2⟩
      · by_cases n0 : 0 ≤ n
        · refine ⟨_, ga, rfl, .int n, rfl, rfl, true, rfl, ite_f rfl ⟨_, ga, _, rfl, ite_f (decide_eq_false (by omega)) ?_⟩⟩
          exact h2 (by show (!decide (0 ≤ n)) = false; rw [decide_eq_true n0]; rfl) _ ⟨_, rfl⟩
        · refine ⟨_, ga, rfl, .int n, rfl, rfl, true, rfl, ite_f rfl ⟨_, ga, _, rfl, ite_t (decide_eq_true (by omega)) ⟨by show 2 ≤ sizeLine; decide, ?_⟩⟩⟩
          exact h1 (by show (!decide (0 ≤ n)) = true; rw [decide_eq_false n0]; rfl)
      · refine ⟨_, ga, rfl, y, rfl, py, false, congrArg Dt.bl g1, ite_t rfl (ite_t rfl ⟨by show 2 ≤ sizeLine; decide, ?_⟩)⟩
        exact h1 (by rw [g2]; rfl)
    · rw [e] at hq
      exact hq
    rw [e] at hq
    obtain ⟨s2, rfl⟩ := hI
    obtain ⟨x, rfl⟩ : ∃ x : List Int, ys = x.map .int := ⟨_, good_ints e⟩
    have xn : (x.map Dt.int).map numD = x := by rw [List.map_map]; exact (List.map_congr_left fun a _ => rfl).trans (List.map_id x)
    have xb : ∀ a, a ∈ x → a.natAbs < 2 ^ 120 := fun a m => (yp (.int a) (List.mem_map.mpr ⟨a, m, rfl⟩)).2
    refine ⟨by rw [el]; exact bs.1, by rw [el]; exact bs.2, ?_⟩
    rw [el]
    unfold rngD
    rw [Int.toNat_natCast]
    refine for_find (g := fun i : Nat => Dt.int (0 + (i : Int))) (fun δ => ∃ s2, δ = [.val _, .val _, s2]) (fun i => decide (valP (S.getD i (0, [])) (x.map .int) ≠ 0)) (fun i => .tup [.str "equation", .int (i : Int)]) (List.range S.length) _ ⟨_, rfl⟩ (fun i m δ N hI h1 h2 => ?_) (fun i e => ?_) (fun e δ hI => ?_)
    · obtain ⟨s2, rfl⟩ := hI
      have il := List.mem_range.mp m
      have gs : S.getD i (0, []) = S[i] := by rw [List.getD_eq_getElem?_getD, List.getElem?_eq_getElem il]; rfl
      have ga : atI (S.map formD) (i : Int) = some (formD S[i]) := atI_map (f := formD) (atI_nat (List.getElem?_eq_getElem il))
      obtain ⟨r1, r2⟩ := hr S[i] (List.getElem_mem il)
      rw [gs] at h1 h2
      unfold valP at h1 h2
      rw [xn] at h1 h2
      rw [Int.zero_add]
      refine ⟨_, ga, rfl, S[i].1, S[i].2, ?_⟩
      first
        | refine ⟨false, x, rfl, by omega, r2, xb, ?_⟩
        | refine ⟨true, x, rfl, by omega, r2, xb, ?_⟩
      by_cases z : S[i].1 + dot S[i].2 x = 0
      · refine dEq_int false (by simp [z]) ⟨_, rfl, ite_f rfl ?_⟩
        exact h2 (by simp [z]) _ ⟨_, rfl⟩
      · refine dEq_int true (by simp [z]) ⟨_, rfl, ite_t rfl ⟨by show 2 ≤ sizeLine; decide, ?_⟩⟩
        exact h1 (by simp [z])
    · rw [e] at hq
      exact hq
    · rw [e] at hq
      obtain ⟨s2, rfl⟩ := hI
      exact hq
end
end My
set_option maxHeartbeats 1000000
/-! defs that give back a list of their own: the caller may change it -/
namespace Dl
open PySem PySem.Spec PyProof.Rows L2 Lcn Sq
abbrev SpcN := List Sl → (List Dt → Prop) → Prop
/-- a promise: what comes back is a new list -/
def dspN (K : PySem.W.Frag) (n : Nat) (sp : SpcN) : Sp := fun vs H Q _ => ∃ (S : Sc) (av : Addr → Prop) (δ : List Sl) (Qd : List Dt → Prop), (∀ b, sa S b → av b) ∧ Al av H ∧ Gs S H ∧ ArgsOk S K av H vs δ ∧ δ.length = n ∧ sp δ Qd ∧
  ∀ p xs ds H', H p = none → Stp S H H' → H' p = some (.lst xs) → RepL K (fun b => av b ∨ b = p) H' xs ds → Qd ds → Q (.ref p) H'
abbrev EvRn := (List Dt → Prop) → List Sl → Prop
def VSr (K : PySem.W.Frag) (i : Nat) (ts : TS) (sv : EvRn) : Prop := ∀ (C : Ctx) (σ : L2.St) (δ : List Sl) (H : Hp) (D : Ends) (R : List Dt → Prop), C.K = K → Sok C H σ δ → sv R δ → (∀ σ δ a ds H, Sok C H σ δ → δ[i]? = some (.own a (.l ds)) → R ds → D.rt (.ref a) H) → ts D σ H
def DSr {ι : Type} (K : PySem.W.Frag) (X : ι → Cx) (i : Nat) (st : List Stmt) (sv : EvRn) : Prop := ∃ ts, (∀ j, PSs (X j) st ts) ∧ VSr K i ts sv
section
variable {ι : Type} {K : PySem.W.Frag} {X : ι → Cx} {pos p2 : Pos} {e : Expr} {es : List Expr} {st : Stmt} {rest : List Stmt} {su : EvS} {sw : EvRn} {i : Nat} {et : EvLs}
theorem dsr_ret {x : Str} (p : ∀ j, PE (X j) (.Name x p2) (tVar i)) : DSr K X i [.Return (some (.Name x p2)) pos] (fun R δ => ∃ a ds, δ[i]? = some (.own a (.l ds)) ∧ R ds) :=
  ⟨_, fun j => pss_one (ps_ret (p j)), fun C σ δ H D R k s e q => by
    obtain ⟨a, ds, h, e⟩ := e
    exact ⟨.ref a, (s.lstAt h).1, q σ δ a ds H s h e⟩⟩
theorem dsr_cons (h1 : DS K X st su) (h2 : DSr K X i rest sw) : DSr K X i (st :: rest) (fun R δ => su { nx := sw R, rt := fun _ => False } δ) := by
  obtain ⟨t, p, v⟩ := h1
  obtain ⟨t2, p2, v2⟩ := h2
  refine ⟨_, fun j => pss_cons (p j) (p2 j), fun C σ δ H D R k s e q => ?_⟩
  exact v C σ δ H _ _ k s e ⟨fun σ δ H s e => v2 C σ δ H D R k s e q, fun _ _ _ _ _ _ z => z.elim, fun _ _ _ _ z => z.elim, fun _ _ _ _ z => z.elim⟩
/-- name = f(..), f one of these -/
theorem dn_call {x : Str} {p : Pos} {n : Nat} {sp : SpcN} (hp : ∀ {t : TA} i, PA (X i) (e :: es) t → PE (X i) (.Call (.Name x p) (e :: es) [] pos) (tCall (dspN K n sp) [] E0 t)) (ha : DLs true K X (e :: es) et) : DN K X (.Call (.Name x p) (e :: es) [] pos) (fun δ Q => et δ fun ss => ss.length = n ∧ sp ss Q) := by
  obtain ⟨t, pa, v⟩ := ha
  refine ⟨_, fun i => hp i (pa i), fun C σ δ H Q Qd k s e q => ?_⟩
  subst k
  refine v C σ δ H _ _ rfl s e fun vs ss H1 e1 r e => ?_
  have s1 := s.step e1
  refine ⟨C.S, Zd C δ, ss, Qd, fun b hb => .inl (s.avs b hb), s1.alz, s1.g, ?_, e.1, e.2, fun p xs ds H2 n2 e2 h2 r2 qd => q p xs ds H2 ?_ (e1.trans e2) h2 r2 qd⟩
  · rw [List.append_nil]
    exact r
  · cases hh : H p with
    | none => rfl
    | some o =>
      by_cases c : ch C.S p
      · obtain ⟨u, hu, _⟩ := s1.g.dom (ch_sa c)
        rw [n2] at hu
        cases hu
      · have := e1.keep p o c hh
        rw [n2] at this
        cases this
end
section
variable {P : Program} {w : World} {K : PySem.W.Frag} {mg : Str → Option Value} {base : Heap}
theorem fn_dr {x qual : Str} {params : Arguments} {body : List Stmt} {scope : Scope} {dvs : List V} {kws : List (Str × V)} {f : Addr} {fd : FuncData} {N ps : List Str} {k i : Nat} {sp : SpcN} {sv : EvRn} (F : FunD K x qual params body scope dvs kws f fd) (S : FnScope N ps scope)
    (hbody : ∀ (cdv : Value) (A : Around) (outer : List Env) (s : Shared) (H : Hp) (E : XK), Room k (A.deeper (PyProof.Rows.envOfC qual scope s.heap.objs.size f cdv)) → DSr K (fun _ : Unit => (cxOf CX0 P w K mg base N qual scope f cdv A outer s H E).nox) i body sv)
    (hsp : ∀ (δ : List Sl) (Qd : List Dt → Prop), δ.length = ps.length → sp δ Qd → sv Qd (st0 N δ)) : FnOk P w K mg base CX0 (k + 1) f fd ps (dspN K ps.length sp) := by
  refine F.ok S (fun vs H Q E h => ?_) fun cdv A outer s H vs Q E hr h => ?_
  · obtain ⟨S, av, δ, Qd, _, _, _, a, l, _⟩ := h
    rw [a.l, l]
  · obtain ⟨S, av, δ, Qd, h1, h2, h3, a, l, hs, q⟩ := h
    obtain ⟨ts, p, v⟩ := hbody cdv A outer s H E hr
    refine ⟨ts, (p ()).nox, v ⟨K, S, av, H, []⟩ _ _ H _ _ rfl (sok_start h1 h2 h3 a) (hsp δ Qd l hs) fun σ δ a ds H' s h qd => ?_⟩
    obtain ⟨_, h0, _, xs, hx, rx⟩ := s.lstAt h
    refine q a xs ds H' h0 s.st hx (rx.mono fun b hb => ?_) qd
    rcases hb with hb | rfl
    · exact .inl hb
    · exact .inr ⟨_, List.mem_iff_getElem?.mpr ⟨i, h⟩, .inl rfl⟩
end
end Dl
set_option maxHeartbeats 4000000
namespace My
open PySem PySem.Spec PyProof.Rows L2 Lcn Sq Dl
open Hm
def sp_made : SpcN := fun δ Q => ∃ (e : Nat) (xs : List Int), δ = [.src, .val (.int (e : Int)), .val (.int 5), .val (.lst (xs.map .int))] ∧ e ≤ 3 ∧ xs.length ≤ 3 ∧ (∀ x, x ∈ xs → x.natAbs < 2 ^ 100) ∧ ∀ S : List (Int × List Int), S.length = e → (∀ p, p ∈ S → p.2.length = xs.length ∧ (∀ x, x ∈ p.2 → -5 ≤ x ∧ x ≤ 5) ∧ p.1 = -(0 + dot p.2 xs)) → Q (S.map formD)
theorem sc__law_made_system : FnScope ["_law_source_here", "_law_equations", "_law_factor", "_law_numbers", "_law_told", "_law_k", "_law_factors", "_law_number"] ["_law_source_here", "_law_equations", "_law_factor", "_law_numbers"] (defScope s__law_made_system) := ⟨rfl, rfl, rfl, by decide +kernel, rfl, by decide +kernel, by decide +kernel⟩
section
variable {P : Program} {w : World} {K : PySem.W.Frag} {mg : Str → Option Value} {base : Heap}
theorem ok__law_made_system  (D__law_made_system : Dn K mg "_law_made_system" s__law_made_system ["_law_source_here", "_law_equations", "_law_factor", "_law_numbers"]) (D__law_take : Dn K mg "_law_take" s__law_take ["_law_source_here", "_law_many"]) (G__law_take : FnOk P w K mg base CX0 1 D__law_take.f D__law_take.fd ["_law_source_here", "_law_many"] (dsp K 2 sp_take)) (D__law_value : Dn K mg "_law_value" s__law_value ["_law_form", "_law_numbers"]) (G__law_value : FnOk P w K mg base CX0 1 D__law_value.f D__law_value.fd ["_law_form", "_law_numbers"] (dsp K 2 sp_value)) (T : TB mg) : FnOk P w K mg base CX0 2 D__law_made_system.f D__law_made_system.fd ["_law_source_here", "_law_equations", "_law_factor", "_law_numbers"] (dspN K 4 sp_made) := by
  refine fn_dr (i := 4) (k := 1) (N := ["_law_source_here", "_law_equations", "_law_factor", "_law_numbers", "_law_told", "_law_k", "_law_factors", "_law_number"]) D__law_made_system.F sc__law_made_system (fun cdv Ar outer s H E hr => (dsr_cons (ds_own (fun _ p => ps_set (i := 4) sc__law_made_system.nd rfl (by first | exact Or.inl rfl | exact Or.inr rfl) p) (dn_lst da_nil)) (dsr_cons (ds_for (fun _ => rfl) (di_range1 (fun _ => by rfl) (fun _ => T.range) (da_cons (de_var (fun _ => pv 1)) da_nil)) (dg_name (i := 5) (fun _ => pg_name sc__law_made_system.nd rfl (by first | exact Or.inl rfl | exact Or.inr rfl))) (dss_cons (ds_set (fun _ p => ps_set (i := 6) sc__law_made_system.nd rfl (by first | exact Or.inl rfl | exact Or.inr rfl) p) (de_callTy (fun _ => cr_tuple rfl) rc_tuple (fun _ => by rfl) (fun _ => T.tuple_) (by decide +kernel) (da_cons (de_n (dn_lc (o := true) (own := [(("_law_number" : Str), 7)]) (fun _ => rfl) (fun _ => sc__law_made_system.nd) (di_seq (de_var (fun _ => pv 3))) (fun _ => (blkOk_by (own := [(("_law_number" : Str), 7)]) (N := ["_law_source_here", "_law_equations", "_law_factor", "_law_numbers", "_law_told", "_law_k", "_law_factors", "_law_number"]) (sc := defScope s__law_made_system) (by decide +kernel))) (dg_name (i := 7) (fun _ => pg_name sc__law_made_system.nd rfl (by first | exact Or.inl rfl | exact Or.inr rfl))) dts_nil (de_sub (de_call (fun _ pa => pe_call G__law_take (hr.mono (by decide)) (by rfl) D__law_take.m D__law_take.F.kp D__law_take.b .nil pass0 pa) (dl_src (fun _ => pv 0) (dl_val (de_add (de_mulA de_int (de_var (fun _ => pv 2))) de_int) dl_nil))) (de_var (fun _ => pv 2))) (by decide))) da_nil)))
  (dss_one (ds_app (fun _ p => ps_expr (pe_bm PySem.F.plainAttrs_list PySem.F.slot_list_append PySem.F.type_list_append mt_append (pv 4) (pa_cons p pa_nil))) (de_tup (da_cons (de_neg (de_call (fun _ pa => pe_call G__law_value (hr.mono (by decide)) (by rfl) D__law_value.m D__law_value.F.kp D__law_value.b .nil pass0 pa) (dl_val (de_tup (da_cons de_int (da_cons (de_var (fun _ => pv 6)) da_nil))) (dl_val (de_var (fun _ => pv 3)) dl_nil)))) (da_cons (de_var (fun _ => pv 6)) da_nil)))))) (fun _ => PassesOwn.never)) (dsr_ret (fun _ => pv 4))))) (fun δ Qd l h => ?_)
  obtain ⟨e, xs, rfl, he, hl3, hx, hq⟩ := h
  have be := b62 (i := e) (by omega) (by omega)
  refine ⟨Nat.zero_le _, fun a => ⟨be.1, be.2, ?_⟩⟩
  refine for_inv (fun i δ => ∃ (S : List (Int × List Int)) (s5 s6 : Sl) (o7 : Option Dt), δ = [.src, .val (.int (e : Int)), .val (.int 5), .val (.lst (xs.map .int)), .own a (.l (S.map formD)), s5, s6, vl o7] ∧ S.length = i ∧ (∀ p, p ∈ S → p.2.length = xs.length ∧ (∀ x, x ∈ p.2 → -5 ≤ x ∧ x ≤ 5) ∧ p.1 = -(0 + dot p.2 xs))) ⟨[], _, _, none, rfl, rfl, fun r m => nomatch m⟩ (fun i dd δ N hi hI h1 => ?_) (fun δ hI => ?_)
  · obtain ⟨S, s5, s6, o7, rfl, hl, hS⟩ := hI
    obtain ⟨hi, rfl⟩ := rngD_get hi
    refine ⟨by cases o7 <;> rfl, by rw [List.length_map]; exact k1000 (by omega), ?_⟩
    refine lc_all (g := Dt.int) Dt.int (fun z => -5 ≤ z ∧ z ≤ 5) xs (fun x m Q q => ?_) (fun ss ls hs => ?_)
    · exact ⟨wide_mul (a := 2) (b := 4) (by decide) (by decide) (by decide) (by decide) (by decide), rfl, 2 * 5 + 1, rfl, by decide, by decide, fun r r0 r1 => q (r - 5) ⟨by omega, by omega⟩⟩
    refine ⟨by show 2 ≤ sizeLine; decide, rfl, 0, ss, true, xs, rfl, by omega, fun x m => by have := hs x m; omega, fun x m => Nat.lt_of_lt_of_le (hx x m) (Nat.pow_le_pow_right (by decide) (by decide)), ?_⟩
    refine ⟨_, rfl, by show 2 ≤ sizeLine; decide, by rw [List.length_map]; exact k1000 (by omega), ?_⟩
    refine h1 _ ⟨S ++ [(-(0 + dot ss xs), ss)], .val (.int (0 + (i : Int))), .val (tI ss), o7, by rw [List.map_append]; rfl, by rw [List.length_append]; show S.length + 1 = i + 1; omega, fun p m => ?_⟩
    rcases List.mem_append.mp m with m | m
    · exact hS p m
    · have : p = (-(0 + dot ss xs), ss) := by simpa using m
      subst this
      exact ⟨ls, hs, rfl⟩
  · obtain ⟨S, s5, s6, o7, rfl, hl, hS⟩ := hI
    rw [rngD_len, Int.toNat_natCast] at hl
    exact ⟨a, _, rfl, hq S hl hS⟩
end
def sp_wide : Spc := fun δ Q => δ = [.src] ∧ ∀ (S : List (Int × List Int)) (v : Nat), Sys S v → Q (sysD S)
theorem sc__law_wide_system : FnScope ["_law_source_here", "_law_variables", "_law_told", "_law_k", "_law_size", "_law_factors", "_law_i"] ["_law_source_here"] (defScope s__law_wide_system) := ⟨rfl, rfl, rfl, by decide +kernel, rfl, by decide +kernel, by decide +kernel⟩
section
variable {P : Program} {w : World} {K : PySem.W.Frag} {mg : Str → Option Value} {base : Heap}
theorem ok__law_wide_system  (D__law_wide_system : Dn K mg "_law_wide_system" s__law_wide_system ["_law_source_here"]) (D__law_take : Dn K mg "_law_take" s__law_take ["_law_source_here", "_law_many"]) (G__law_take : FnOk P w K mg base CX0 1 D__law_take.f D__law_take.fd ["_law_source_here", "_law_many"] (dsp K 2 sp_take)) (T : TB mg) : FnOk P w K mg base CX0 2 D__law_wide_system.f D__law_wide_system.fd ["_law_source_here"] (dsp K 1 sp_wide) := by
  refine fn_d (k := 1) (N := ["_law_source_here", "_law_variables", "_law_told", "_law_k", "_law_size", "_law_factors", "_law_i"]) D__law_wide_system.F sc__law_wide_system (fun cdv Ar outer s H E hr => (dss_cons (ds_set (fun _ p => ps_set (i := 1) sc__law_wide_system.nd rfl (by first | exact Or.inl rfl | exact Or.inr rfl) p) (de_call (fun _ pa => pe_call G__law_take (hr.mono (by decide)) (by rfl) D__law_take.m D__law_take.F.kp D__law_take.b .nil pass0 pa) (dl_src (fun _ => pv 0) (dl_val de_int dl_nil))))
  (dss_cons (ds_own (fun _ p => ps_set (i := 2) sc__law_wide_system.nd rfl (by first | exact Or.inl rfl | exact Or.inr rfl) p) (dn_lst da_nil))
  (dss_cons (ds_for (fun _ => rfl) (di_range1 (fun _ => by rfl) (fun _ => T.range) (da_cons (de_call (fun _ pa => pe_call G__law_take (hr.mono (by decide)) (by rfl) D__law_take.m D__law_take.F.kp D__law_take.b .nil pass0 pa) (dl_src (fun _ => pv 0) (dl_val de_int dl_nil))) da_nil)) (dg_name (i := 3) (fun _ => pg_name sc__law_wide_system.nd rfl (by first | exact Or.inl rfl | exact Or.inr rfl))) (dss_cons (ds_set (fun _ p => ps_set (i := 4) sc__law_wide_system.nd rfl (by first | exact Or.inl rfl | exact Or.inr rfl) p) (de_ixA (de_n (dn_lst (da_cons de_int (da_cons (de_pow de_int de_int) da_nil)))) (de_call (fun _ pa => pe_call G__law_take (hr.mono (by decide)) (by rfl) D__law_take.m D__law_take.F.kp D__law_take.b .nil pass0 pa) (dl_src (fun _ => pv 0) (dl_val de_int dl_nil))) (fun _ _ => rfl)))
  (dss_cons (ds_set (fun _ p => ps_set (i := 5) sc__law_wide_system.nd rfl (by first | exact Or.inl rfl | exact Or.inr rfl) p) (de_callTy (fun _ => cr_tuple rfl) rc_tuple (fun _ => by rfl) (fun _ => T.tuple_) (by decide +kernel) (da_cons (de_n (dn_lc (o := true) (own := [(("_law_i" : Str), 6)]) (fun _ => rfl) (fun _ => sc__law_wide_system.nd) (di_range1 (fun _ => by rfl) (fun _ => T.range) (da_cons (de_var (fun _ => pv 1)) da_nil)) (fun _ => (blkOk_by (own := [(("_law_i" : Str), 6)]) (N := ["_law_source_here", "_law_variables", "_law_told", "_law_k", "_law_size", "_law_factors", "_law_i"]) (sc := defScope s__law_wide_system) (by decide +kernel))) (dg_name (i := 6) (fun _ => pg_name sc__law_wide_system.nd rfl (by first | exact Or.inl rfl | exact Or.inr rfl))) dts_nil (de_sub (de_call (fun _ pa => pe_call G__law_take (hr.mono (by decide)) (by rfl) D__law_take.m D__law_take.F.kp D__law_take.b .nil pass0 pa) (dl_src (fun _ => pv 0) (dl_val de_int dl_nil))) de_int) (by decide))) da_nil)))
  (dss_one (ds_app (fun _ p => ps_expr (pe_bm PySem.F.plainAttrs_list PySem.F.slot_list_append PySem.F.type_list_append mt_append (pv 2) (pa_cons p pa_nil))) (de_tup (da_cons (de_sub (de_call (fun _ pa => pe_call G__law_take (hr.mono (by decide)) (by rfl) D__law_take.m D__law_take.F.kp D__law_take.b .nil pass0 pa) (dl_src (fun _ => pv 0) (dl_val (de_add (de_mulA de_int (de_var (fun _ => pv 4))) de_int) dl_nil))) (de_var (fun _ => pv 4))) (da_cons (de_var (fun _ => pv 5)) da_nil))))))) (fun _ => PassesOwn.never))
  (dss_one (ds_ret (de_varO (fun _ => pv 2)))))))) (fun δ Qd l h => ?_)
  obtain ⟨rfl, hq⟩ := h
  refine ⟨rfl, 5, rfl, by decide, by decide, fun v v0 v1 => ?_⟩
  obtain ⟨v, rfl⟩ : ∃ k : Nat, v = (k : Int) := ⟨v.toNat, by omega⟩
  refine ⟨Nat.zero_le _, fun a => ⟨rfl, 4, rfl, by decide, by decide, fun e e0 e1 => ?_⟩⟩
  refine ⟨by omega, by omega, ?_⟩
  refine for_inv (fun i δ => ∃ (S : List (Int × List Int)) (s3 s4 s5 : Sl) (o6 : Option Dt), δ = [.src, .val (.int (v : Int)), .own a (.l (S.map formD)), s3, s4, s5, vl o6] ∧ S.length = i ∧ (∀ p, p ∈ S → p.2.length = v ∧ (∀ x, x ∈ p.2 → -6 ≤ x ∧ x ≤ 6) ∧ p.1.natAbs ≤ 10 ^ 30)) ⟨[], _, _, _, none, rfl, rfl, fun r m => nomatch m⟩ (fun i dd δ N hi hI h1 => ?_) (fun δ hI => ?_)
  · obtain ⟨S, s3, s4, s5, o6, rfl, hl, hS⟩ := hI
    obtain ⟨hi, rfl⟩ := rngD_get hi
    refine ⟨⟨by decide, by decide, by decide⟩, by show 2 ≤ sizeLine; decide, rfl, 2, rfl, by decide, by decide, fun r r0 r1 => ?_⟩
    obtain ⟨sz, hsz, sz0, sz1⟩ : ∃ sz : Int, atI [Dt.int 3, Dt.int (10 ^ 30)] r = some (Dt.int sz) ∧ 0 < sz ∧ sz ≤ 10 ^ 30 := by
      have : r = 0 ∨ r = 1 := by omega
      rcases this with rfl | rfl
      · exact ⟨3, rfl, by decide, by decide⟩
      · exact ⟨10 ^ 30, rfl, by decide, by decide⟩
    refine ⟨_, hsz, ?_⟩
    have bv := b62 (i := v) (by omega) (by omega)
    refine ⟨bv.1, bv.2, by cases o6 <;> rfl, by rw [rngD_len]; exact k1000 (by omega), ?_⟩
    unfold rngD
    refine lc_all (g := fun i : Nat => Dt.int (0 + (i : Int))) Dt.int (fun z => -6 ≤ z ∧ z ≤ 6) (List.range _) (fun i m Q q => ?_) (fun ss ls hs => ?_)
    · exact ⟨rfl, 13, rfl, by decide, by decide, fun r r0 r1 => q (r - 6) ⟨by omega, by omega⟩⟩
    have ls : ss.length = v := ls.trans (by rw [List.length_range]; omega)
    have szn : sz.natAbs < 2 ^ 110 := Nat.lt_of_le_of_lt (by omega : sz.natAbs ≤ 10 ^ 30) (by decide)
    refine ⟨wide_mul (a := 2) (b := 110) (by decide) szn (by decide) (by decide) (by decide), rfl, 2 * sz + 1, rfl, by omega, ?_, fun t t0 t1 => ?_⟩
    · have k : (2 : Int) * 10 ^ 30 + 1 < 2 ^ 200 := by decide
      omega
    refine ⟨by show 2 ≤ sizeLine; decide, by rw [List.length_map]; exact k1000 (by omega), ?_⟩
    refine h1 _ ⟨S ++ [(t - sz, ss)], .val (.int (0 + (i : Int))), .val (.int sz), .val (tI ss), o6, by rw [List.map_append]; rfl, by rw [List.length_append]; show S.length + 1 = i + 1; omega, fun p m => ?_⟩
    rcases List.mem_append.mp m with m | m
    · exact hS p m
    · have : p = (t - sz, ss) := by simpa using m
      subst this
      exact ⟨ls, hs, by show (t - sz).natAbs ≤ 10 ^ 30; omega⟩
  · obtain ⟨S, s3, s4, s5, o6, rfl, hl, hS⟩ := hI
    rw [rngD_len] at hl
    refine hq S v ⟨by omega, by omega, fun p m => (hS p m).1, fun p m x mx => by have := (hS p m).2.1 x mx; omega, fun p m => Nat.lt_of_le_of_lt (hS p m).2.2 (by decide)⟩
end
end My
set_option maxHeartbeats 4000000
namespace My
open PySem PySem.Spec PyProof.Rows L2 Lcn Sq Dl
open Hm
def ItemOk (y : Dt) : Prop := ShW 1 120 y ∧ pln y = true ∧ (numD y).natAbs < 2 ^ 120
def AskS (d : Dt) : Prop := Ask d ∧ shwW d = true
theorem item_int {n : Int} (h : n.natAbs < 2 ^ 120) : ItemOk (.int n) := ⟨(shW_int h).up (by decide) (by decide), rfl, h⟩
theorem askS_mk {b : Bool} {ys : List Dt} (h : ∀ y, y ∈ ys → ItemOk y) (hl : ys.length ≤ 8) : AskS (mkS b ys) := by
  refine ⟨⟨sq_pln, fun zs e => ?_⟩, (shW_mk (fun y m => (h y m).1) hl).fin (by decide) (by decide)⟩
  rw [mkS_items] at e
  cases e
  exact ⟨by omega, fun y m => (h y m).2⟩
theorem askS_sc {d : Dt} (h : itemsD d = none) (hp : pln d = true) {n w : Nat} (hs : ShW n w d) (hn : n ≤ 64) (hw : w ≤ 10000) : AskS d := ⟨⟨hp, fun ys e => by rw [h] at e; cases e⟩, hs.fin hn hw⟩
theorem fit_fault {S : List (Int × List Int)} {v : Nat} {d : Dt} : Fit 1 (faultD S v d) := by
  have t : Fit 1 numsT := fit_tup (n := 0) fun d m => by
    simp at m
    rw [m]
    exact fit_strW (by decide +kernel)
  have u : ∀ (x : Str) (i : Int), PyData.strOk x = true → Fit 1 (.tup [.str x, .int i]) := fun x i hx => fit_tup (n := 0) fun d m => by
    simp at m
    rcases m with rfl | rfl
    · exact fit_strW hx
    · exact fit_int 0 _
  unfold faultD
  split
  · exact t
  · split
    · exact t
    · unfold faultL
      split
      · exact u _ _ (by decide +kernel)
      · split
        · exact u _ _ (by decide +kernel)
        · exact ⟨rfl, Nat.zero_le _⟩
theorem ne_fault {S : List (Int × List Int)} {v : Nat} {d : Dt} {Q : Dt → Prop} (q : Q (.bl false)) : dEq true (faultD S v d) (faultD S v d) Q := by
  unfold dEq
  have f : Fit 1 (faultD S v d) := fit_fault
  refine ⟨f.sh (by decide), f.sh (by decide), ?_⟩
  rw [eqv_same _ f.1]
  exact q
theorem sum_bd {B : Nat} : ∀ {L : List Int}, (∀ z, z ∈ L → z.natAbs ≤ B) → L.sum.natAbs ≤ L.length * B
  | [], _ => Nat.zero_le _
  | z :: L, h => by
    have h1 := sum_bd fun y m => h y (List.mem_cons_of_mem _ m)
    have h2 := h z (List.mem_cons_self ..)
    rw [List.sum_cons, List.length_cons, Nat.succ_mul]
    omega
theorem dot_bd {f xs : List Int} (hf : ∀ a, a ∈ f → -5 ≤ a ∧ a ≤ 5) (hx : ∀ x, x ∈ xs → x.natAbs < 2 ^ 100) (fl : f.length ≤ 3) : (dot f xs).natAbs < 2 ^ 110 := by
  have h := sum_bd (B := 5 * 2 ^ 100) (L := (f.zip xs).map fun p => p.1 * p.2) fun z m => by
    obtain ⟨p, mp, rfl⟩ := List.mem_map.mp m
    rw [Int.natAbs_mul]
    have a1 := hf p.1 (List.of_mem_zip mp).1
    exact Nat.mul_le_mul (by omega) (Nat.le_of_lt (hx p.2 (List.of_mem_zip mp).2))
  have l : ((f.zip xs).map fun p => p.1 * p.2).length ≤ 3 := by
    rw [List.length_map, List.length_zip]
    omega
  have := Nat.mul_le_mul_right (5 * 2 ^ 100) l
  have k : 3 * (5 * 2 ^ 100) < 2 ^ 110 := by decide
  unfold dot
  omega
theorem kle {n : Nat} (h : n < 1000) : n ≤ sizeLine := Nat.le_trans (Nat.le_of_lt h) (by decide)
theorem k1000' {n : Nat} (h : n < 999) : n < sizeLine := Nat.lt_of_lt_of_le h (by decide)
theorem cut_len (ds : List Dt) (lo hi : Option Int) : (Dl.cutD ds lo hi).length ≤ ds.length := by
  unfold Dl.cutD
  rw [List.length_take, List.length_drop]
  omega
theorem cut_mem {ds : List Dt} {lo hi : Option Int} {y : Dt} (h : y ∈ Dl.cutD ds lo hi) : y ∈ ds := by
  unfold Dl.cutD at h
  exact List.mem_of_mem_drop (List.mem_of_mem_take h)
theorem items6 {x : Int} (xb : x.natAbs < 2 ^ 100) : ∀ y, y ∈ [Dt.bl true, .non, .int (-1), .int (-(10 ^ 30)), .str "1", .int (x + 1)] → ItemOk y := fun y m => by
  have k : (2 : Nat) ^ 100 + 1 < 2 ^ 120 := by decide
  simp only [List.mem_cons, List.not_mem_nil, or_false] at m
  rcases m with rfl | rfl | rfl | rfl | rfl | rfl
  · exact ⟨(shW_bl _).up (by decide) (by decide), rfl, by decide⟩
  · exact ⟨shW_non.up (by decide) (by decide), rfl, by decide⟩
  · exact item_int (by decide)
  · exact item_int (by decide)
  · exact ⟨(shW_str (x := "1") (by decide +kernel) (by decide +kernel)).up (by decide) (by decide), rfl, by decide⟩
  · exact item_int (by omega)
theorem item_xs {xs : List Int} (xb : ∀ x, x ∈ xs → x.natAbs < 2 ^ 100) : ∀ y, y ∈ xs.map Dt.int → ItemOk y := fun y m => by
  obtain ⟨x, mx, rfl⟩ := List.mem_map.mp m
  exact item_int (Nat.lt_of_lt_of_le (xb x mx) (by decide))
theorem pick5 {r : Int} (r0 : 0 ≤ r) (r1 : r < 5) : ∃ o, atI [Dt.non, .int 0, .str "", .dk [], .str "0"] r = some o ∧ AskS o := by
  have : r = 0 ∨ r = 1 ∨ r = 2 ∨ r = 3 ∨ r = 4 := by omega
  rcases this with rfl | rfl | rfl | rfl | rfl
  · exact ⟨_, rfl, askS_sc rfl rfl shW_non (by decide) (by decide)⟩
  · exact ⟨_, rfl, askS_sc rfl rfl (shW_int (i := 0) (by decide)) (by decide) (by decide)⟩
  · exact ⟨_, rfl, askS_sc rfl rfl (shW_str (x := "") (by decide +kernel) (by decide +kernel)) (by decide) (by decide)⟩
  · exact ⟨_, rfl, askS_sc rfl rfl shW_emp (by decide) (by decide)⟩
  · exact ⟨_, rfl, askS_sc rfl rfl (shW_str (x := "0") (by decide +kernel) (by decide +kernel)) (by decide) (by decide)⟩
theorem five {xs : List Int} {o : Dt} (xb : ∀ x, x ∈ xs → x.natAbs < 2 ^ 100) (lx : xs.length ≤ 3) (oa : AskS o) : ∀ d, d ∈ [Dt.lst (xs.map .int), .tup (xs.map .int), .lst (xs.map .int ++ [.int 0]), .lst (Dl.cutD (xs.map .int) (some 1) none), o] → AskS d := fun d m => by
  have ix := item_xs xb
  simp only [List.mem_cons, List.not_mem_nil, or_false] at m
  rcases m with rfl | rfl | rfl | rfl | rfl
  · exact askS_mk (b := true) ix (by rw [List.length_map]; omega)
  · exact askS_mk (b := false) ix (by rw [List.length_map]; omega)
  · refine askS_mk (b := true) (fun y m => ?_) (by rw [List.length_append, List.length_map]; show xs.length + 1 ≤ 8; omega)
    rcases List.mem_append.mp m with m | m
    · exact ix y m
    · have : y = .int 0 := by simpa using m
      rw [this]
      exact item_int (by decide)
  · rw [show Dl.cutD (xs.map Dt.int) (some 1) none = (xs.map Dt.int).drop 1 from cut_from _ 1]
    exact askS_mk (b := true) (fun y m => ix y (List.mem_of_mem_drop m)) (by rw [List.length_drop, List.length_map]; omega)
  · exact oa
def sp_faults : Spc := fun δ Q => δ = [.src] ∧ Q (.bl true)
theorem sc__law_faults_right : FnScope ["_law_source_here", "_law_numbers", "_law_system", "_law_asked", "_law_one", "_law_at", "_law_odd", "_law_kept", "_law_i"] ["_law_source_here"] (defScope s__law_faults_right) := ⟨rfl, rfl, rfl, by decide +kernel, rfl, by decide +kernel, by decide +kernel⟩
section
variable {P : Program} {w : World} {K : PySem.W.Frag} {mg : Str → Option Value} {base : Heap}
theorem ok__law_faults_right (GS : GSys base) (D__law_faults_right : Dn K mg "_law_faults_right" s__law_faults_right ["_law_source_here"]) (D__law_take : Dn K mg "_law_take" s__law_take ["_law_source_here", "_law_many"]) (G__law_take : FnOk P w K mg base CX0 1 D__law_take.f D__law_take.fd ["_law_source_here", "_law_many"] (dsp K 2 sp_take)) (D__law_made_system : Dn K mg "_law_made_system" s__law_made_system ["_law_source_here", "_law_equations", "_law_factor", "_law_numbers"]) (G__law_made_system : FnOk P w K mg base CX0 2 D__law_made_system.f D__law_made_system.fd ["_law_source_here", "_law_equations", "_law_factor", "_law_numbers"] (dspN K 4 sp_made)) (D_answer_fault : Dn K mg "answer_fault" s_answer_fault ["system", "numbers"]) (G_answer_fault : FnOk P w K mg base CX0 3 D_answer_fault.f D_answer_fault.fd ["system", "numbers"] (dsp K 2 sp_fault)) (D__law_handed : Dn K mg "_law_handed" s__law_handed ["_law_source_here", "_law_system"]) (G__law_handed : FnOk P w K mg base CX0 3 D__law_handed.f D__law_handed.fd ["_law_source_here", "_law_system"] (dsp K 2 sp_handed)) (D__law_due_fault : Dn K mg "_law_due_fault" s__law_due_fault ["_law_system", "_law_numbers"]) (G__law_due_fault : FnOk P w K mg base CX0 3 D__law_due_fault.f D__law_due_fault.fd ["_law_system", "_law_numbers"] (dsp K 2 sp_due)) (T : TB mg) : Gd.FnG P w K mg base CX0 6 D__law_faults_right.f D__law_faults_right.fd ["_law_source_here"] (dsp K 1 sp_faults) := by
  refine fn_dg (k := 5) (N := ["_law_source_here", "_law_numbers", "_law_system", "_law_asked", "_law_one", "_law_at", "_law_odd", "_law_kept", "_law_i"]) D__law_faults_right.F sc__law_faults_right (fun cdv Ar outer s H E hgd hr => (dss_cons (ds_ofV (ds_lcN (o := true) (i := 1) (own := [(("_law_i" : Str), 8)]) (fun _ => rfl) (fun _ => sc__law_faults_right.nd) (fun _ => rfl) (fun _ => rfl) (fun _ => sw_true rfl rfl rfl (by decide +kernel)) (di_range1 (fun _ => by rfl) (fun _ => T.range) (da_cons (de_call (fun _ pa => pe_call G__law_take (hr.mono (by decide)) (by rfl) D__law_take.m D__law_take.F.kp D__law_take.b .nil pass0 pa) (dl_src (fun _ => pv 0) (dl_val de_int dl_nil))) da_nil)) (fun _ => (blkOk_by (own := [(("_law_i" : Str), 8)]) (N := ["_law_source_here", "_law_numbers", "_law_system", "_law_asked", "_law_one", "_law_at", "_law_odd", "_law_kept", "_law_i"]) (sc := defScope s__law_faults_right) (by decide +kernel))) (dg_name (i := 8) (fun _ => pg_name sc__law_faults_right.nd rfl (by first | exact Or.inl rfl | exact Or.inr rfl))) dts_nil (de_call (fun _ pa => pe_call G__law_take (hr.mono (by decide)) (by rfl) D__law_take.m D__law_take.F.kp D__law_take.b .nil pass0 pa) (dl_src (fun _ => pv 0) (dl_val (de_ixA (de_n (dn_lst (da_cons de_int (da_cons (de_pow de_int de_int) da_nil)))) (de_call (fun _ pa => pe_call G__law_take (hr.mono (by decide)) (by rfl) D__law_take.m D__law_take.F.kp D__law_take.b .nil pass0 pa) (dl_src (fun _ => pv 0) (dl_val de_int dl_nil))) (fun _ _ => rfl)) dl_nil))) (by decide) rfl))
  (dss_cons (ds_own (fun _ p => ps_set (i := 2) sc__law_faults_right.nd rfl (by first | exact Or.inl rfl | exact Or.inr rfl) p) (dn_call (fun _ pa => pe_call G__law_made_system (hr.mono (by decide)) (by rfl) D__law_made_system.m D__law_made_system.F.kp D__law_made_system.b .nil pass0 pa) (dl_src (fun _ => pv 0) (dl_val (de_call (fun _ pa => pe_call G__law_take (hr.mono (by decide)) (by rfl) D__law_take.m D__law_take.F.kp D__law_take.b .nil pass0 pa) (dl_src (fun _ => pv 0) (dl_val de_int dl_nil))) (dl_val de_int (dl_val (de_var (fun _ => pv 1)) dl_nil))))))
  (dss_cons (ds_if (dt_w (dw_and (dt_cmpC (cd_eq (fun _ => ru64 hr)) (de_call (fun _ pa => pe_call G__law_take (hr.mono (by decide)) (by rfl) D__law_take.m D__law_take.F.kp D__law_take.b .nil pass0 pa) (dl_src (fun _ => pv 0) (dl_val de_int dl_nil))) de_int (nomark _)) (dw_and1 (dt_cmpC (cd_ne (fun _ => ru64 hr)) (de_varO (fun _ => pv 2)) (de_n (dn_lst da_nil)) (nomark _))))) (dss_cons (ds_set (fun _ p => ps_set (i := 5) sc__law_faults_right.nd rfl (by first | exact Or.inl rfl | exact Or.inr rfl) p) (de_flat (de_call (fun _ pa => pe_call G__law_take (hr.mono (by decide)) (by rfl) D__law_take.m D__law_take.F.kp D__law_take.b .nil pass0 pa) (dl_src (fun _ => pv 0) (dl_val (de_callB (fun _ => cr_len rfl) rc_len (fun _ => by rfl) (fun _ => T.len) PySem.boot_len (da_cons (de_varO (fun _ => pv 2)) da_nil)) dl_nil)))))
  (dss_one (ds_put (fun _ p q => ps_asg p (pg_sub (pv 2) q set_list)) (de_tup (da_cons (de_add (de_ixA (de_ixO (fun _ => pv 2) (de_var (fun _ => pv 5)) (fun _ _ => rfl)) de_int (fun _ _ => rfl)) (de_ixA (de_n (dn_lst (da_cons de_int (da_cons (de_neg de_int) (da_cons (de_pow de_int de_int) da_nil))))) (de_call (fun _ pa => pe_call G__law_take (hr.mono (by decide)) (by rfl) D__law_take.m D__law_take.F.kp D__law_take.b .nil pass0 pa) (dl_src (fun _ => pv 0) (dl_val de_int dl_nil))) (fun _ _ => rfl))) (da_cons (de_ixA (de_ixO (fun _ => pv 2) (de_var (fun _ => pv 5)) (fun _ _ => rfl)) de_int (fun _ _ => rfl)) da_nil))) (de_var (fun _ => pv 5))))) dss_nil)
  (dss_frz 2 (dss_cons (ds_own (fun _ p => ps_set (i := 3) sc__law_faults_right.nd rfl (by first | exact Or.inl rfl | exact Or.inr rfl) p) (dn_lst (da_cons (de_var (fun _ => pv 1)) (da_cons (de_callTy (fun _ => cr_tuple rfl) rc_tuple (fun _ => by rfl) (fun _ => T.tuple_) (by decide +kernel) (da_cons (de_var (fun _ => pv 1)) da_nil)) (da_cons (de_add (de_var (fun _ => pv 1)) (de_n (dn_lst (da_cons de_int da_nil)))) (da_cons (de_slice (de_var (fun _ => pv 1)) (do_some de_int) do_none) (da_cons (de_ixA (de_n (dn_lst (da_cons de_non (da_cons de_int (da_cons de_str (da_cons de_emp (da_cons de_str da_nil))))))) (de_call (fun _ pa => pe_call G__law_take (hr.mono (by decide)) (by rfl) D__law_take.m D__law_take.F.kp D__law_take.b .nil pass0 pa) (dl_src (fun _ => pv 0) (dl_val de_int dl_nil))) (fun _ _ => rfl)) da_nil)))))))
  (dss_cons (ds_if (dt_cmpC (cd_ne (fun _ => ru64 hr)) (de_var (fun _ => pv 1)) (de_n (dn_lst da_nil)) (nomark _)) (dss_cons (ds_set (fun _ p => ps_set (i := 5) sc__law_faults_right.nd rfl (by first | exact Or.inl rfl | exact Or.inr rfl) p) (de_call (fun _ pa => pe_call G__law_take (hr.mono (by decide)) (by rfl) D__law_take.m D__law_take.F.kp D__law_take.b .nil pass0 pa) (dl_src (fun _ => pv 0) (dl_val (de_callB (fun _ => cr_len rfl) rc_len (fun _ => by rfl) (fun _ => T.len) PySem.boot_len (da_cons (de_var (fun _ => pv 1)) da_nil)) dl_nil))))
  (dss_one (ds_for (fun _ => rfl) (di_seq (de_tup (da_cons de_bl (da_cons de_non (da_cons (de_neg de_int) (da_cons (de_neg (de_pow de_int de_int)) (da_cons de_str (da_cons (de_add (de_ixA (de_var (fun _ => pv 1)) (de_var (fun _ => pv 5)) (fun _ _ => rfl)) de_int) da_nil)))))))) (dg_name (i := 6) (fun _ => pg_name sc__law_faults_right.nd rfl (by first | exact Or.inl rfl | exact Or.inr rfl))) (dss_cons (ds_app (fun _ p => ps_expr (pe_bm PySem.F.plainAttrs_list PySem.F.slot_list_append PySem.F.type_list_append mt_append (pv 3) (pa_cons p pa_nil))) (de_add (de_add (de_slice (de_var (fun _ => pv 1)) do_none (do_some (de_var (fun _ => pv 5)))) (de_n (dn_lst (da_cons (de_var (fun _ => pv 6)) da_nil)))) (de_slice (de_var (fun _ => pv 1)) (do_some (de_add (de_var (fun _ => pv 5)) de_int)) do_none)))
  (dss_one (ds_app (fun _ p => ps_expr (pe_bm PySem.F.plainAttrs_list PySem.F.slot_list_append PySem.F.type_list_append mt_append (pv 3) (pa_cons p pa_nil))) (de_add (de_callTy (fun _ => cr_tuple rfl) rc_tuple (fun _ => by rfl) (fun _ => T.tuple_) (by decide +kernel) (da_cons (de_add (de_add (de_slice (de_var (fun _ => pv 1)) do_none (do_some (de_var (fun _ => pv 5)))) (de_n (dn_lst (da_cons (de_var (fun _ => pv 6)) da_nil)))) (de_slice (de_var (fun _ => pv 1)) (do_some (de_add (de_var (fun _ => pv 5)) de_int)) do_none)) da_nil)) (de_tup (da_cons (de_var (fun _ => pv 6)) da_nil)))))) (fun _ => PassesOwn.never)))) dss_nil)
  (dss_frz 3 (dss_cons (ds_for (fun _ => rfl) (di_seq (de_var (fun _ => pv 3))) (dg_name (i := 4) (fun _ => pg_name sc__law_faults_right.nd rfl (by first | exact Or.inl rfl | exact Or.inr rfl))) (dss_cons (ds_set (fun _ p => ps_set (i := 7) sc__law_faults_right.nd rfl (by first | exact Or.inl rfl | exact Or.inr rfl) p) (de_callB (fun _ => cr_reprW GS hgd (ru66 hr)) rc_reprW (fun _ => by rfl) (fun _ => T.repr) (by decide +kernel) (da_cons (de_var (fun _ => pv 4)) da_nil)))
  (dss_one (ds_if (dt_w (dw_or (dt_cmpC (cd_ne (fun _ => ru64 hr)) (de_call (fun _ pa => pe_call G_answer_fault (hr.mono (by decide)) (by rfl) D_answer_fault.m D_answer_fault.F.kp D_answer_fault.b .nil pass0 pa) (dl_val (de_call (fun _ pa => pe_call G__law_handed (hr.mono (by decide)) (by rfl) D__law_handed.m D__law_handed.F.kp D__law_handed.b .nil pass0 pa) (dl_src (fun _ => pv 0) (dl_val (de_varO (fun _ => pv 2)) dl_nil))) (dl_val (de_var (fun _ => pv 4)) dl_nil))) (de_call (fun _ pa => pe_call G__law_due_fault (hr.mono (by decide)) (by rfl) D__law_due_fault.m D__law_due_fault.F.kp D__law_due_fault.b .nil pass0 pa) (dl_val (de_varO (fun _ => pv 2)) (dl_val (de_var (fun _ => pv 4)) dl_nil))) (nomark _)) (dw_or1 (dt_cmpC cd_neS (de_callB (fun _ => cr_reprW GS hgd (ru66 hr)) rc_reprW (fun _ => by rfl) (fun _ => T.repr) (by decide +kernel) (da_cons (de_var (fun _ => pv 4)) da_nil)) (de_var (fun _ => pv 7)) (nomark _))))) (dss_one (ds_ret de_bl)) dss_nil))) (fun _ => PassesOwn.never))
  (dss_one (ds_ret de_bl))))))))))) (fun δ Qd l h => ?_)
  obtain ⟨rfl, hq⟩ := h
  refine ⟨rfl, 4, rfl, by decide, by decide, fun m m0 m1 => ⟨by omega, by omega, rfl, by rw [rngD_len]; exact k1000 (by omega), ?_⟩⟩
  unfold rngD
  refine lc_all (g := fun i : Nat => Dt.int (0 + (i : Int))) Dt.int (fun z => 0 ≤ z ∧ z < 10 ^ 30) (List.range _) (fun i m Q q => ?_) (fun xs lx hx => ?_)
  · refine ⟨⟨by decide, by decide, by decide⟩, by show 2 ≤ sizeLine; decide, rfl, 2, rfl, by decide, by decide, fun r r0 r1 => ?_⟩
    obtain ⟨sz, hsz, sz0, sz1⟩ : ∃ sz : Int, atI [Dt.int 4, Dt.int (10 ^ 30)] r = some (Dt.int sz) ∧ 0 < sz ∧ sz ≤ 10 ^ 30 := by
      have : r = 0 ∨ r = 1 := by omega
      rcases this with rfl | rfl
      · exact ⟨4, rfl, by decide, by decide⟩
      · exact ⟨10 ^ 30, rfl, by decide, by decide⟩
    have k : (10 : Int) ^ 30 < 2 ^ 200 := by decide
    exact ⟨_, hsz, rfl, sz, rfl, sz0, by omega, fun x x0 x1 => q x ⟨x0, by omega⟩⟩
  have lx : xs.length ≤ 3 := by rw [lx, List.length_range]; omega
  have xb : ∀ x, x ∈ xs → x.natAbs < 2 ^ 100 := fun x m => Nat.lt_of_lt_of_le (by have := hx x m; omega : x.natAbs < 10 ^ 30) (by decide)
  have one : 1 ≤ sizeLine := by decide
  have two : 2 ≤ sizeLine := by decide
  refine ⟨rfl, 4, rfl, by decide, by decide, fun e e0 e1 => ?_⟩
  obtain ⟨e, rfl⟩ : ∃ k : Nat, e = (k : Int) := ⟨e.toNat, by omega⟩
  refine ⟨rfl, e, xs, rfl, by omega, lx, xb, fun S hS hp a => ?_⟩
  have fok : ∀ p, p ∈ S → p.2.length = xs.length ∧ (∀ x, x ∈ p.2 → x.natAbs < 2 ^ 10) ∧ p.1.natAbs < 2 ^ 110 := fun p mp => by
    obtain ⟨h1, h2, h3⟩ := hp p mp
    refine ⟨h1, fun x m => by have := h2 x m; omega, ?_⟩
    have := dot_bd h2 xb (by omega)
    omega
  have el : ((S.map formD).length : Int) = (S.length : Int) := by rw [List.length_map]
  have sd : ∃ S' : List (Int × List Int), Sys S' xs.length := ⟨[], by decide, by omega, (fun p m => nomatch m), (fun p m => nomatch m), fun p m => nomatch m⟩
  refine ⟨rfl, 2, rfl, by decide, by decide, fun t t0 t1 => ?_⟩
  by_cases ht : t = 0
  rotate_left
  · refine dEq_int false (by simp [ht]) ⟨_, rfl, ite_f rfl (ite_f rfl ?_)⟩
    obtain ⟨S', hset, good⟩ : ∃ S', S.map formD = S'.map formD ∧ Sys S' xs.length := ⟨S, rfl, by omega, by omega, fun p m => (fok p m).1, fun p m => (fok p m).2.1, fun p m => Nat.lt_of_lt_of_le (fok p m).2.2 (by decide)⟩
    refine ⟨one, by show (xs.map Dt.int).length + 1 ≤ sizeLine; rw [List.length_map]; exact k1000 (by omega), _, rfl, by show 5 ≤ sizeLine; decide, rfl, 5, rfl, by decide, by decide, fun r r0 r1 => ?_⟩
    obtain ⟨o, ho, oa⟩ := pick5 r0 r1
    refine ⟨o, ho, by show 5 ≤ sizeLine; decide, fun a2 => ?_⟩
    have as5 : ∀ d, d ∈ [Dt.lst (xs.map .int), .tup (xs.map .int), .lst (xs.map .int ++ [.int 0]), .lst (Dl.cutD (xs.map .int) (some 1) none), o] → AskS d := five xb lx oa
    by_cases hx0 : xs = []
    · refine ⟨Nat.zero_le _, dEq_iL (x := xs) (y := []) false (by simp [hx0]) ⟨_, rfl, ite_f rfl ?_⟩⟩
      refine for_inv (fun i δ => ∃ (s4 s5 s6 s7 s8 : Sl), δ = [.src, .val _, .val _, .val _, s4, s5, s6, s7, s8]) ⟨_, _, _, _, _, rfl⟩ (fun i dd δ N hi hI h1 => ?_) (fun δ hI => ?_)
      · obtain ⟨s4, s5, s6, s7, s8, rfl⟩ := hI
        obtain ⟨ask, shw⟩ := as5 dd (List.mem_of_getElem? hi)
        refine ⟨dd, rfl, shw, ?_⟩
        refine ⟨rfl, S', by show [Sl.src, Sl.val (Dt.lst _)] = [Sl.src, Sl.val (Dt.lst (S'.map formD))]; rw [hset], by have := good.s4; omega, fun b H hH => ?_⟩
        subst hH
        have hl : H.length ≤ 4 := by have := good.s4; unfold sysH at this; rw [List.length_map] at this; exact this
        have hr : ∀ p, p ∈ sysH H → p.2.length = xs.length ∧ ∀ a, a ∈ p.2 → a.natAbs < 2 ^ 10 := fun p m => ⟨good.fl p m, good.fb p m⟩
        refine ⟨rfl, b, H, xs.length, dd, rfl, fun r m => hr (r.n, r.f) (List.mem_map.mpr ⟨r, m, rfl⟩), by omega, by omega, ask, ?_⟩
        refine ⟨rfl, sysH H, xs.length, dd, by show [Sl.val (Dt.lst _), Sl.val dd] = [Sl.val (Dt.lst ((sysH H).map formD)), Sl.val dd]; rw [hset], hr, by have := good.s4; omega, by omega, ask, ne_fault ⟨false, rfl, ite_f rfl ?_⟩⟩
        refine ⟨dd, rfl, shw, ?_⟩
        generalize (pyW dd).shown = z
        refine ⟨false, by simp, ite_f rfl ?_⟩
        exact h1 _ ⟨_, _, _, _, _, rfl⟩
      · obtain ⟨s4, s5, s6, s7, s8, rfl⟩ := hI
        exact hq
    refine ⟨Nat.zero_le _, dEq_iL (x := xs) (y := []) true (by simp [hx0]) ⟨_, rfl, ite_t rfl ?_⟩⟩
    have x0 : 0 < xs.length := List.length_pos_iff.mpr hx0
    have xl2 : ((xs.map Dt.int).length : Int) = (xs.length : Int) := by rw [List.length_map]
    refine ⟨rfl, ((xs.map Dt.int).length : Int), rfl, by rw [xl2]; omega, by rw [xl2]; exact Int.lt_trans (by omega : (xs.length : Int) < 1000) (by decide), fun j j0 j1 => ?_⟩
    rw [xl2] at j1
    obtain ⟨j, rfl⟩ : ∃ k : Nat, j = (k : Int) := ⟨j.toNat, by omega⟩
    have jx : j < xs.length := by omega
    have atX : atI (xs.map Dt.int) (j : Int) = some (.int xs[j]) := atI_map (f := Dt.int) (atI_nat (List.getElem?_eq_getElem jx))
    refine ⟨_, rfl, ⟨by decide, by decide, by decide⟩, _, rfl, _, atX, by show 6 ≤ sizeLine; decide, ?_⟩
    have six : ∀ y, y ∈ [Dt.bl true, .non, .int (-1), .int (-(10 ^ 30)), .str "1", .int (xs[j] + 1)] → ItemOk y := items6 (xb _ (List.getElem_mem ..))
    refine for_inv (fun i δ => ∃ (L : List Dt) (s4 s6 s7 s8 : Sl), δ = [.src, .val (.lst (xs.map .int)), .val _, .own a2 (.l L), s4, .val (.int (j : Int)), s6, s7, s8] ∧ L.length = 5 + 2 * i ∧ ∀ d, d ∈ L → AskS d) ⟨_, _, _, _, _, rfl, rfl, as5⟩ (fun i dd δ N hi hI h1 => ?_) (fun δ hI => ?_)
    · obtain ⟨L, s4, s6, s7, s8, rfl, hL, aL⟩ := hI
      have io := six dd (List.mem_of_getElem? hi)
      have i6 : i < 6 := (List.getElem?_eq_some_iff.mp hi).1
      have c1 := cut_len (xs.map Dt.int) none (some (j : Int))
      have c2 := cut_len (xs.map Dt.int) (some ((j : Int) + 1)) none
      rw [List.length_map] at c1 c2
      have all : ∀ y, y ∈ Dl.cutD (xs.map Dt.int) none (some (j : Int)) ++ [dd] ++ Dl.cutD (xs.map Dt.int) (some ((j : Int) + 1)) none → ItemOk y := fun y m => by
        rcases List.mem_append.mp m with m | m
        · rcases List.mem_append.mp m with m | m
          · exact item_xs xb y (cut_mem m)
          · have : y = dd := by simpa using m
            rw [this]
            exact io
        · exact item_xs xb y (cut_mem m)
      have l1 : (Dl.cutD (xs.map Dt.int) none (some (j : Int)) ++ [dd]).length ≤ 4 := by
        rw [List.length_append]
        show _ + 1 ≤ 4
        omega
      have l2 : (Dl.cutD (xs.map Dt.int) none (some (j : Int)) ++ [dd] ++ Dl.cutD (xs.map Dt.int) (some ((j : Int) + 1)) none).length ≤ 7 := by
        rw [List.length_append]
        omega
      have g1 : AskS (.lst (Dl.cutD (xs.map Dt.int) none (some (j : Int)) ++ [dd] ++ Dl.cutD (xs.map Dt.int) (some ((j : Int) + 1)) none)) := askS_mk (b := true) all (by omega)
      have g2 : AskS (.tup (Dl.cutD (xs.map Dt.int) none (some (j : Int)) ++ [dd] ++ Dl.cutD (xs.map Dt.int) (some ((j : Int) + 1)) none ++ [dd])) := askS_mk (b := false) (fun y m => by
        rcases List.mem_append.mp m with m | m
        · exact all y m
        · have : y = dd := by simpa using m
          rw [this]
          exact io) (by rw [List.length_append]; show _ + 1 ≤ 8; omega)
      refine ⟨_, rfl, one, kle (by show (Dl.cutD (xs.map Dt.int) none (some (j : Int))).length + 1 < 1000; omega), _, rfl, kle (by omega), k1000' (by omega), ?_⟩
      refine ⟨_, rfl, one, kle (by show (Dl.cutD (xs.map Dt.int) none (some (j : Int))).length + 1 < 1000; omega), _, rfl, kle (by omega), one, kle (by show _ + 1 < 1000; omega), k1000' (by rw [List.length_append]; show L.length + 1 < 999; omega), ?_⟩
      refine h1 _ ⟨_, _, _, _, _, rfl, by rw [List.length_append, List.length_append, hL]; show 5 + 2 * i + 1 + 1 = 5 + 2 * (i + 1); omega, fun d m => ?_⟩
      rcases List.mem_append.mp m with m | m
      · rcases List.mem_append.mp m with m | m
        · exact aL d m
        · have := List.mem_singleton.mp m
          rw [this]
          exact g1
      · have := List.mem_singleton.mp m
        rw [this]
        exact g2
    obtain ⟨L, s4, s6, s7, s8, rfl, hL, aL⟩ := hI
    refine for_inv (fun i δ => ∃ (s4 s5 s6 s7 s8 : Sl), δ = [.src, .val _, .val _, .val _, s4, s5, s6, s7, s8]) ⟨_, _, _, _, _, rfl⟩ (fun i dd δ N hi hI h1 => ?_) (fun δ hI => ?_)
    · obtain ⟨s4, s5, s6, s7, s8, rfl⟩ := hI
      obtain ⟨ask, shw⟩ := aL dd (List.mem_of_getElem? hi)
      refine ⟨dd, rfl, shw, ?_⟩
      refine ⟨rfl, S', by show [Sl.src, Sl.val (Dt.lst _)] = [Sl.src, Sl.val (Dt.lst (S'.map formD))]; rw [hset], by have := good.s4; omega, fun b H hH => ?_⟩
      subst hH
      have hl : H.length ≤ 4 := by have := good.s4; unfold sysH at this; rw [List.length_map] at this; exact this
      have hr : ∀ p, p ∈ sysH H → p.2.length = xs.length ∧ ∀ a, a ∈ p.2 → a.natAbs < 2 ^ 10 := fun p m => ⟨good.fl p m, good.fb p m⟩
      refine ⟨rfl, b, H, xs.length, dd, rfl, fun r m => hr (r.n, r.f) (List.mem_map.mpr ⟨r, m, rfl⟩), by omega, by omega, ask, ?_⟩
      refine ⟨rfl, sysH H, xs.length, dd, by show [Sl.val (Dt.lst _), Sl.val dd] = [Sl.val (Dt.lst ((sysH H).map formD)), Sl.val dd]; rw [hset], hr, by have := good.s4; omega, by omega, ask, ne_fault ⟨false, rfl, ite_f rfl ?_⟩⟩
      refine ⟨dd, rfl, shw, ?_⟩
      generalize (pyW dd).shown = z
      refine ⟨false, by simp, ite_f rfl ?_⟩
      exact h1 _ ⟨_, _, _, _, _, rfl⟩
    · obtain ⟨s4, s5, s6, s7, s8, rfl⟩ := hI
      exact hq
  by_cases hn : S = []
  · refine dEq_int true (by simp [ht]) ⟨_, rfl, ite_t rfl ⟨Nat.zero_le _, sys_nil (S := S) ⟨_, rfl, ite_f (by simp [hn]) ?_⟩⟩⟩
    obtain ⟨S', hset, good⟩ : ∃ S', S.map formD = S'.map formD ∧ Sys S' xs.length := ⟨S, rfl, by omega, by omega, fun p m => (fok p m).1, fun p m => (fok p m).2.1, fun p m => Nat.lt_of_lt_of_le (fok p m).2.2 (by decide)⟩
    refine ⟨one, by show (xs.map Dt.int).length + 1 ≤ sizeLine; rw [List.length_map]; exact k1000 (by omega), _, rfl, by show 5 ≤ sizeLine; decide, rfl, 5, rfl, by decide, by decide, fun r r0 r1 => ?_⟩
    obtain ⟨o, ho, oa⟩ := pick5 r0 r1
    refine ⟨o, ho, by show 5 ≤ sizeLine; decide, fun a2 => ?_⟩
    have as5 : ∀ d, d ∈ [Dt.lst (xs.map .int), .tup (xs.map .int), .lst (xs.map .int ++ [.int 0]), .lst (Dl.cutD (xs.map .int) (some 1) none), o] → AskS d := five xb lx oa
    by_cases hx0 : xs = []
    · refine ⟨Nat.zero_le _, dEq_iL (x := xs) (y := []) false (by simp [hx0]) ⟨_, rfl, ite_f rfl ?_⟩⟩
      refine for_inv (fun i δ => ∃ (s4 s5 s6 s7 s8 : Sl), δ = [.src, .val _, .val _, .val _, s4, s5, s6, s7, s8]) ⟨_, _, _, _, _, rfl⟩ (fun i dd δ N hi hI h1 => ?_) (fun δ hI => ?_)
      · obtain ⟨s4, s5, s6, s7, s8, rfl⟩ := hI
        obtain ⟨ask, shw⟩ := as5 dd (List.mem_of_getElem? hi)
        refine ⟨dd, rfl, shw, ?_⟩
        refine ⟨rfl, S', by show [Sl.src, Sl.val (Dt.lst _)] = [Sl.src, Sl.val (Dt.lst (S'.map formD))]; rw [hset], by have := good.s4; omega, fun b H hH => ?_⟩
        subst hH
        have hl : H.length ≤ 4 := by have := good.s4; unfold sysH at this; rw [List.length_map] at this; exact this
        have hr : ∀ p, p ∈ sysH H → p.2.length = xs.length ∧ ∀ a, a ∈ p.2 → a.natAbs < 2 ^ 10 := fun p m => ⟨good.fl p m, good.fb p m⟩
        refine ⟨rfl, b, H, xs.length, dd, rfl, fun r m => hr (r.n, r.f) (List.mem_map.mpr ⟨r, m, rfl⟩), by omega, by omega, ask, ?_⟩
        refine ⟨rfl, sysH H, xs.length, dd, by show [Sl.val (Dt.lst _), Sl.val dd] = [Sl.val (Dt.lst ((sysH H).map formD)), Sl.val dd]; rw [hset], hr, by have := good.s4; omega, by omega, ask, ne_fault ⟨false, rfl, ite_f rfl ?_⟩⟩
        refine ⟨dd, rfl, shw, ?_⟩
        generalize (pyW dd).shown = z
        refine ⟨false, by simp, ite_f rfl ?_⟩
        exact h1 _ ⟨_, _, _, _, _, rfl⟩
      · obtain ⟨s4, s5, s6, s7, s8, rfl⟩ := hI
        exact hq
    refine ⟨Nat.zero_le _, dEq_iL (x := xs) (y := []) true (by simp [hx0]) ⟨_, rfl, ite_t rfl ?_⟩⟩
    have x0 : 0 < xs.length := List.length_pos_iff.mpr hx0
    have xl2 : ((xs.map Dt.int).length : Int) = (xs.length : Int) := by rw [List.length_map]
    refine ⟨rfl, ((xs.map Dt.int).length : Int), rfl, by rw [xl2]; omega, by rw [xl2]; exact Int.lt_trans (by omega : (xs.length : Int) < 1000) (by decide), fun j j0 j1 => ?_⟩
    rw [xl2] at j1
    obtain ⟨j, rfl⟩ : ∃ k : Nat, j = (k : Int) := ⟨j.toNat, by omega⟩
    have jx : j < xs.length := by omega
    have atX : atI (xs.map Dt.int) (j : Int) = some (.int xs[j]) := atI_map (f := Dt.int) (atI_nat (List.getElem?_eq_getElem jx))
    refine ⟨_, rfl, ⟨by decide, by decide, by decide⟩, _, rfl, _, atX, by show 6 ≤ sizeLine; decide, ?_⟩
    have six : ∀ y, y ∈ [Dt.bl true, .non, .int (-1), .int (-(10 ^ 30)), .str "1", .int (xs[j] + 1)] → ItemOk y := items6 (xb _ (List.getElem_mem ..))
    refine for_inv (fun i δ => ∃ (L : List Dt) (s4 s6 s7 s8 : Sl), δ = [.src, .val (.lst (xs.map .int)), .val _, .own a2 (.l L), s4, .val (.int (j : Int)), s6, s7, s8] ∧ L.length = 5 + 2 * i ∧ ∀ d, d ∈ L → AskS d) ⟨_, _, _, _, _, rfl, rfl, as5⟩ (fun i dd δ N hi hI h1 => ?_) (fun δ hI => ?_)
    · obtain ⟨L, s4, s6, s7, s8, rfl, hL, aL⟩ := hI
      have io := six dd (List.mem_of_getElem? hi)
      have i6 : i < 6 := (List.getElem?_eq_some_iff.mp hi).1
      have c1 := cut_len (xs.map Dt.int) none (some (j : Int))
      have c2 := cut_len (xs.map Dt.int) (some ((j : Int) + 1)) none
      rw [List.length_map] at c1 c2
      have all : ∀ y, y ∈ Dl.cutD (xs.map Dt.int) none (some (j : Int)) ++ [dd] ++ Dl.cutD (xs.map Dt.int) (some ((j : Int) + 1)) none → ItemOk y := fun y m => by
        rcases List.mem_append.mp m with m | m
        · rcases List.mem_append.mp m with m | m
          · exact item_xs xb y (cut_mem m)
          · have : y = dd := by simpa using m
            rw [this]
            exact io
        · exact item_xs xb y (cut_mem m)
      have l1 : (Dl.cutD (xs.map Dt.int) none (some (j : Int)) ++ [dd]).length ≤ 4 := by
        rw [List.length_append]
        show _ + 1 ≤ 4
        omega
      have l2 : (Dl.cutD (xs.map Dt.int) none (some (j : Int)) ++ [dd] ++ Dl.cutD (xs.map Dt.int) (some ((j : Int) + 1)) none).length ≤ 7 := by
        rw [List.length_append]
        omega
      have g1 : AskS (.lst (Dl.cutD (xs.map Dt.int) none (some (j : Int)) ++ [dd] ++ Dl.cutD (xs.map Dt.int) (some ((j : Int) + 1)) none)) := askS_mk (b := true) all (by omega)
      have g2 : AskS (.tup (Dl.cutD (xs.map Dt.int) none (some (j : Int)) ++ [dd] ++ Dl.cutD (xs.map Dt.int) (some ((j : Int) + 1)) none ++ [dd])) := askS_mk (b := false) (fun y m => by
        rcases List.mem_append.mp m with m | m
        · exact all y m
        · have : y = dd := by simpa using m
          rw [this]
          exact io) (by rw [List.length_append]; show _ + 1 ≤ 8; omega)
      refine ⟨_, rfl, one, kle (by show (Dl.cutD (xs.map Dt.int) none (some (j : Int))).length + 1 < 1000; omega), _, rfl, kle (by omega), k1000' (by omega), ?_⟩
      refine ⟨_, rfl, one, kle (by show (Dl.cutD (xs.map Dt.int) none (some (j : Int))).length + 1 < 1000; omega), _, rfl, kle (by omega), one, kle (by show _ + 1 < 1000; omega), k1000' (by rw [List.length_append]; show L.length + 1 < 999; omega), ?_⟩
      refine h1 _ ⟨_, _, _, _, _, rfl, by rw [List.length_append, List.length_append, hL]; show 5 + 2 * i + 1 + 1 = 5 + 2 * (i + 1); omega, fun d m => ?_⟩
      rcases List.mem_append.mp m with m | m
      · rcases List.mem_append.mp m with m | m
        · exact aL d m
        · have := List.mem_singleton.mp m
          rw [this]
          exact g1
      · have := List.mem_singleton.mp m
        rw [this]
        exact g2
    obtain ⟨L, s4, s6, s7, s8, rfl, hL, aL⟩ := hI
    refine for_inv (fun i δ => ∃ (s4 s5 s6 s7 s8 : Sl), δ = [.src, .val _, .val _, .val _, s4, s5, s6, s7, s8]) ⟨_, _, _, _, _, rfl⟩ (fun i dd δ N hi hI h1 => ?_) (fun δ hI => ?_)
    · obtain ⟨s4, s5, s6, s7, s8, rfl⟩ := hI
      obtain ⟨ask, shw⟩ := aL dd (List.mem_of_getElem? hi)
      refine ⟨dd, rfl, shw, ?_⟩
      refine ⟨rfl, S', by show [Sl.src, Sl.val (Dt.lst _)] = [Sl.src, Sl.val (Dt.lst (S'.map formD))]; rw [hset], by have := good.s4; omega, fun b H hH => ?_⟩
      subst hH
      have hl : H.length ≤ 4 := by have := good.s4; unfold sysH at this; rw [List.length_map] at this; exact this
      have hr : ∀ p, p ∈ sysH H → p.2.length = xs.length ∧ ∀ a, a ∈ p.2 → a.natAbs < 2 ^ 10 := fun p m => ⟨good.fl p m, good.fb p m⟩
      refine ⟨rfl, b, H, xs.length, dd, rfl, fun r m => hr (r.n, r.f) (List.mem_map.mpr ⟨r, m, rfl⟩), by omega, by omega, ask, ?_⟩
      refine ⟨rfl, sysH H, xs.length, dd, by show [Sl.val (Dt.lst _), Sl.val dd] = [Sl.val (Dt.lst ((sysH H).map formD)), Sl.val dd]; rw [hset], hr, by have := good.s4; omega, by omega, ask, ne_fault ⟨false, rfl, ite_f rfl ?_⟩⟩
      refine ⟨dd, rfl, shw, ?_⟩
      generalize (pyW dd).shown = z
      refine ⟨false, by simp, ite_f rfl ?_⟩
      exact h1 _ ⟨_, _, _, _, _, rfl⟩
    · obtain ⟨s4, s5, s6, s7, s8, rfl⟩ := hI
      exact hq
  · refine dEq_int true (by simp [ht]) ⟨_, rfl, ite_t rfl ⟨Nat.zero_le _, sys_nil (S := S) ⟨_, rfl, ite_t (by simp [hn]) ?_⟩⟩⟩
    have s0 : 0 < S.length := List.length_pos_iff.mpr hn
    have big : (S.length : Int) < 2 ^ 200 := Int.lt_trans (by omega : (S.length : Int) < 1000) (by decide)
    refine ⟨rfl, ((S.map formD).length : Int), rfl, by rw [el]; omega, by rw [el]; exact big, fun q q0 q1 => ⟨rfl, ?_⟩⟩
    rw [el] at q1
    obtain ⟨k, rfl⟩ : ∃ k : Nat, q = (k : Int) := ⟨q.toNat, by omega⟩
    have kS : k < S.length := by omega
    have atS : atI (S.map formD) (k : Int) = some (formD S[k]) := atI_map (f := formD) (atI_nat (List.getElem?_eq_getElem kS))
    refine ⟨_, _, rfl, atS, _, atI_nat (j := 0) rfl, _, rfl, ⟨by decide, by decide, by decide⟩, by show 3 ≤ sizeLine; decide, rfl, 3, rfl, by decide, by decide, fun u u0 u1 => ?_⟩
    obtain ⟨w, hw, wb⟩ : ∃ w : Int, atI [Dt.int 1, Dt.int (-1), Dt.int (10 ^ 30)] u = some (Dt.int w) ∧ w.natAbs < 2 ^ 110 := by
      have : u = 0 ∨ u = 1 ∨ u = 2 := by omega
      rcases this with rfl | rfl | rfl
      · exact ⟨1, rfl, by decide⟩
      · exact ⟨-1, rfl, by decide⟩
      · exact ⟨10 ^ 30, rfl, by decide⟩
    refine ⟨_, hw, _, _, rfl, atS, _, atI_nat (j := 1) rfl, two, k, ixN_nat (by rw [List.length_map]; exact kS), ?_⟩
    obtain ⟨S', hset, good⟩ : ∃ S', (S.map formD).set k (.tup [.int (S[k].1 + w), tI S[k].2]) = S'.map formD ∧ Sys S' xs.length := by
      have mk : S[k] ∈ S := List.getElem_mem ..
      have all : ∀ p, p ∈ S.set k (S[k].1 + w, S[k].2) → p.2.length = xs.length ∧ (∀ x, x ∈ p.2 → x.natAbs < 2 ^ 10) ∧ p.1.natAbs < 2 ^ 119 := fun p m => by
        rcases mem_set m with m | rfl
        · obtain ⟨h1, h2, h3⟩ := fok p m
          exact ⟨h1, h2, Nat.lt_of_lt_of_le h3 (by decide)⟩
        · obtain ⟨h1, h2, h3⟩ := fok _ mk
          refine ⟨h1, h2, ?_⟩
          have kk : (2 : Nat) ^ 110 + 2 ^ 110 < 2 ^ 119 := by decide
          show (S[k].1 + w).natAbs < 2 ^ 119
          omega
      exact ⟨S.set k (S[k].1 + w, S[k].2), by rw [List.map_set]; rfl, by rw [List.length_set]; omega, by omega, fun p m => (all p m).1, fun p m => (all p m).2.1, fun p m => (all p m).2.2⟩
    refine ⟨one, by show (xs.map Dt.int).length + 1 ≤ sizeLine; rw [List.length_map]; exact k1000 (by omega), _, rfl, by show 5 ≤ sizeLine; decide, rfl, 5, rfl, by decide, by decide, fun r r0 r1 => ?_⟩
    obtain ⟨o, ho, oa⟩ := pick5 r0 r1
    refine ⟨o, ho, by show 5 ≤ sizeLine; decide, fun a2 => ?_⟩
    have as5 : ∀ d, d ∈ [Dt.lst (xs.map .int), .tup (xs.map .int), .lst (xs.map .int ++ [.int 0]), .lst (Dl.cutD (xs.map .int) (some 1) none), o] → AskS d := five xb lx oa
    by_cases hx0 : xs = []
    · refine ⟨Nat.zero_le _, dEq_iL (x := xs) (y := []) false (by simp [hx0]) ⟨_, rfl, ite_f rfl ?_⟩⟩
      refine for_inv (fun i δ => ∃ (s4 s5 s6 s7 s8 : Sl), δ = [.src, .val _, .val _, .val _, s4, s5, s6, s7, s8]) ⟨_, _, _, _, _, rfl⟩ (fun i dd δ N hi hI h1 => ?_) (fun δ hI => ?_)
      · obtain ⟨s4, s5, s6, s7, s8, rfl⟩ := hI
        obtain ⟨ask, shw⟩ := as5 dd (List.mem_of_getElem? hi)
        refine ⟨dd, rfl, shw, ?_⟩
        refine ⟨rfl, S', by show [Sl.src, Sl.val (Dt.lst _)] = [Sl.src, Sl.val (Dt.lst (S'.map formD))]; rw [hset], by have := good.s4; omega, fun b H hH => ?_⟩
        subst hH
        have hl : H.length ≤ 4 := by have := good.s4; unfold sysH at this; rw [List.length_map] at this; exact this
        have hr : ∀ p, p ∈ sysH H → p.2.length = xs.length ∧ ∀ a, a ∈ p.2 → a.natAbs < 2 ^ 10 := fun p m => ⟨good.fl p m, good.fb p m⟩
        refine ⟨rfl, b, H, xs.length, dd, rfl, fun r m => hr (r.n, r.f) (List.mem_map.mpr ⟨r, m, rfl⟩), by omega, by omega, ask, ?_⟩
        refine ⟨rfl, sysH H, xs.length, dd, by show [Sl.val (Dt.lst _), Sl.val dd] = [Sl.val (Dt.lst ((sysH H).map formD)), Sl.val dd]; rw [hset], hr, by have := good.s4; omega, by omega, ask, ne_fault ⟨false, rfl, ite_f rfl ?_⟩⟩
        refine ⟨dd, rfl, shw, ?_⟩
        generalize (pyW dd).shown = z
        refine ⟨false, by simp, ite_f rfl ?_⟩
        exact h1 _ ⟨_, _, _, _, _, rfl⟩
      · obtain ⟨s4, s5, s6, s7, s8, rfl⟩ := hI
        exact hq
    refine ⟨Nat.zero_le _, dEq_iL (x := xs) (y := []) true (by simp [hx0]) ⟨_, rfl, ite_t rfl ?_⟩⟩
    have x0 : 0 < xs.length := List.length_pos_iff.mpr hx0
    have xl2 : ((xs.map Dt.int).length : Int) = (xs.length : Int) := by rw [List.length_map]
    refine ⟨rfl, ((xs.map Dt.int).length : Int), rfl, by rw [xl2]; omega, by rw [xl2]; exact Int.lt_trans (by omega : (xs.length : Int) < 1000) (by decide), fun j j0 j1 => ?_⟩
    rw [xl2] at j1
    obtain ⟨j, rfl⟩ : ∃ k : Nat, j = (k : Int) := ⟨j.toNat, by omega⟩
    have jx : j < xs.length := by omega
    have atX : atI (xs.map Dt.int) (j : Int) = some (.int xs[j]) := atI_map (f := Dt.int) (atI_nat (List.getElem?_eq_getElem jx))
    refine ⟨_, rfl, ⟨by decide, by decide, by decide⟩, _, rfl, _, atX, by show 6 ≤ sizeLine; decide, ?_⟩
    have six : ∀ y, y ∈ [Dt.bl true, .non, .int (-1), .int (-(10 ^ 30)), .str "1", .int (xs[j] + 1)] → ItemOk y := items6 (xb _ (List.getElem_mem ..))
    refine for_inv (fun i δ => ∃ (L : List Dt) (s4 s6 s7 s8 : Sl), δ = [.src, .val (.lst (xs.map .int)), .val _, .own a2 (.l L), s4, .val (.int (j : Int)), s6, s7, s8] ∧ L.length = 5 + 2 * i ∧ ∀ d, d ∈ L → AskS d) ⟨_, _, _, _, _, rfl, rfl, as5⟩ (fun i dd δ N hi hI h1 => ?_) (fun δ hI => ?_)
    · obtain ⟨L, s4, s6, s7, s8, rfl, hL, aL⟩ := hI
      have io := six dd (List.mem_of_getElem? hi)
      have i6 : i < 6 := (List.getElem?_eq_some_iff.mp hi).1
      have c1 := cut_len (xs.map Dt.int) none (some (j : Int))
      have c2 := cut_len (xs.map Dt.int) (some ((j : Int) + 1)) none
      rw [List.length_map] at c1 c2
      have all : ∀ y, y ∈ Dl.cutD (xs.map Dt.int) none (some (j : Int)) ++ [dd] ++ Dl.cutD (xs.map Dt.int) (some ((j : Int) + 1)) none → ItemOk y := fun y m => by
        rcases List.mem_append.mp m with m | m
        · rcases List.mem_append.mp m with m | m
          · exact item_xs xb y (cut_mem m)
          · have : y = dd := by simpa using m
            rw [this]
            exact io
        · exact item_xs xb y (cut_mem m)
      have l1 : (Dl.cutD (xs.map Dt.int) none (some (j : Int)) ++ [dd]).length ≤ 4 := by
        rw [List.length_append]
        show _ + 1 ≤ 4
        omega
      have l2 : (Dl.cutD (xs.map Dt.int) none (some (j : Int)) ++ [dd] ++ Dl.cutD (xs.map Dt.int) (some ((j : Int) + 1)) none).length ≤ 7 := by
        rw [List.length_append]
        omega
      have g1 : AskS (.lst (Dl.cutD (xs.map Dt.int) none (some (j : Int)) ++ [dd] ++ Dl.cutD (xs.map Dt.int) (some ((j : Int) + 1)) none)) := askS_mk (b := true) all (by omega)
      have g2 : AskS (.tup (Dl.cutD (xs.map Dt.int) none (some (j : Int)) ++ [dd] ++ Dl.cutD (xs.map Dt.int) (some ((j : Int) + 1)) none ++ [dd])) := askS_mk (b := false) (fun y m => by
        rcases List.mem_append.mp m with m | m
        · exact all y m
        · have : y = dd := by simpa using m
          rw [this]
          exact io) (by rw [List.length_append]; show _ + 1 ≤ 8; omega)
      refine ⟨_, rfl, one, kle (by show (Dl.cutD (xs.map Dt.int) none (some (j : Int))).length + 1 < 1000; omega), _, rfl, kle (by omega), k1000' (by omega), ?_⟩
      refine ⟨_, rfl, one, kle (by show (Dl.cutD (xs.map Dt.int) none (some (j : Int))).length + 1 < 1000; omega), _, rfl, kle (by omega), one, kle (by show _ + 1 < 1000; omega), k1000' (by rw [List.length_append]; show L.length + 1 < 999; omega), ?_⟩
      refine h1 _ ⟨_, _, _, _, _, rfl, by rw [List.length_append, List.length_append, hL]; show 5 + 2 * i + 1 + 1 = 5 + 2 * (i + 1); omega, fun d m => ?_⟩
      rcases List.mem_append.mp m with m | m
      · rcases List.mem_append.mp m with m | m
        · exact aL d m
        · have := List.mem_singleton.mp m
          rw [this]
          exact g1
      · have := List.mem_singleton.mp m
        rw [this]
        exact g2
    obtain ⟨L, s4, s6, s7, s8, rfl, hL, aL⟩ := hI
    refine for_inv (fun i δ => ∃ (s4 s5 s6 s7 s8 : Sl), δ = [.src, .val _, .val _, .val _, s4, s5, s6, s7, s8]) ⟨_, _, _, _, _, rfl⟩ (fun i dd δ N hi hI h1 => ?_) (fun δ hI => ?_)
    · obtain ⟨s4, s5, s6, s7, s8, rfl⟩ := hI
      obtain ⟨ask, shw⟩ := aL dd (List.mem_of_getElem? hi)
      refine ⟨dd, rfl, shw, ?_⟩
      refine ⟨rfl, S', by show [Sl.src, Sl.val (Dt.lst _)] = [Sl.src, Sl.val (Dt.lst (S'.map formD))]; rw [hset], by have := good.s4; omega, fun b H hH => ?_⟩
      subst hH
      have hl : H.length ≤ 4 := by have := good.s4; unfold sysH at this; rw [List.length_map] at this; exact this
      have hr : ∀ p, p ∈ sysH H → p.2.length = xs.length ∧ ∀ a, a ∈ p.2 → a.natAbs < 2 ^ 10 := fun p m => ⟨good.fl p m, good.fb p m⟩
      refine ⟨rfl, b, H, xs.length, dd, rfl, fun r m => hr (r.n, r.f) (List.mem_map.mpr ⟨r, m, rfl⟩), by omega, by omega, ask, ?_⟩
      refine ⟨rfl, sysH H, xs.length, dd, by show [Sl.val (Dt.lst _), Sl.val dd] = [Sl.val (Dt.lst ((sysH H).map formD)), Sl.val dd]; rw [hset], hr, by have := good.s4; omega, by omega, ask, ne_fault ⟨false, rfl, ite_f rfl ?_⟩⟩
      refine ⟨dd, rfl, shw, ?_⟩
      generalize (pyW dd).shown = z
      refine ⟨false, by simp, ite_f rfl ?_⟩
      exact h1 _ ⟨_, _, _, _, _, rfl⟩
    · obtain ⟨s4, s5, s6, s7, s8, rfl⟩ := hI
      exact hq
end
end My
set_option maxHeartbeats 4000000
namespace My
open PySem PySem.Spec PyProof.Rows L2 Lcn Sq Dl
open Hm
theorem shW_H {b : Bool} {H : List RowH} {v : Nat} (ok : Sys (sysH H) v) (h : ∀ r, r ∈ H → ShW 2 1212 (rowH r)) : shwW (mkS b (H.map rowH)) = true := by
  refine (shW_mk (n := 2) (w := 1212) (m := 4) (fun d m => ?_) ?_).fin (by decide) (by decide)
  · obtain ⟨r, mr, rfl⟩ := List.mem_map.mp m
    exact h r mr
  · have := ok.s4
    unfold sysH at this
    rw [List.length_map] at this ⊢
    exact this
theorem row_shW {H : List RowH} {v : Nat} (ok : Sys (sysH H) v) : ∀ r, r ∈ H → ShW 2 1212 (rowH r) := fun r m => by
  have ms : (r.n, r.f) ∈ sysH H := List.mem_map.mpr ⟨r, m, rfl⟩
  refine shW_row (Nat.lt_of_lt_of_le (ok.nb _ ms) (by decide)) (fun x mx => Nat.lt_of_lt_of_le (ok.fb _ ms x mx) (by decide)) ?_
  have l : r.f.length = v := ok.fl _ ms
  have := ok.v4
  omega
theorem nrm_form (H : List RowH) : mkS false ((H.map nrm).map rowH) = .tup ((sysH H).map formD) := by
  unfold sysH
  rw [List.map_map, List.map_map]
  rfl
def sp_lawT (K : PySem.W.Frag) (P0 : Addr) : Sp := fun vs H Q _ => ∃ (a : Addr) (ns : List Int), vs = [.ref a] ∧ SqL K H a (ns.map V.int) ∧ H P0 = some (.tbl #[]) ∧ ∀ H', Q (.bl true) H'
theorem sc_law : FnScope ["_law_script", "_law_source_here", "_law_turn", "_law_system", "_law_handed_here", "_law_kept"] ["_law_script"] (defScope s_law) := ⟨rfl, rfl, rfl, by decide +kernel, rfl, by decide +kernel, by decide +kernel⟩
section
variable {P : Program} {w : World} {K : PySem.W.Frag} {mg : Str → Option Value} {base : Heap}
theorem ok_law {P0 : Addr} (GS : GSys base) (D_law : Dn K mg "law" s_law ["_law_script"]) (D__law_source : Dn K mg "_law_source" s__law_source ["_law_script"]) (G__law_source : FnOk P w K mg base CX0 1 D__law_source.f D__law_source.fd ["_law_script"] (spSource K)) (D__law_wide_system : Dn K mg "_law_wide_system" s__law_wide_system ["_law_source_here"]) (G__law_wide_system : FnOk P w K mg base CX0 2 D__law_wide_system.f D__law_wide_system.fd ["_law_source_here"] (dsp K 1 sp_wide)) (D__law_handed : Dn K mg "_law_handed" s__law_handed ["_law_source_here", "_law_system"]) (G__law_handed : FnOk P w K mg base CX0 3 D__law_handed.f D__law_handed.fd ["_law_source_here", "_law_system"] (dsp K 2 sp_handed)) (D_check_system : Dn K mg "check_system" s_check_system ["system"]) (G_check_system : FnOk P w K mg base CX0 3 D_check_system.f D_check_system.fd ["system"] (dsp K 1 sp_check)) (D__law_faults_right : Dn K mg "_law_faults_right" s__law_faults_right ["_law_source_here"]) (G__law_faults_right : Gd.FnG P w K mg base CX0 6 D__law_faults_right.f D__law_faults_right.fd ["_law_source_here"] (dsp K 1 sp_faults)) (D__law_refusals_right : Dn K mg "_law_refusals_right" s__law_refusals_right ["_law_source_here", "_law_system"]) (G__law_refusals_right : Gd.FnG P w K mg base CX0 9 D__law_refusals_right.f D__law_refusals_right.fd ["_law_source_here", "_law_system"] (dsp K 2 (sp_refus P0))) (T : TB mg) : Gd.FnG P w K mg base CX0 10 D_law.f D_law.fd ["_law_script"] (sp_lawT K P0) := by
  refine ok0g D_law.F sc_law (fun vs H Q E h => ?_) (fun cdv Ar outer s H vs Q E hgd hr h => ?_)
  · obtain ⟨a, ns, rfl, _⟩ := h
    rfl
  · obtain ⟨a, ns, rfl, hS, hP, k⟩ := h
    obtain ⟨ts, p, v⟩ := ((dss_cons (ds_for (fun _ => rfl) (di_range1 (fun _ => by rfl) (fun _ => T.range) (da_cons de_int da_nil)) (dg_name (i := 2) (fun _ => pg_name sc_law.nd rfl (by first | exact Or.inl rfl | exact Or.inr rfl))) (dss_cons (ds_set (fun _ p => ps_set (i := 3) sc_law.nd rfl (by first | exact Or.inl rfl | exact Or.inr rfl) p) (de_call (fun _ pa => pe_call G__law_wide_system (hr.mono (by decide)) (by rfl) D__law_wide_system.m D__law_wide_system.F.kp D__law_wide_system.b .nil pass0 pa) (dl_src (fun _ => pv 1) dl_nil)))
  (dss_cons (ds_set (fun _ p => ps_set (i := 4) sc_law.nd rfl (by first | exact Or.inl rfl | exact Or.inr rfl) p) (de_call (fun _ pa => pe_call G__law_handed (hr.mono (by decide)) (by rfl) D__law_handed.m D__law_handed.F.kp D__law_handed.b .nil pass0 pa) (dl_src (fun _ => pv 1) (dl_val (de_var (fun _ => pv 3)) dl_nil))))
  (dss_cons (ds_set (fun _ p => ps_set (i := 5) sc_law.nd rfl (by first | exact Or.inl rfl | exact Or.inr rfl) p) (de_callB (fun _ => cr_reprW GS hgd (ru66 hr)) rc_reprW (fun _ => by rfl) (fun _ => T.repr) (by decide +kernel) (da_cons (de_var (fun _ => pv 4)) da_nil)))
  (dss_cons (ds_if (dt_w (dw_or (dt_cmpC cd_neS (de_callB (fun _ => cr_reprW GS hgd (ru66 hr)) rc_reprW (fun _ => by rfl) (fun _ => T.repr) (by decide +kernel) (da_cons (de_call (fun _ pa => pe_call G_check_system (hr.mono (by decide)) (by rfl) D_check_system.m D_check_system.F.kp D_check_system.b .nil pass0 pa) (dl_val (de_var (fun _ => pv 4)) dl_nil)) da_nil)) (de_callB (fun _ => cr_reprW GS hgd (ru66 hr)) rc_reprW (fun _ => by rfl) (fun _ => T.repr) (by decide +kernel) (da_cons (de_callTy (fun _ => cr_tuple rfl) rc_tuple (fun _ => by rfl) (fun _ => T.tuple_) (by decide +kernel) (da_cons (de_var (fun _ => pv 3)) da_nil)) da_nil)) (nomark _)) (dw_or1 (dt_cmpC cd_neS (de_callB (fun _ => cr_reprW GS hgd (ru66 hr)) rc_reprW (fun _ => by rfl) (fun _ => T.repr) (by decide +kernel) (da_cons (de_var (fun _ => pv 4)) da_nil)) (de_var (fun _ => pv 5)) (nomark _))))) (dss_one (ds_ret de_bl)) dss_nil)
  (dss_one (ds_if (dt_w (dw_or (dt_not (dt_val (de_call (fun _ pa => Gd.pe_callG G__law_refusals_right hgd (hr.mono (by decide)) (by rfl) D__law_refusals_right.m D__law_refusals_right.F.kp D__law_refusals_right.b .nil pass0 pa) (dl_src (fun _ => pv 1) (dl_val (de_var (fun _ => pv 3)) dl_nil))))) (dw_or1 (dt_not (dt_val (de_call (fun _ pa => Gd.pe_callG G__law_faults_right hgd (hr.mono (by decide)) (by rfl) D__law_faults_right.m D__law_faults_right.F.kp D__law_faults_right.b .nil pass0 pa) (dl_src (fun _ => pv 1) dl_nil))))))) (dss_one (ds_ret de_bl)) dss_nil)))))) (fun _ => PassesOwn.never))
  (dss_one (ds_ret de_bl))) : DSs K (fun _ : Unit => (cxOf CX0 P w K mg base ["_law_script", "_law_source_here", "_law_turn", "_law_system", "_law_handed_here", "_law_kept"] "law" (defScope s_law) D_law.f cdv Ar outer s H E).nox) (defBody s_law).tail _)
    refine ⟨_, pss_cons (ps_set (i := 1) sc_law.nd rfl (by first | exact Or.inl rfl | exact Or.inr rfl) (pe_call G__law_source (hr.mono (by decide)) (by rfl) D__law_source.m D__law_source.F.kp D__law_source.b .nil pass0 (pa_cons (pv 0) pa_nil))) (p ()), ?_⟩
    refine ⟨_, rfl, a, ns, rfl, hS, fun p L H' kp _ src => ?_⟩
    refine v _ _ _ H' _ _ rfl (sok_lawT (T := [(P0, lamq)]) (a := a) (n := 4) src (fun t ht => by cases List.mem_singleton.mp ht; exact LamX.TabS.nil (kp _ _ hP))) ?_ (ends_law k)
    refine ⟨by decide, by decide, ?_⟩
    refine for_inv (fun i δ => ∃ (s2 s3 s4 s5 : Sl), δ = [.any, .srt [(P0, lamq)], s2, s3, s4, s5]) ⟨_, _, _, _, rfl⟩ (fun i dd δ N hi hI h1 => ?_) (fun δ hI => ?_)
    · obtain ⟨s2, s3, s4, s5, rfl⟩ := hI
      refine Or.inl ⟨rfl, rfl, fun S v ok => ?_⟩
      refine Or.inl ⟨rfl, S, rfl, by have := ok.s4; omega, fun b H hH => ?_⟩
      subst hH
      have rs := row_shW ok
      have w1 := shW_H (b := b) ok rs
      have w2 : shwW (.tup ((sysH H).map formD)) = true := by
        rw [← nrm_form]
        have ok' : Sys (sysH (H.map nrm)) v := by
          have e : sysH (H.map nrm) = sysH H := by unfold sysH; rw [List.map_map]; rfl
          rw [e]
          exact ok
        exact shW_H (b := false) ok' (row_shW ok')
      have hl : H.length ≤ 4 := by have := ok.s4; unfold sysH at this; rw [List.length_map] at this; exact this
      refine ⟨_, rfl, w1, ?_⟩
      refine ⟨rfl, b, H, v, rfl, fun r m => ok.fl (r.n, r.f) (List.mem_map.mpr ⟨r, m, rfl⟩), by omega, by have := ok.v4; omega, ?_⟩
      rw [nrm_form]
      refine ⟨_, rfl, w2, _, rfl, w2, ?_⟩
      generalize (pyW (.tup ((sysH H).map formD))).shown = z
      refine ⟨false, by simp, ite_f rfl ?_⟩
      refine ⟨_, rfl, w1, ?_⟩
      generalize (pyW (mkS b (H.map rowH))).shown = z2
      refine ⟨false, by simp, ite_f rfl ?_⟩
      refine Or.inr ⟨rfl, sysH H, v, rfl, ok, true, rfl, ite_f rfl ?_⟩
      refine Or.inl ⟨rfl, rfl, true, rfl, ite_f rfl ?_⟩
      exact h1 _ ⟨_, _, _, _, rfl⟩
    obtain ⟨s2, s3, s4, s5, rfl⟩ := hI
    rfl
end
end My
set_option maxHeartbeats 4000000
/-! facts looked at over small pieces of the heap, carried to the whole -/
namespace Hm
open PySem PySem.Spec PyProof.Rows L2 He
def Sub (K1 K2 : PySem.W.Frag) : Prop := ∀ a o, K1.lookup a = some o → K2.lookup a = some o
section
variable {K1 K2 : PySem.W.Frag}
theorem Sub.cls (s : Sub K1 K2) {C : Addr} {cd : ClassData} (h : PySem.W.clsIn K1 C = some cd) : PySem.W.clsIn K2 C = some cd := by
  unfold PySem.W.clsIn at h ⊢
  split at h
  · rename_i c d cd' sl ho
    rw [s _ _ ho]
    exact h
  · cases h
theorem Sub.typ (s : Sub K1 K2) {a : Addr} {t : Value} (h : PySem.W.typeIn K1 (.ref a) = some t) : PySem.W.typeIn K2 (.ref a) = some t := by
  obtain ⟨o, ho, e⟩ := Option.map_eq_some_iff.mp h
  show (K2.lookup a).map _ = _
  rw [s _ _ ho]
  exact congrArg some e
theorem Sub.typeV (s : Sub K1 K2) {v t : Value} (h : PySem.W.typeIn K1 v = some t) : PySem.W.typeIn K2 v = some t := by
  cases v with
  | ref a => exact s.typ h
  | _ => exact h
theorem Sub.ns (s : Sub K1 K2) {N : Addr} {x : Str} {r : Option Value} (h : PySem.W.nsIn K1 N x = some r) : PySem.W.nsIn K2 N x = some r := by
  unfold PySem.W.nsIn at h ⊢
  split at h
  · rename_i c d es n sl ho
    rw [s _ _ ho]
    exact h
  · cases h
theorem Sub.own (s : Sub K1 K2) {x : Str} {v : Value} {r : Option Value} (h : PySem.W.ownIn K1 x v = some r) : PySem.W.ownIn K2 x v = some r := by
  cases v with
  | ref a =>
    unfold PySem.W.ownIn at h ⊢
    dsimp only at h ⊢
    split at h
    · rename_i c d cd sl ho
      rw [s _ _ ho]
      exact s.ns h
    · cases h
  | _ => exact h
theorem Sub.along (s : Sub K1 K2) {x : Str} : ∀ {l : List Value} {r : Option Value}, PySem.W.alongIn K1 x l = some r → PySem.W.alongIn K2 x l = some r
  | [], _, h => h
  | c :: l, r, h => by
    unfold PySem.W.alongIn at h ⊢
    cases e : PySem.W.ownIn K1 x c with
    | none =>
      rw [e] at h
      cases h
    | some q =>
      rw [e] at h
      rw [s.own e]
      cases q with
      | none => exact Sub.along s h
      | some v => exact h
theorem Sub.find (s : Sub K1 K2) {v : Value} {x : Str} {r : Option Value} (h : PySem.W.findIn K1 v x = some r) : PySem.W.findIn K2 v x = some r := by
  cases v with
  | ref a =>
    unfold PySem.W.findIn at h ⊢
    dsimp only at h ⊢
    split at h
    · rename_i c d cd sl ho
      rw [s _ _ ho]
      exact s.along h
    · cases h
  | _ => exact h
theorem Sub.mro (s : Sub K1 K2) {C : Addr} {b : Value} {r : Bool} (h : PySem.W.mroIn K1 C b = some r) : PySem.W.mroIn K2 C b = some r := by
  obtain ⟨cd, hc, e⟩ := Option.bind_eq_some_iff.mp h
  show (PySem.W.clsIn K2 C).bind _ = _
  rw [s.cls hc]
  exact e
theorem Sub.sub (s : Sub K1 K2) {t b : Value} {r : Bool} (h : PySem.W.subIn K1 t b = some r) : PySem.W.subIn K2 t b = some r := by
  cases t with
  | ref C => exact s.mro h
  | _ => exact h
theorem Sub.special (s : Sub K1 K2) {v : Value} {x : Str} {r : Option Value} (h : PySem.W.specialIn K1 v x = some r) : PySem.W.specialIn K2 v x = some r := by
  obtain ⟨t, ht, e⟩ := Option.bind_eq_some_iff.mp h
  show (PySem.W.typeIn K2 v).bind _ = _
  rw [s.typeV ht]
  exact s.find e
theorem Sub.keep (s : Sub K1 K2) {v : Value} (h : PySem.W.keepIn K1 v = true) : PySem.W.keepIn K2 v = true := by
  cases v with
  | ref a =>
    unfold PySem.W.keepIn at h ⊢
    dsimp only at h ⊢
    split at h
    · rename_i ho
      rw [s _ _ ho]
    · rename_i ho
      rw [s _ _ ho]
      have e : PySem.W.specialIn K1 (.ref a) "__call__" = some (some (.builtin "type.__call__")) := eq_of_beq h
      rw [s.special e]
      rfl
    · cases h
  | _ => exact h
theorem Sub.hasDict (s : Sub K1 K2) {C : Addr} (h : PySem.W.hasDictIn K1 C = true) : PySem.W.hasDictIn K2 C = true := by
  obtain ⟨cd, hc, e⟩ := PySem.W.any_some h
  unfold PySem.W.hasDictIn
  rw [s.cls hc]
  exact e
theorem Sub.code (s : Sub K1 K2) {cd : Value} {q : Str} (h : PySem.W.codeIn K1 cd q = true) : PySem.W.codeIn K2 cd q = true := by
  cases cd with
  | ref c =>
    unfold PySem.W.codeIn at h ⊢
    dsimp only at h ⊢
    split at h
    · rename_i ho
      rw [s _ _ ho]
      exact h
    · cases h
  | _ => exact h
theorem Sub.nsOk (s : Sub K1 K2) {N : Addr} (h : PySem.W.nsOkIn K1 N = true) : PySem.W.nsOkIn K2 N = true := by
  unfold PySem.W.nsOkIn at h ⊢
  split at h
  · rename_i ho
    rw [s _ _ ho]
    exact h
  · cases h
theorem Sub.tail (s : Sub K1 K2) {bm : List Value} : ∀ {l : List Value}, PySem.W.tailIn K1 bm l = true → PySem.W.tailIn K2 bm l = true
  | [], h => h
  | v :: r, h => by
    unfold PySem.W.tailIn at h ⊢
    rcases Bool.or_eq_true_iff.mp h with h | h
    · rw [h, Bool.true_or]
    · refine Bool.or_eq_true_iff.mpr (.inr ?_)
      cases v with
      | ref A =>
        dsimp only at h ⊢
        split at h
        · rename_i ho
          rw [s _ _ ho]
          obtain ⟨h1, h3⟩ := ba h
          obtain ⟨h1, h2⟩ := ba h1
          have e := eq_of_beq h2
          show (PySem.W.nsOkIn K2 _ && PySem.W.nsIn K2 _ "__init__" == some none && PySem.W.tailIn K2 bm r) = true
          rw [s.nsOk h1, s.ns e, Sub.tail s h3]
          rfl
        · cases h
      | _ => cases h
theorem Sub.exc (s : Sub K1 K2) {C : Addr} {bm : List Value} {n : String} (h : PySem.W.excIn K1 C bm n = true) : PySem.W.excIn K2 C bm n = true := by
  unfold PySem.W.excIn at h ⊢
  split at h
  · rename_i dd cd sl ho
    rw [s _ _ ho]
    split at h
    · rename_i hm hs
      simp only [hm, hs]
      obtain ⟨h, h6⟩ := ba h
      obtain ⟨h, h5⟩ := ba h
      obtain ⟨h, h4⟩ := ba h
      rw [h, s.tail h4, s.nsOk h5, s.ns (eq_of_beq h6)]
      rfl
    · cases h
  · cases h
theorem Sub.takes (s : Sub K1 K2) {a : Value} {r : Bool} (h : PySem.W.takesIn K1 a = some r) : PySem.W.takesIn K2 a = some r := by
  unfold PySem.W.takesIn at h ⊢
  split at h
  · rename_i q
    rw [s.special q]
    exact h
  · rename_i q
    rw [s.special q]
    obtain ⟨y, hy, e⟩ := Option.map_eq_some_iff.mp h
    show (PySem.W.specialIn K2 a "__delete__").map _ = _
    rw [s.special hy]
    exact congrArg some e
  · cases h
theorem Sub.xc (s : Sub K1 K2) {C : Addr} {bm : List Value} {fs : List Str} (x : XC K1 C bm fs) : XC K2 C bm fs := by
  obtain ⟨⟨⟨nm, q, N, bs, bm', sn, sub, ab, col, dd, k0, k1, k2, k3, k5, hC, hbm⟩, a1, a2, a3, a4⟩, ⟨b1, b2, b3, b4, b5, b6, b7, b8⟩, ⟨cd, hc, hm⟩, no⟩ := x
  exact ⟨⟨⟨nm, q, N, bs, bm', sn, sub, ab, col, dd, k0, k1, k2, k3, k5, s _ _ hC, hbm⟩, s.find a1, s.sub a2, s.typ a3, s.keep a4⟩, ⟨s.find b1, s.find b2, s.sub b3, s.hasDict b4, s.find b5, s.special b6, s.takes b7, s.mro b8⟩, ⟨cd, s.cls hc, hm⟩, fun f hf => s.find (no f hf)⟩
theorem Sub.fund (s : Sub K1 K2) {x qual : Str} {params : Arguments} {body : List Stmt} {scope : Scope} {f : Addr} {fd : FuncData} (F : FunD K1 x qual params body scope [] [] f fd) : FunD K2 x qual params body scope [] [] f fd := by
  obtain ⟨⟨oc, od, dV, kV, doc, pm, an, cdv, ct, osl, rfl, lk, hcd, hD, hK⟩, kp⟩ := F
  refine ⟨⟨oc, od, dV, kV, doc, pm, an, cdv, ct, osl, rfl, s _ _ lk, s.code hcd, ?_, .inl rfl⟩, s.keep kp⟩
  rcases hD with ⟨_, e⟩ | ⟨e, _⟩
  · exact .inl ⟨rfl, e⟩
  · exact absurd rfl e
end
/-! ### pieces of the heap -/
theorem frG_mem {g : Addr → Option Obj} {a : Addr} {o : Obj} : ∀ {as : List Addr}, a ∈ as → g a = some o → (frG g as).lookup a = some o
  | [], h, _ => nomatch h
  | b :: r, h, e => by
    unfold frG
    rw [List.filterMap_cons]
    by_cases hb : a = b
    · subst hb
      rw [e]
      show (List.lookup a ((a, o) :: _)) = some o
      simp [List.lookup]
    · have hr : a ∈ r := by
        rcases List.mem_cons.mp h with q | q
        · exact absurd q hb
        · exact q
      have ih := frG_mem hr e
      unfold frG at ih
      cases hg : g b with
      | none => exact ih
      | some ob =>
        show (List.lookup a ((b, ob) :: _)) = some o
        have ne : (a == b) = false := by simpa using hb
        simp only [List.lookup, ne]
        exact ih
theorem frG_keys {g : Addr → Option Obj} {a : Addr} {o : Obj} : ∀ {as : List Addr}, (frG g as).lookup a = some o → a ∈ as
  | [], h => by cases h
  | b :: r, h => by
    by_cases hb : a = b
    · rw [hb]
      exact List.mem_cons_self ..
    · refine List.mem_cons_of_mem _ (frG_keys (g := g) (o := o) ?_)
      unfold frG at h ⊢
      rw [List.filterMap_cons] at h
      cases hg : g b with
      | none =>
        rw [hg] at h
        exact h
      | some ob =>
        rw [hg] at h
        have ne : (a == b) = false := by simpa using hb
        have h2 : List.lookup a ((b, ob) :: r.filterMap fun a => (g a).map fun o => (a, o)) = some o := h
        simp only [List.lookup, ne] at h2
        exact h2
theorem sub_of {g : Addr → Option Obj} {as bs : List Addr} (h : ∀ a ∈ as, a ∈ bs) : Sub (frG g as) (frG g bs) := fun a o e => frG_mem (h a (frG_keys e)) (frG_at as e)
def growFrom (g : Addr → Option Obj) : Nat → List Addr → List Addr
  | 0, as => as
  | n + 1, as => growFrom g n (growD g as)
def gaG (g : Addr → Option Obj) (x : Str) : Addr := ga (frG g [mainGlobals]) x
/-- one name of the module: what is looked at, n steps from its object -/
structure Itm where
  x : Str
  n : Nat
  ck : (Str → Addr) → PySem.W.Frag → Addr → Bool
def Itm.as (g : Addr → Option Obj) (i : Itm) : List Addr := growFrom g i.n [gaG g i.x]
def Itm.ok (g : Addr → Option Obj) (i : Itm) : Bool := eqO (PySem.W.nsIn (frG g [mainGlobals]) mainGlobals i.x) (some (some (.ref (gaG g i.x)))) && i.ck (gaG g) (frG g (i.as g)) (gaG g i.x)
/-- one def, or one __init__ -/
structure Fn where
  x : Str
  m : Option Str
  name : Str
  qual : Str
  params : Arguments
  body : List Stmt
  scope : Scope
def Fn.adr (g : Addr → Option Obj) (d : Fn) : Addr := match d.m with
  | none => gaG g d.x
  | some m => ma (frG g (growFrom g 2 [gaG g d.x])) (gaG g d.x) m
def Fn.as (g : Addr → Option Obj) (d : Fn) : List Addr := growFrom g 1 [d.adr g]
def Fn.as2 (g : Addr → Option Obj) (d : Fn) : List Addr := match d.m with
  | none => []
  | some _ => growFrom g 2 [gaG g d.x]
def fnB (K : PySem.W.Frag) (a : Addr) (q : Str) : Bool := PySem.W.keepIn K (.ref a) && (match K.lookup a with
  | some ⟨_, _, .func fd, _⟩ => PySem.W.codeIn K fd.code q && dflB K fd.defaults []
  | _ => false)
def Fn.ok (g : Addr → Option Obj) (d : Fn) : Bool := fnB (frG g (d.as g)) (d.adr g) d.qual && (match d.m with
  | none => true
  | some m => eqO (PySem.W.findIn (frG g (growFrom g 2 [gaG g d.x])) (.ref (gaG g d.x)) m) (some (some (.ref (d.adr g)))))
def Fn.w (g : Addr → Option Obj) (d : Fn) : FnW := match g (d.adr g) with
  | some ⟨_, _, .func fd, _⟩ => some (fd.name, fd.qualname, fd.params, fd.body, fd.scope, fd.globals, fd.closure, fd.builtins)
  | _ => none
def Fn.val (d : Fn) : FnW := some (d.name, d.qual, d.params, .stmts d.body, d.scope, mainGlobals, [], builtinsNs)
theorem Fn.fund {g : Addr → Option Obj} {d : Fn} (e : d.w g = d.val) (c : d.ok g = true) : ∃ fd, FunD (frG g (d.as g)) d.name d.qual d.params d.body d.scope [] [] (d.adr g) fd := by
  obtain ⟨kp, c2⟩ := ba (show (PySem.W.keepIn (frG g (d.as g)) (.ref (d.adr g)) && _) = true from (ba c).1)
  cases q : (frG g (d.as g)).lookup (d.adr g) with
  | none =>
    rw [q] at c2
    cases c2
  | some o =>
    have hg := frG_at _ q
    unfold Fn.w at e
    rw [hg] at e
    obtain ⟨oc, od, dt, osl⟩ := o
    rw [q] at c2
    cases dt with
    | func fd =>
      obtain ⟨n1, n2, n3, n4, n5, n6, n7, n8, n9, n10, n11, n12, n13, n14, n15⟩ := fd
      have e2 : (some (n1, n2, n3, n4, n5, n6, n7, n15) : FnW) = some (d.name, d.qual, d.params, .stmts d.body, d.scope, mainGlobals, [], builtinsNs) := e
      simp only [Option.some.injEq, Prod.mk.injEq] at e2
      obtain ⟨h1, h2, h3, h4, h5, h6, h7, h8⟩ := e2
      subst h1 h2 h3 h4 h5 h6 h7 h8
      obtain ⟨k1, k3⟩ := ba (show (PySem.W.codeIn (frG g (d.as g)) n13 d.qual && dflB (frG g (d.as g)) n8 []) = true from c2)
      exact ⟨_, ⟨oc, od, n8, n9, n10, n11, n12, n13, n14, osl, rfl, q, k1, dflB_ok k3, .inl rfl⟩, kp⟩
    | _ => cases c2
/-! ### the Hook -/
def obsS (its : List Itm) (fns : List Fn) (frees : List Str) (ex : (Str → Addr) → Bool) (g : Addr → Option Obj) : AlD :=
  (its.all (Itm.ok g) && (fns.all (Fn.ok g) && (frees.all (fun x => eqO (PySem.W.nsIn (frG g [mainGlobals]) mainGlobals x) (some none)) && ex (gaG g))), fns.map (Fn.w g))
def wholeK (its : List Itm) (fns : List Fn) (g : Addr → Option Obj) : PySem.W.Frag := frG g (mainGlobals :: (its.flatMap (Itm.as g) ++ (fns.flatMap (Fn.as g) ++ fns.flatMap (Fn.as2 g))))
/-- what the end leans on -/
structure SaysS (its : List Itm) (fns : List Fn) (frees : List Str) (ex : (Str → Addr) → Bool) (K : PySem.W.Frag) : Prop where
  glo : ∀ (j : Nat) (i : Itm), its[j]? = some i → PySem.W.nsIn K mainGlobals i.x = some (some (.ref (ga K i.x)))
  it : ∃ γ : Str → Addr, (∀ (j : Nat) (i : Itm), its[j]? = some i → γ i.x = ga K i.x ∧ ∃ K1, Sub K1 K ∧ i.ck γ K1 (ga K i.x) = true) ∧ ex γ = true
  fn : ∀ (j : Nat) (d : Fn), fns[j]? = some d → (∃ (k : Nat) (i : Itm), its[k]? = some i ∧ i.x = d.x) → ∃ (a : Addr) (fd : FuncData), FunD K d.name d.qual d.params d.body d.scope [] [] a fd ∧ (d.m = none → a = ga K d.x) ∧ ∀ m, d.m = some m → PySem.W.findIn K (.ref (ga K d.x)) m = some (some (.ref a))
  free : ∀ x ∈ frees, PySem.W.nsIn K mainGlobals x = some none
theorem says_of {its : List Itm} {fns : List Fn} {frees : List Str} {ex : (Str → Addr) → Bool} {g : Addr → Option Obj} (e : obsS its fns frees ex g = (true, fns.map Fn.val)) : SaysS its fns frees ex (wholeK its fns g) := by
  have e1 : (its.all (Itm.ok g) && (fns.all (Fn.ok g) && (frees.all (fun x => eqO (PySem.W.nsIn (frG g [mainGlobals]) mainGlobals x) (some none)) && ex (gaG g)))) = true := congrArg (fun z : AlD => z.1) e
  have e2 : fns.map (Fn.w g) = fns.map Fn.val := congrArg (fun z : AlD => z.2) e
  obtain ⟨c1, c2⟩ := ba e1
  obtain ⟨c2, c3⟩ := ba c2
  obtain ⟨c3, c4⟩ := ba c3
  have s0 : Sub (frG g [mainGlobals]) (wholeK its fns g) := sub_of fun a h => by
    have : a = mainGlobals := by simpa using h
    rw [this]
    exact List.mem_cons_self ..
  have gl : ∀ (j : Nat) (i : Itm), its[j]? = some i → PySem.W.nsIn (wholeK its fns g) mainGlobals i.x = some (some (.ref (gaG g i.x))) := fun j i h =>
    s0.ns (eqO_ok (ba (List.all_eq_true.mp c1 i (List.mem_of_getElem? h))).1)
  have ge : ∀ (j : Nat) (i : Itm), its[j]? = some i → gaG g i.x = ga (wholeK its fns g) i.x := fun j i h => by
    unfold ga
    rw [gl j i h]
  refine ⟨fun j i h => by rw [← ge j i h]; exact gl j i h, ⟨gaG g, fun j i h => ⟨ge j i h, frG g (i.as g), ?_, ?_⟩, c4⟩, fun j d h hx => ?_, fun x hx => s0.ns (eqO_ok (List.all_eq_true.mp c3 x hx))⟩
  · exact sub_of fun a ha => List.mem_cons_of_mem _ (List.mem_append_left _ (List.mem_flatMap.mpr ⟨i, List.mem_of_getElem? h, ha⟩))
  · rw [← ge j i h]
    exact (ba (List.all_eq_true.mp c1 i (List.mem_of_getElem? h))).2
  · have e3 : (fns.map (Fn.w g))[j]? = (fns.map Fn.val)[j]? := by rw [e2]
    rw [List.getElem?_map, List.getElem?_map, h] at e3
    obtain ⟨fd, F⟩ := Fn.fund (Option.some.inj e3) (List.all_eq_true.mp c2 d (List.mem_of_getElem? h))
    have sd : Sub (frG g (d.as g)) (wholeK its fns g) := sub_of fun a ha => List.mem_cons_of_mem _ (List.mem_append_right _ (List.mem_append_left _ (List.mem_flatMap.mpr ⟨d, List.mem_of_getElem? h, ha⟩)))
    obtain ⟨k, i, hk, hix⟩ := hx
    have gx : gaG g d.x = ga (wholeK its fns g) d.x := by
      rw [← hix]
      exact ge k i hk
    refine ⟨d.adr g, fd, sd.fund F, fun hm => ?_, fun m hm => ?_⟩
    · unfold Fn.adr
      rw [hm, ← gx]
    · have sm : Sub (frG g (growFrom g 2 [gaG g d.x])) (wholeK its fns g) := sub_of fun a ha => List.mem_cons_of_mem _ (List.mem_append_right _ (List.mem_append_right _ (List.mem_flatMap.mpr ⟨d, List.mem_of_getElem? h, by
        unfold Fn.as2
        rw [hm]
        exact ha⟩)))
      have q := (ba (List.all_eq_true.mp c2 d (List.mem_of_getElem? h))).2
      rw [hm] at q
      have z := sm.find (eqO_ok q)
      rw [gx] at z
      exact z
def hookS (its : List Itm) (fns : List Fn) (frees : List Str) (ex : (Str → Addr) → Bool) : PySem.W.Hook where
  α := AlD
  obs := fun s => obsS its fns frees ex s.heap.get?
  val := fun _ => (true, fns.map Fn.val)
  says := fun _ h => ∃ K : PySem.W.Frag, K.In h ∧ SaysS its fns frees ex K
  of := fun _ _ e => ⟨_, frG_in, says_of e⟩
  keeps := fun _ _ _ ⟨K, hK, c⟩ k => ⟨K, PySem.W.Frag.In.keeps hK k, c⟩
theorem obsS_eq {its : List Itm} {fns : List Fn} {frees : List Str} {ex : (Str → Addr) → Bool} {g : Addr → Option Obj} {s : Shared} (h : ∀ a, g a = s.heap.get? a) : obsS its fns frees ex g = (hookS its fns frees ex).obs s := by
  have e : g = s.heap.get? := funext h
  rw [e] <;> rfl
end Hm
set_option maxHeartbeats 4000000
/-! facts looked at over small pieces of the heap: own classes, defs with defaults -/
namespace Hu
open PySem PySem.Spec PyProof.Rows L2 He Hm
section
variable {K1 K2 : PySem.W.Frag}
theorem inst (s : Sub K1 K2) {v b : Value} {r : Bool} (h : PySem.W.instIn K1 v b = some r) : PySem.W.instIn K2 v b = some r := by
  obtain ⟨t, ht, e⟩ := Option.bind_eq_some_iff.mp h
  show (PySem.W.typeIn K2 v).bind _ = _
  rw [s.typeV ht]
  exact s.sub e
theorem isFn (s : Sub K1 K2) {v : Value} (h : PySem.W.isFn K1 v = true) : PySem.W.isFn K2 v = true := by
  have e := eq_of_beq (show (PySem.W.typeIn K1 v == some (.type "function")) = true from h)
  show (PySem.W.typeIn K2 v == some (.type "function")) = true
  rw [s.typeV e]
  rfl
theorem makes (s : Sub K1 K2) {C : Addr} (h : PySem.W.makesIn K1 C = true) : PySem.W.makesIn K2 C = true := by
  unfold PySem.W.makesIn at h ⊢
  split at h
  · rename_i oc od cd sl ho
    rw [s _ _ ho]
    obtain ⟨h, h2⟩ := ba h
    obtain ⟨h, h1⟩ := ba h
    dsimp only
    rw [h, s.special (eq_of_beq h1), inst s (eq_of_beq h2)]
    rfl
  · cases h
theorem plainGet (s : Sub K1 K2) {C : Addr} {x : Str} (h : PySem.W.plainGet K1 C x = true) : PySem.W.plainGet K2 C x = true := by
  obtain ⟨h1, h2⟩ := ba (show (PySem.W.findIn K1 (.ref C) "__getattribute__" == some (some (.builtin "object.__getattribute__")) && PySem.W.findIn K1 (.ref C) "__getattr__" == some none) = true from h)
  show (PySem.W.findIn K2 (.ref C) "__getattribute__" == some (some (.builtin "object.__getattribute__")) && PySem.W.findIn K2 (.ref C) "__getattr__" == some none) = true
  rw [s.find (eq_of_beq h1), s.find (eq_of_beq h2)]
  rfl
theorem plainOver (s : Sub K1 K2) {C : Addr} (h : PySem.W.plainOver K1 C = true) : PySem.W.plainOver K2 C = true := by
  obtain ⟨cd, hc, e⟩ := PySem.W.any_some h
  unfold PySem.W.plainOver
  rw [s.cls hc]
  exact e
theorem cls (s : Sub K1 K2) {C : Addr} (c : Cls K1 C) : Cls K2 C := ⟨plainGet s c.pg, s.hasDict c.hd, plainOver s c.po, s.find c.sa⟩
theorem insC (s : Sub K1 K2) {C : Addr} (c : C8.InsC K1 C) : C8.InsC K2 C := by
  refine ⟨cls s c.cl, s.find c.ha, s.special c.hn, s.takes c.htk, s.mro c.hm, ?_⟩
  unfold PySem.W.kitOne
  rw [if_pos (by simp)]
theorem mk (s : Sub K1 K2) {C f : Addr} (m : Mk K1 C f) : Mk K2 C f := ⟨makes s m.makes, s.find m.init, isFn s m.fn, s.keep m.kp⟩
theorem dflV (s : Sub K1 K2) {v : Value} {ds : List V} (h : DflV K1 v ds) : DflV K2 v ds := by
  rcases h with h | ⟨h, T, o, its, n, e, l, d, r⟩
  · exact .inl h
  · exact .inr ⟨h, T, o, its, n, e, s _ _ l, d, r⟩
theorem fund (s : Sub K1 K2) {x qual : Str} {params : Arguments} {body : List Stmt} {scope : Scope} {ds : List V} {f : Addr} {fd : FuncData} (F : FunD K1 x qual params body scope ds [] f fd) : FunD K2 x qual params body scope ds [] f fd := by
  obtain ⟨⟨oc, od, dV, kV, doc, pm, an, cdv, ct, osl, rfl, lk, hcd, hD, hK⟩, kp⟩ := F
  exact ⟨⟨oc, od, dV, kV, doc, pm, an, cdv, ct, osl, rfl, s _ _ lk, s.code hcd, dflV s hD, .inl rfl⟩, s.keep kp⟩
end
/-! ### one def, one method, with its defaults -/
structure Fn where
  x : Str
  m : Option Str
  name : Str
  qual : Str
  params : Arguments
  body : List Stmt
  scope : Scope
  dfl : List V
  pr : Bool := false
/-- a property's getter -/
def prA (K : PySem.W.Frag) (p : Addr) : Addr := match PySem.W.recIn K p "property" with
  | some (.ref g :: _) => g
  | _ => p
def prB (K : PySem.W.Frag) (C : Addr) (m : Str) (a : Addr) : Bool := match PySem.W.findIn K (.ref C) m with
  | some (some (.ref p)) => eqO (PySem.W.specialIn K (.ref p) "__get__") (some (some (.builtin "property.__get__"))) && (decide (PySem.W.takesIn K (.ref p) = some true) && (match PySem.W.recIn K p "property" with
    | some (.ref g :: _) => decide (g = a)
    | _ => false))
  | _ => false
theorem recS {K1 K2 : PySem.W.Frag} (s : Sub K1 K2) {p : Addr} {T : String} {vs : List Value} (h : PySem.W.recIn K1 p T = some vs) : PySem.W.recIn K2 p T = some vs := by
  unfold PySem.W.recIn at h ⊢
  split at h
  · rename_i n d ws sl ho
    rw [s _ _ ho]
    exact h
  · cases h
theorem prB_ok {K1 K2 : PySem.W.Frag} (s : Sub K1 K2) {C : Addr} {m : Str} {a : Addr} (h : prB K1 C m a = true) : ∃ p, PropOf K2 C m p a := by
  unfold prB at h
  split at h
  · rename_i p hp
    obtain ⟨h1, h⟩ := ba h
    obtain ⟨h2, h3⟩ := ba h
    split at h3
    · rename_i g rest hr
      have e := of_decide_eq_true h3
      subst e
      exact ⟨p, s.find hp, s.special (eqO_ok h1), s.takes (of_decide_eq_true h2), rest, recS s hr⟩
    · cases h3
  · cases h
def Fn.adr (g : Addr → Option Obj) (d : Fn) : Addr := match d.m with
  | none => gaG g d.x
  | some m => if d.pr then prA (frG g (growFrom g 2 [gaG g d.x])) (ma (frG g (growFrom g 2 [gaG g d.x])) (gaG g d.x) m) else ma (frG g (growFrom g 2 [gaG g d.x])) (gaG g d.x) m
def Fn.as (g : Addr → Option Obj) (d : Fn) : List Addr := growFrom g 1 [d.adr g]
def Fn.as2 (g : Addr → Option Obj) (d : Fn) : List Addr := match d.m with
  | none => []
  | some _ => growFrom g 2 [gaG g d.x]
def fnB (K : PySem.W.Frag) (a : Addr) (q : Str) (ds : List V) : Bool := PySem.W.keepIn K (.ref a) && (match K.lookup a with
  | some ⟨_, _, .func fd, _⟩ => PySem.W.codeIn K fd.code q && dflB K fd.defaults ds
  | _ => false)
def Fn.ok (g : Addr → Option Obj) (d : Fn) : Bool := fnB (frG g (d.as g)) (d.adr g) d.qual d.dfl && (match d.m with
  | none => true
  | some m => if d.pr then prB (frG g (growFrom g 2 [gaG g d.x])) (gaG g d.x) m (d.adr g) else eqO (PySem.W.findIn (frG g (growFrom g 2 [gaG g d.x])) (.ref (gaG g d.x)) m) (some (some (.ref (d.adr g)))))
def Fn.w (g : Addr → Option Obj) (d : Fn) : FnW := match g (d.adr g) with
  | some ⟨_, _, .func fd, _⟩ => some (fd.name, fd.qualname, fd.params, fd.body, fd.scope, fd.globals, fd.closure, fd.builtins)
  | _ => none
def Fn.val (d : Fn) : FnW := some (d.name, d.qual, d.params, .stmts d.body, d.scope, mainGlobals, [], builtinsNs)
theorem Fn.fund {g : Addr → Option Obj} {d : Fn} (e : d.w g = d.val) (c : d.ok g = true) : ∃ fd, FunD (frG g (d.as g)) d.name d.qual d.params d.body d.scope d.dfl [] (d.adr g) fd := by
  obtain ⟨kp, c2⟩ := ba (show (PySem.W.keepIn (frG g (d.as g)) (.ref (d.adr g)) && _) = true from (ba c).1)
  cases q : (frG g (d.as g)).lookup (d.adr g) with
  | none =>
    rw [q] at c2
    cases c2
  | some o =>
    have hg := frG_at _ q
    unfold Fn.w at e
    rw [hg] at e
    obtain ⟨oc, od, dt, osl⟩ := o
    rw [q] at c2
    cases dt with
    | func fd =>
      obtain ⟨n1, n2, n3, n4, n5, n6, n7, n8, n9, n10, n11, n12, n13, n14, n15⟩ := fd
      have e2 : (some (n1, n2, n3, n4, n5, n6, n7, n15) : FnW) = some (d.name, d.qual, d.params, .stmts d.body, d.scope, mainGlobals, [], builtinsNs) := e
      simp only [Option.some.injEq, Prod.mk.injEq] at e2
      obtain ⟨h1, h2, h3, h4, h5, h6, h7, h8⟩ := e2
      subst h1 h2 h3 h4 h5 h6 h7 h8
      obtain ⟨k1, k3⟩ := ba (show (PySem.W.codeIn (frG g (d.as g)) n13 d.qual && dflB (frG g (d.as g)) n8 d.dfl) = true from c2)
      exact ⟨_, ⟨oc, od, n8, n9, n10, n11, n12, n13, n14, osl, rfl, q, k1, dflB_ok k3, .inl rfl⟩, kp⟩
    | _ => cases c2
/-! ### the Hook -/
def obsS (its : List Itm) (fns : List Fn) (frees : List Str) (ex : (Str → Addr) → Bool) (g : Addr → Option Obj) : AlD :=
  (its.all (Itm.ok g) && (fns.all (Fn.ok g) && (frees.all (fun x => eqO (PySem.W.nsIn (frG g [mainGlobals]) mainGlobals x) (some none)) && ex (gaG g))), fns.map (Fn.w g))
def wholeK (its : List Itm) (fns : List Fn) (g : Addr → Option Obj) : PySem.W.Frag := frG g (mainGlobals :: (its.flatMap (Itm.as g) ++ (fns.flatMap (Fn.as g) ++ fns.flatMap (Fn.as2 g))))
/-- what the end leans on -/
structure SaysS (its : List Itm) (fns : List Fn) (frees : List Str) (ex : (Str → Addr) → Bool) (K : PySem.W.Frag) : Prop where
  glo : ∀ (j : Nat) (i : Itm), its[j]? = some i → PySem.W.nsIn K mainGlobals i.x = some (some (.ref (ga K i.x)))
  it : ∃ γ : Str → Addr, (∀ (j : Nat) (i : Itm), its[j]? = some i → γ i.x = ga K i.x ∧ ∃ K1, Sub K1 K ∧ i.ck γ K1 (ga K i.x) = true) ∧ ex γ = true
  fn : ∀ (j : Nat) (d : Fn), fns[j]? = some d → (∃ (k : Nat) (i : Itm), its[k]? = some i ∧ i.x = d.x) → ∃ (a : Addr) (fd : FuncData), FunD K d.name d.qual d.params d.body d.scope d.dfl [] a fd ∧ (d.m = none → a = ga K d.x) ∧ (∀ m, d.m = some m → d.pr = false → PySem.W.findIn K (.ref (ga K d.x)) m = some (some (.ref a))) ∧ ∀ m, d.m = some m → d.pr = true → ∃ p, PropOf K (ga K d.x) m p a
  free : ∀ x ∈ frees, PySem.W.nsIn K mainGlobals x = some none
theorem says_of {its : List Itm} {fns : List Fn} {frees : List Str} {ex : (Str → Addr) → Bool} {g : Addr → Option Obj} (e : obsS its fns frees ex g = (true, fns.map Fn.val)) : SaysS its fns frees ex (wholeK its fns g) := by
  have e1 : (its.all (Itm.ok g) && (fns.all (Fn.ok g) && (frees.all (fun x => eqO (PySem.W.nsIn (frG g [mainGlobals]) mainGlobals x) (some none)) && ex (gaG g)))) = true := congrArg (fun z : AlD => z.1) e
  have e2 : fns.map (Fn.w g) = fns.map Fn.val := congrArg (fun z : AlD => z.2) e
  obtain ⟨c1, c2⟩ := ba e1
  obtain ⟨c2, c3⟩ := ba c2
  obtain ⟨c3, c4⟩ := ba c3
  have s0 : Sub (frG g [mainGlobals]) (wholeK its fns g) := sub_of fun a h => by
    have : a = mainGlobals := by simpa using h
    rw [this]
    exact List.mem_cons_self ..
  have gl : ∀ (j : Nat) (i : Itm), its[j]? = some i → PySem.W.nsIn (wholeK its fns g) mainGlobals i.x = some (some (.ref (gaG g i.x))) := fun j i h =>
    s0.ns (eqO_ok (ba (List.all_eq_true.mp c1 i (List.mem_of_getElem? h))).1)
  have ge : ∀ (j : Nat) (i : Itm), its[j]? = some i → gaG g i.x = ga (wholeK its fns g) i.x := fun j i h => by
    unfold ga
    rw [gl j i h]
  refine ⟨fun j i h => by rw [← ge j i h]; exact gl j i h, ⟨gaG g, fun j i h => ⟨ge j i h, frG g (i.as g), ?_, ?_⟩, c4⟩, fun j d h hx => ?_, fun x hx => s0.ns (eqO_ok (List.all_eq_true.mp c3 x hx))⟩
  · exact sub_of fun a ha => List.mem_cons_of_mem _ (List.mem_append_left _ (List.mem_flatMap.mpr ⟨i, List.mem_of_getElem? h, ha⟩))
  · rw [← ge j i h]
    exact (ba (List.all_eq_true.mp c1 i (List.mem_of_getElem? h))).2
  · have e3 : (fns.map (Fn.w g))[j]? = (fns.map Fn.val)[j]? := by rw [e2]
    rw [List.getElem?_map, List.getElem?_map, h] at e3
    obtain ⟨fd, F⟩ := Fn.fund (Option.some.inj e3) (List.all_eq_true.mp c2 d (List.mem_of_getElem? h))
    have sd : Sub (frG g (d.as g)) (wholeK its fns g) := sub_of fun a ha => List.mem_cons_of_mem _ (List.mem_append_right _ (List.mem_append_left _ (List.mem_flatMap.mpr ⟨d, List.mem_of_getElem? h, ha⟩)))
    obtain ⟨k, i, hk, hix⟩ := hx
    have gx : gaG g d.x = ga (wholeK its fns g) d.x := by
      rw [← hix]
      exact ge k i hk
    refine ⟨d.adr g, fd, Hu.fund sd F, fun hm => ?_, fun m hm hp => ?_, fun m hm hp => ?_⟩
    · unfold Fn.adr
      rw [hm, ← gx]
    · have sm : Sub (frG g (growFrom g 2 [gaG g d.x])) (wholeK its fns g) := sub_of fun a ha => List.mem_cons_of_mem _ (List.mem_append_right _ (List.mem_append_right _ (List.mem_flatMap.mpr ⟨d, List.mem_of_getElem? h, by
        unfold Fn.as2
        rw [hm]
        exact ha⟩)))
      have q := (ba (List.all_eq_true.mp c2 d (List.mem_of_getElem? h))).2
      rw [hm] at q
      dsimp only at q
      rw [hp] at q
      have z := sm.find (eqO_ok q)
      rw [gx] at z
      exact z
    · have sm : Sub (frG g (growFrom g 2 [gaG g d.x])) (wholeK its fns g) := sub_of fun a ha => List.mem_cons_of_mem _ (List.mem_append_right _ (List.mem_append_right _ (List.mem_flatMap.mpr ⟨d, List.mem_of_getElem? h, by
        unfold Fn.as2
        rw [hm]
        exact ha⟩)))
      have q := (ba (List.all_eq_true.mp c2 d (List.mem_of_getElem? h))).2
      rw [hm] at q
      dsimp only at q
      rw [hp] at q
      rw [← gx]
      exact prB_ok sm q
def hookS (its : List Itm) (fns : List Fn) (frees : List Str) (ex : (Str → Addr) → Bool) : PySem.W.Hook where
  α := AlD
  obs := fun s => obsS its fns frees ex s.heap.get?
  val := fun _ => (true, fns.map Fn.val)
  says := fun _ h => ∃ K : PySem.W.Frag, K.In h ∧ SaysS its fns frees ex K
  of := fun _ _ e => ⟨_, frG_in, says_of e⟩
  keeps := fun _ _ _ ⟨K, hK, c⟩ k => ⟨K, PySem.W.Frag.In.keeps hK k, c⟩
theorem obsS_eq {its : List Itm} {fns : List Fn} {frees : List Str} {ex : (Str → Addr) → Bool} {g : Addr → Option Obj} {s : Shared} (h : ∀ a, g a = s.heap.get? a) : obsS its fns frees ex g = (hookS its fns frees ex).obs s := by
  have e : g = s.heap.get? := funext h
  rw [e] <;> rfl
/-! ### what is looked at of an own class -/
def clsB (K : PySem.W.Frag) (C : Addr) (fs ms : List Str) : Bool :=
  PySem.W.plainGet K C Str.empty && (PySem.W.hasDictIn K C && (PySem.W.plainOver K C && (eqO (PySem.W.findIn K (.ref C) "__setattr__") (some (some (.builtin "object.__setattr__"))) &&
  (PySem.W.makesIn K C && (PySem.W.keepIn K (.ref C) && (eqO (PySem.W.findIn K (.ref C) "__class__") (some (some (.builtin "object.__class__"))) && (comB K && (decide (PySem.W.mroIn K C (.type "object") = some true) &&
  (decide (PySem.W.typeIn K (.ref C) = some (.type "type")) && ((fs.all fun f => eqO (PySem.W.findIn K (.ref C) f) (some none)) &&
  ms.all fun m => PySem.W.isFn K (.ref (ma K C m)) && eqO (PySem.W.findIn K (.ref C) m) (some (some (.ref (ma K C m))))))))))))))
structure ClsK (K : PySem.W.Frag) (C : Addr) (fs ms : List Str) : Prop where
  cl : Cls K C
  mkI : PySem.W.makesIn K C = true
  kp : PySem.W.keepIn K (.ref C) = true
  ins : C8.InsC K C
  ty : PySem.W.typeIn K (.ref C) = some (.type "type")
  cd : ∃ cd, PySem.W.clsIn K C = some cd
  no : ∀ f ∈ fs, NoAttr K C f
  me : ∀ m ∈ ms, ∃ a, PySem.W.findIn K (.ref C) m = some (some (.ref a)) ∧ PySem.W.isFn K (.ref a) = true
theorem clsK_of {K1 K : PySem.W.Frag} (s : Sub K1 K) {C : Addr} {fs ms : List Str} (h : clsB K1 C fs ms = true) : ClsK K C fs ms := by
  unfold clsB at h
  obtain ⟨a1, h⟩ := ba h
  obtain ⟨a2, h⟩ := ba h
  obtain ⟨a3, h⟩ := ba h
  obtain ⟨a4, h⟩ := ba h
  obtain ⟨a5, h⟩ := ba h
  obtain ⟨a6, h⟩ := ba h
  obtain ⟨a7, h⟩ := ba h
  obtain ⟨a8, h⟩ := ba h
  obtain ⟨a9, h⟩ := ba h
  obtain ⟨a10, h⟩ := ba h
  obtain ⟨a11, a12⟩ := ba h
  obtain ⟨c1, c2⟩ := ba a8
  have c : Cls K1 C := ⟨a1, a2, a3, eqO_ok a4⟩
  have i : C8.InsC K1 C := ⟨c, eqO_ok a7, of_decide_eq_true c1, of_decide_eq_true c2, of_decide_eq_true a9, by
    unfold PySem.W.kitOne
    rw [if_pos (by simp)]⟩
  obtain ⟨cd, hc, _⟩ := PySem.W.any_some a2
  refine ⟨cls s c, makes s a5, s.keep a6, insC s i, s.typ (of_decide_eq_true a10), ⟨cd, s.cls hc⟩, fun f hf => s.find (eqO_ok (List.all_eq_true.mp a11 f hf)), fun m hm => ?_⟩
  obtain ⟨q1, q2⟩ := ba (List.all_eq_true.mp a12 m hm)
  exact ⟨_, s.find (eqO_ok q2), isFn s q1⟩
/-- isinstance of an instance of C, of another own class D -/
theorem kit_no {K : PySem.W.Frag} {C D : Addr} {fs' ms' : List Str} (y : ClsK K D fs' ms') (ne : C ≠ D) (h : PySem.W.mroIn K C (.ref D) = some false) : PySem.W.kitOne K (.ref C) (.ref D) = some false := by
  unfold PySem.W.kitOne
  have n : (Value.ref C == Value.ref D) = false := by simpa using ne
  rw [n, if_neg Bool.false_ne_true]
  obtain ⟨cd, hc⟩ := y.cd
  have e2 : ((PySem.W.clsIn K D).isSome && PySem.W.typeIn K (.ref D) == some (.type "type")) = true := by rw [hc, y.ty] <;> rfl
  show (if ((PySem.W.clsIn K D).isSome && PySem.W.typeIn K (.ref D) == some (.type "type")) = true then PySem.W.subIn K (.ref C) (.ref D) else none) = _
  rw [if_pos e2]
  exact h
end Hu
set_option maxHeartbeats 4000000
/-! the module's constants beside what Hu looks at -/
namespace Hv
open PySem PySem.Spec PyProof.Rows L2 He Hm
inductive Cn where
  | i (n : Int)
  | s (z : Str)
def Cn.ck : Cn → Value → Bool
  | .i n, .int m _ => decide (m = n)
  | .s z, .str y _ => decide (y = z)
  | _, _ => false
theorem Cn.int {n : Int} {v : Value} (h : (Cn.i n).ck v = true) : ∃ t, v = .int n t := by
  cases v with
  | int m t => exact ⟨t, by rw [of_decide_eq_true (show decide (m = n) = true from h)]⟩
  | _ => cases h
theorem Cn.str {z : Str} {v : Value} (h : (Cn.s z).ck v = true) : ∃ t, v = .str z t := by
  cases v with
  | str y t => exact ⟨t, by rw [of_decide_eq_true (show decide (y = z) = true from h)]⟩
  | _ => cases h
def conB (K : PySem.W.Frag) (c : Str × Cn) : Bool := match PySem.W.nsIn K mainGlobals c.1 with
  | some (some v) => c.2.ck v
  | _ => false
structure SaysV (its : List Itm) (fns : List Hu.Fn) (frees : List Str) (ex : (Str → Addr) → Bool) (cs : List (Str × Cn)) (K : PySem.W.Frag) : Prop where
  s : Hu.SaysS its fns frees ex K
  con : ∀ c ∈ cs, ∃ v, PySem.W.nsIn K mainGlobals c.1 = some (some v) ∧ c.2.ck v = true
def obsS (its : List Itm) (fns : List Hu.Fn) (frees : List Str) (ex : (Str → Addr) → Bool) (cs : List (Str × Cn)) (g : Addr → Option Obj) : AlD :=
  ((Hu.obsS its fns frees ex g).1 && cs.all (conB (frG g [mainGlobals])), (Hu.obsS its fns frees ex g).2)
theorem says_of {its : List Itm} {fns : List Hu.Fn} {frees : List Str} {ex : (Str → Addr) → Bool} {cs : List (Str × Cn)} {g : Addr → Option Obj} (e : obsS its fns frees ex cs g = (true, fns.map Hu.Fn.val)) : SaysV its fns frees ex cs (Hu.wholeK its fns g) := by
  have e1 : ((Hu.obsS its fns frees ex g).1 && cs.all (conB (frG g [mainGlobals]))) = true := congrArg (fun z : AlD => z.1) e
  have e2 : (Hu.obsS its fns frees ex g).2 = fns.map Hu.Fn.val := congrArg (fun z : AlD => z.2) e
  obtain ⟨c1, c2⟩ := ba e1
  have e3 : Hu.obsS its fns frees ex g = (true, fns.map Hu.Fn.val) := Prod.ext c1 e2
  have s0 : Sub (frG g [mainGlobals]) (Hu.wholeK its fns g) := sub_of fun a h => by
    have : a = mainGlobals := by simpa using h
    rw [this]
    exact List.mem_cons_self ..
  refine ⟨Hu.says_of e3, fun c hc => ?_⟩
  have h := List.all_eq_true.mp c2 c hc
  unfold conB at h
  split at h
  · rename_i v hv
    exact ⟨v, s0.ns hv, h⟩
  · cases h
def hookS (its : List Itm) (fns : List Hu.Fn) (frees : List Str) (ex : (Str → Addr) → Bool) (cs : List (Str × Cn)) : PySem.W.Hook where
  α := AlD
  obs := fun s => obsS its fns frees ex cs s.heap.get?
  val := fun _ => (true, fns.map Hu.Fn.val)
  says := fun _ h => ∃ K : PySem.W.Frag, K.In h ∧ SaysV its fns frees ex cs K
  of := fun _ _ e => ⟨_, frG_in, says_of e⟩
  keeps := fun _ _ _ ⟨K, hK, c⟩ k => ⟨K, PySem.W.Frag.In.keeps hK k, c⟩
theorem obsS_eq {its : List Itm} {fns : List Hu.Fn} {frees : List Str} {ex : (Str → Addr) → Bool} {cs : List (Str × Cn)} {g : Addr → Option Obj} {s : Shared} (h : ∀ a, g a = s.heap.get? a) : obsS its fns frees ex cs g = (hookS its fns frees ex cs).obs s := by
  have e : g = s.heap.get? := funext h
  rw [e] <;> rfl
theorem con_int {its : List Itm} {fns : List Hu.Fn} {frees : List Str} {ex : (Str → Addr) → Bool} {cs : List (Str × Cn)} {K : PySem.W.Frag} {h : Heap} {mg : Str → Option Value} (X : K.In h) (G : h.Ns mainGlobals mg) (c : SaysV its fns frees ex cs K) {x : Str} {n : Int} (hx : (x, Cn.i n) ∈ cs) : ∃ t, mg x = some (.int n t) := by
  obtain ⟨v, hv, e⟩ := c.con _ hx
  obtain ⟨t, rfl⟩ := Cn.int e
  exact ⟨t, PySem.W.mg_of X G hv⟩
theorem con_str {its : List Itm} {fns : List Hu.Fn} {frees : List Str} {ex : (Str → Addr) → Bool} {cs : List (Str × Cn)} {K : PySem.W.Frag} {h : Heap} {mg : Str → Option Value} (X : K.In h) (G : h.Ns mainGlobals mg) (c : SaysV its fns frees ex cs K) {x : Str} {z : Str} (hx : (x, Cn.s z) ∈ cs) : ∃ t, mg x = some (.str z t) := by
  obtain ⟨v, hv, e⟩ := c.con _ hx
  obtain ⟨t, rfl⟩ := Cn.str e
  exact ⟨t, PySem.W.mg_of X G hv⟩
end Hv
set_option maxHeartbeats 4000000
/-! beside what Hv looks at: nothing looked at is an empty table, and sys.modules is a dict -/
namespace Hw
open PySem PySem.Spec PyProof.Rows L2 He Hm
def notab : Option Obj → Bool
  | some ⟨_, _, .fields vs, _⟩ => !vs.isEmpty
  | _ => true
def isdict : Option Obj → Bool
  | some ⟨_, _, .dict _ _, _⟩ => true
  | _ => false
theorem notab_ne {o : Obj} (h : notab (some o) = true) : o.data ≠ .fields #[] := fun e => by
  obtain ⟨c, d, dt, sl⟩ := o
  have e : dt = .fields #[] := e
  subst e
  exact Bool.noConfusion (show false = true from h)
theorem isdict_of {g : Heap} (h : isdict (g.get? sysModules) = true) : Dl.GSys g := by
  cases q : g.get? sysModules with
  | none => rw [q] at h; cases h
  | some o =>
    rw [q] at h
    obtain ⟨c, d, dt, sl⟩ := o
    cases dt with
    | dict es n => exact ⟨_, es, n, q, rfl⟩
    | _ => cases h
abbrev lst (its : List Itm) (fns : List Hu.Fn) (g : Addr → Option Obj) : List Addr := mainGlobals :: (its.flatMap (Itm.as g) ++ (fns.flatMap (Hu.Fn.as g) ++ fns.flatMap (Hu.Fn.as2 g)))
structure SaysW (its : List Itm) (fns : List Hu.Fn) (frees : List Str) (ex : (Str → Addr) → Bool) (cs : List (Str × Hv.Cn)) (K : PySem.W.Frag) : Prop where
  v : Hv.SaysV its fns frees ex cs K
  nt : ∀ (t : Addr) (o : Obj), K.lookup t = some o → o.data ≠ .fields #[]
def obsS (its : List Itm) (fns : List Hu.Fn) (frees : List Str) (ex : (Str → Addr) → Bool) (cs : List (Str × Hv.Cn)) (g : Addr → Option Obj) : AlD :=
  ((Hv.obsS its fns frees ex cs g).1 && (((lst its fns g).all fun a => notab (g a)) && isdict (g sysModules)), (Hv.obsS its fns frees ex cs g).2)
theorem says_of {its : List Itm} {fns : List Hu.Fn} {frees : List Str} {ex : (Str → Addr) → Bool} {cs : List (Str × Hv.Cn)} {g : Addr → Option Obj} (e : obsS its fns frees ex cs g = (true, fns.map Hu.Fn.val)) : SaysW its fns frees ex cs (Hu.wholeK its fns g) ∧ isdict (g sysModules) = true := by
  have e1 : ((Hv.obsS its fns frees ex cs g).1 && (((lst its fns g).all fun a => notab (g a)) && isdict (g sysModules))) = true := congrArg (fun z : AlD => z.1) e
  have e2 : (Hv.obsS its fns frees ex cs g).2 = fns.map Hu.Fn.val := congrArg (fun z : AlD => z.2) e
  obtain ⟨c1, c2⟩ := ba e1
  obtain ⟨c2, c3⟩ := ba c2
  refine ⟨⟨Hv.says_of (Prod.ext c1 e2), fun t o l => ?_⟩, c3⟩
  have gt := frG_at _ l
  have m : t ∈ lst its fns g := frG_keys l
  have := List.all_eq_true.mp c2 t m
  rw [gt] at this
  exact notab_ne this
def hookS (its : List Itm) (fns : List Hu.Fn) (frees : List Str) (ex : (Str → Addr) → Bool) (cs : List (Str × Hv.Cn)) : PySem.W.Hook where
  α := AlD
  obs := fun s => obsS its fns frees ex cs s.heap.get?
  val := fun _ => (true, fns.map Hu.Fn.val)
  says := fun _ h => Dl.GSys h ∧ ∃ K : PySem.W.Frag, K.In h ∧ SaysW its fns frees ex cs K
  of := fun _ _ e => ⟨isdict_of (says_of e).2, _, frG_in, (says_of e).1⟩
  keeps := fun _ _ _ ⟨⟨o, es, n, g, d⟩, K, hK, c⟩ k => ⟨⟨o, es, n, k _ _ g, d⟩, K, PySem.W.Frag.In.keeps hK k, c⟩
theorem obsS_eq {its : List Itm} {fns : List Hu.Fn} {frees : List Str} {ex : (Str → Addr) → Bool} {cs : List (Str × Hv.Cn)} {g : Addr → Option Obj} {s : Shared} (h : ∀ a, g a = s.heap.get? a) : obsS its fns frees ex cs g = (hookS its fns frees ex cs).obs s := by
  have e : g = s.heap.get? := funext h
  rw [e] <;> rfl
end Hw
set_option maxHeartbeats 2000000
/-! a law's end, where its promise is one of FnG and one of its defs makes lambdas -/
namespace Gd
open PySem PySem.Spec PyProof.Rows L2
section
variable {P : Program} {w : World} {K : PySem.W.Frag} {mg mb : Str → Option Value} {CX : CXT} {k : Nat} {fa a c t : Addr} {fd : FuncData} {x : Str} {sp : Sp} {s : Shared} {us : List Value} {ns : List Int}
abbrev noTab : Obj := { cls := .none, data := .fields #[] }
/-- what the law's def is asked for over a base -/
abbrev Asks (P : Program) (w : World) (K : PySem.W.Frag) (mg : Str → Option Value) (CX : CXT) (k : Nat) (fa c t : Addr) (fd : FuncData) (x : Str) (sp : Sp) : Prop :=
  ∀ base : Heap, K.In base → base.Ns mainGlobals mg → LamX.TabB base mg c t → Dl.GSys base → FnG P w K mg base CX k fa fd [x] sp
structure Start (K : PySem.W.Frag) (mg mb : Str → Option Value) (a c t : Addr) (us : List Value) (s : Shared) : Prop where
  kin : K.In s.heap
  nm : s.heap.Ns mainGlobals mg
  nb : s.heap.Ns builtinsNs mb
  bb : ∀ x : Str, x ≠ "__name__" → mb x = bootBuiltins x
  lim : s.heap.NoLimit
  ng : s.gens = #[]
  sc : s.heap.get? a = some { cls := .type "list", data := .seq us.toArray }
  tab : s.heap.get? t = some noTab
  nk : K.lookup t = none
  cd : PySem.W.CodeHd s.heap c t
  bm : ∃ (bm : Addr) (ob : Obj), mg "__builtins__" = some (.ref bm) ∧ bm ≠ builtinsNs ∧ s.heap.get? bm = some ob ∧ ob.cls = .type "module" ∧ ob.dict = some builtinsNs ∧ ob.data = .plain
  sy : Dl.GSys s.heap
theorem call_atT {H : Hp} (S : Start K mg mb a c t us s) (hr : Room k callerA) (F : Asks P w K mg CX k fa c t fd x sp) (hb : ∀ (s : Shared) (u : Value), BindsTo s fd ⟨[u], []⟩ [(x, u)]) (ht : H t = some (.tbl #[]))
    (onl : ∀ b, b ≠ t → H b = none ∨ ∃ o xs, H b = some (.frz o (.lst xs))) (q : sp [.ref a] H (fun v _ => v = .bl true) fun _ _ _ => False) (noX : ∀ e s2, CX [] H s (fun _ _ _ => False) e s2 → False) (held : HOk P w H s.heap) (mine : ∀ b, H b ≠ none → b = a ∨ b = t) (far : H a ≠ none → K.lookup a = none) :
    codeAny (model P w) callerA (.call (.ref fa) ⟨[.ref a], []⟩) (Fin s) s := by
  have free : ∀ {b : Addr} {o : Obj}, s.heap.get? b = some o → (∀ vs n, o.data ≠ .seq vs n) → o.data ≠ .fields #[] → H b = none := fun {b o} g h1 h2 => Classical.byContradiction fun z => by
    rcases mine b z with rfl | rfl
    · rw [S.sc] at g
      cases g
      exact h1 _ _ rfl
    · rw [S.tab] at g
      cases g
      exact h2 rfl
  have under : ∀ {b : Addr} {o : Obj}, s.heap.get? b = some o → (∀ vs n, o.data ≠ .seq vs n) → o.data ≠ .fields #[] → (hidT s.heap H).get? b = some o := fun g h1 h2 => hidT_get g (free g h1 h2)
  have dict : ∀ {b : Addr} {m : Str → Option Value}, s.heap.Ns b m → (hidT s.heap H).Ns b m := by
    rintro b m ⟨o, es, ep, g, dd, rest⟩
    exact ⟨o, es, ep, under g (fun vs n z => by rw [dd] at z; cases z) (fun z => by rw [dd] at z; cases z), dd, rest⟩
  have kin0 : K.In (hidT s.heap H) := fun b o l => hidT_get (S.kin b o l) (Classical.byContradiction fun z => by
    rcases mine b z with rfl | rfl
    · rw [far z] at l
      cases l
    · rw [S.nk] at l
      cases l)
  have mod : Mod K mg (hidT s.heap H) := by
    obtain ⟨mc, c1, c2⟩ := S.lim
    exact ⟨kin0, dict S.nm, ⟨mb, dict S.nb, S.bb⟩, ⟨mc, dict c1, c2⟩⟩
  have tb : LamX.TabB (hidT s.heap H) mg c t := by
    refine ⟨?_, ?_, fun z => ?_⟩
    · obtain ⟨o, vs, r⟩ := S.cd
      obtain ⟨f1, f2, f3, f4, f5, f6, f7, g1, g2, g3, g4, rest⟩ := r
      refine ⟨o, vs, f1, f2, f3, f4, f5, f6, f7, under g1 (fun us n z => ?_) (fun z => ?_), g2, g3, g4, rest⟩
      · rw [g3] at z
        cases z
      · rw [g3] at z
        cases z
        simp at g4
    · obtain ⟨bm, ob, b1, b2, b3, b4, b5, b6⟩ := S.bm
      refine ⟨bm, ob, b1, b2, fun z => ?_, fun z => ?_, under b3 (fun us n z => by rw [b6] at z; cases z) (fun z => by rw [b6] at z; cases z), b4, b5, b6⟩
      · obtain ⟨o, es, ep, g, dd, _⟩ := S.nm
        rw [z, g] at b3
        cases b3
        rw [dd] at b6
        cases b6
      · rw [z, S.tab] at b3
        cases b3
        cases b6
    · obtain ⟨o, es, ep, g, dd, _⟩ := S.nm
      rw [z, S.tab] at g
      cases g
      cases dd
  have sy : Dl.GSys (hidT s.heap H) := by
    obtain ⟨o, es, n, g, dd⟩ := S.sy
    exact ⟨o, es, n, under g (fun us m z => by rw [dd] at z; cases z) (fun z => by rw [dd] at z; cases z), dd⟩
  have env : Env0 P w K mg (hidT s.heap H) callerA [] s H := ⟨rfl, mod, fun b o g => of_hidT g, Nat.le_of_eq (hidT_size _ _), trivial, nofun, held, .of_eq S.ng⟩
  refine codeAny_mono ((F _ kin0 (dict S.nm) tb sy).go callerA [] s H ⟨[.ref a], []⟩ [.ref a] [.ref a] _ _ rfl hr env (hb s (.ref a)) (.cons rfl .nil) q) fun r s2 z => ?_
  match r, z with
  | .error e, z => exact (noX e s2 z).elim
  | .ok .next, z => exact z.elim
  | .ok .brk, z => exact z.elim
  | .ok .cont, z => exact z.elim
  | .ok (.ret u), z =>
    obtain ⟨v, H2, os, bare, un, held2, rel, (e1 : v = .bl true)⟩ := z
    subst e1
    cases (show u = Value.bool true from rel)
    obtain ⟨more, gt⟩ := un.tbls t #[] ht
    have t2 : s2.heap.get? t = some { cls := .none, data := .fields (#[] ++ more) } := held2 t _ gt
    have kp : ∀ b o, b ≠ t → s.heap.get? b = some o → s2.heap.get? b = some o := fun b o nb g => by
      rcases onl b nb with n | ⟨ob, xs, n⟩
      · exact un.keep b o g n nofun nofun
      · have g2 := (held2 b _ (un.frzs b ob _ n)).1
        rw [(held b _ n).1] at g
        rw [← Option.some.inj g]
        exact g2
    refine ⟨rfl, ⟨fun b o g => ?_, fun b o g => ?_⟩, os, bare⟩
    · by_cases e : b = t
      · subst e
        rw [S.tab] at g
        cases g
        exact .inr (.inl ⟨(S.cd.tab S.tab).isCodeTable, rfl, #[], more, rfl, t2⟩)
      · exact .inl (kp b o e g)
    · by_cases e : b = t
      · subst e
        exact ⟨_, t2⟩
      · exact ⟨o, kp b o e g⟩
theorem law_callT (S : Start K mg mb a c t us s) (wh : IntsAre us ns) (fit : ns.length ≤ sizeLine) (hr : Room k callerA) (F : Asks P w K mg CX k fa c t fd x sp) (hb : ∀ (s : Shared) (u : Value), BindsTo s fd ⟨[u], []⟩ [(x, u)])
    (q : ∀ H : Hp, H t = some (.tbl #[]) → SqL K H a (ns.map V.int) → sp [.ref a] H (fun v _ => v = .bl true) fun _ _ _ => False) (noX : ∀ H e s2, CX [] H s (fun _ _ _ => False) e s2 → False) :
    codeAny (model P w) callerA (.call (.ref fa) ⟨[.ref a], []⟩) (Fin s) s := by
  have vals := vals_ints wh
  have at_ : a ≠ t := fun e => by
    have h1 := S.sc
    rw [e, S.tab] at h1
    cases h1
  cases hk : K.lookup a with
  | some o =>
    have g := S.kin a o hk
    rw [S.sc] at g
    cases g
    let H : Hp := fun b => if b = t then some (.tbl #[]) else none
    have Ht : H t = some (.tbl #[]) := if_pos rfl
    have off : ∀ {b : Addr}, b ≠ t → H b = none := fun n => if_neg n
    refine call_atT (H := H) S hr F hb Ht (fun b n => .inl (off n)) (q _ Ht (.inr ⟨_, us.toArray, _, hk, rfl, rfl, rfl, ?_, ?_⟩)) (noX H) (fun b v g => ?_) (fun b z => .inr (Classical.byContradiction fun n => z (off n))) fun z => absurd (off at_) z
    · rw [List.size_toArray, wh.length]
      exact fit
    · simpa using vals
    · by_cases n : b = t
      · subst n
        rw [Ht] at g
        cases g
        exact S.tab
      · rw [off n] at g
        cases g
  | none =>
    let ob : Obj := { cls := .type "list", data := .seq us.toArray }
    let H : Hp := fun b => if b = a then some (.frz ob (.lst (ns.map V.int))) else if b = t then some (.tbl #[]) else none
    have at_a : H a = some (.frz ob (.lst (ns.map V.int))) := if_pos rfl
    have Ht : H t = some (.tbl #[]) := (if_neg (Ne.symm at_)).trans (if_pos rfl)
    have off : ∀ {b : Addr}, b ≠ a → b ≠ t → H b = none := fun n m => (if_neg n).trans (if_neg m)
    refine call_atT (H := H) S hr F hb Ht (fun b n => (Classical.em (b = a)).elim (fun e => .inr ⟨_, _, e ▸ at_a⟩) fun m => .inl (off m n)) (q H Ht (.inl (.inr ⟨ob, at_a⟩))) (noX H) (fun b v g => ?_) (fun b z => Classical.byContradiction fun n => z (off (fun e => n (.inl e)) fun e => n (.inr e))) fun _ => hk
    by_cases n : b = a
    · subst n
      rw [at_a] at g
      cases g
      exact ⟨S.sc, by rw [List.length_map]; exact fit, us, _, vals, S.sc⟩
    · by_cases m : b = t
      · subst m
        rw [Ht] at g
        cases g
        exact S.tab
      · rw [off n m] at g
        cases g
end
/-- the end of a law's row: y, the def that makes the lambdas -/
theorem walk_ofGT {l : PySem.W.OpenLaw} {n k : Nat} {q : Program} {loose : List Str} {XP : (Str → Option Value) → Heap → Prop} {YP : World → Heap → Prop} {d : DefRec} {CX : CXT} {x y : Str}
    (hn : l.most = some n) (hn2 : n ≤ sizeLine) (hdf : d.params.defaults = []) (hr : Room k callerA) (hrec : ((recsOf q).any fun e => e.name == y) = true)
    (F : ∀ (w : World) (mg : Str → Option Value) (fa : Addr) (h : Heap), YP w h → h.Ns mainGlobals mg → mg d.name = some (.ref fa) →
      Dl.GSys h ∧ ∃ (K : PySem.W.Frag) (fd : FuncData) (sp : Addr → Sp), K.In h ∧ (∀ (t : Addr) (o : Obj), K.lookup t = some o → o.data ≠ .fields #[]) ∧ (∀ (s : Shared) (u : Value), BindsTo s fd ⟨[u], []⟩ [(x, u)]) ∧
        (∀ (t : Addr) (H : Hp) (a : Addr) (ns : List Int), ns.length ≤ n → H t = some (.tbl #[]) → SqL K H a (ns.map V.int) → sp t [.ref a] H (fun v _ => v = .bl true) fun _ _ _ => False) ∧
        ∀ (g c t : Addr) (o : Obj) (fg : FuncData), mg y = some (.ref g) → h.get? g = some o → o.data = .func fg → fg.code = .ref c → Asks l.prog w K mg CX k fa c t fd x (sp t))
    (noX : ∀ (H : Hp) (s : Shared) (e : Value) (s2 : Shared), CX [] H s (fun _ _ _ => False) e s2 → False) :
    PySem.W.WalkO q loose XP YP l.row.toRowW d [] (fun f vs => PySem.call f vs) :=
  Att.attach_call hn hdf fun w s0 s mg mb fa o pm cd doc a us ns G Y ho hd hcd hmg sc wh len ng => by
    obtain ⟨sy, K, fd, sp, kin, nt, hb, hq, go⟩ := F w mg fa _ Y G.T.g hmg
    obtain ⟨e, he, hey⟩ := List.any_eq_true.mp hrec
    have hey : e.name = y := beq_iff_eq.mp hey
    obtain ⟨g, og, fg, c, t, h1, h2, h3, h4, h5, h6⟩ := G.T.tab e he
    rw [hey] at h1
    have tab : s.heap.get? t = some noTab := h6.2
    have S : Start K mg mb a c t us s := ⟨kin, G.T.g, G.T.b, G.T.builtins, G.T.nolimit, ng, sc, tab, by
      cases l : K.lookup t with
      | none => rfl
      | some o =>
        have z := kin t o l
        rw [tab] at z
        cases z
        exact absurd rfl (nt t _ l), PySem.W.CodeHd.of h5 h6, G.T.bmain, sy⟩
    exact law_callT S wh (Nat.le_trans len hn2) hr (go g c t og fg h1 h2 h3 h4) hb (fun H ht hs => hq t H a ns len ht hs) fun H e s2 => noX H s e s2
end Gd
set_option maxHeartbeats 0
namespace My
open PySem PySem.Spec PyProof.Rows L2 He Hm Hu Lcn Sq Dl
def dFn (x : Str) (st : Stmt) : Hu.Fn := ⟨x, none, x, x, defArgs st, defBody st, defScope st, [], false⟩
def mFn (x m qual : Str) (st : Stmt) (ds : List V) : Hu.Fn := ⟨x, some m, m, qual, defArgs st, defBody st, defScope st, ds, false⟩
def pFn (x m qual : Str) (st : Stmt) : Hu.Fn := ⟨x, some m, m, qual, defArgs st, defBody st, defScope st, [], true⟩
def fns : List Hu.Fn := [dFn "is_whole" (topS 4), dFn "is_sequence" (topS 5), dFn "is_couple" (topS 6), dFn "is_side" (topS 7), dFn "form_value" (topS 9), dFn "check_system" (topS 13), dFn "columns_of" (topS 14), dFn "figures_of" (topS 15), dFn "added" (topS 16), dFn "parities" (topS 17), dFn "start_of_carries" (topS 18), dFn "moves_of" (topS 19), dFn "next_rows" (topS 20), dFn "whole" (topS 21), dFn "numbers_of" (topS 22), dFn "answer_fault" (topS 23), dFn "_law_source" (topS 25), dFn "_law_take" (topS 26), dFn "_law_value" (topS 27), dFn "_law_made_system" (topS 28), dFn "_law_either" (topS 29), dFn "_law_handed" (topS 30), dFn "_law_is_whole" (topS 31), dFn "_law_wide_system" (topS 32), dFn "_law_odd_equation" (topS 33), dFn "_law_refused" (topS 34), dFn "_law_spoilt" (topS 35), dFn "_law_refusals_right" (topS 36), dFn "_law_due_fault" (topS 37), dFn "_law_faults_right" (topS 38), dFn "law" (topS 39), mFn "BadEquation" "__init__" "BadEquation.__init__" (inClass (topS 2) 0) []]
def mkG (x : Str) : Itm := ⟨x, 0, fun _ _ _ => true⟩
def neB (K : PySem.W.Frag) (a : Addr) : Bool := eqO (PySem.W.findIn K (.ref a) "__ne__") (some (some (.builtin "object.__ne__")))
def mkC (x : Str) (fs ms others : List Str) : Itm := ⟨x, 3, fun γ K a => clsB K a fs ms && ((others.all fun y => decide (a ≠ γ y) && decide (PySem.W.mroIn K a (.ref (γ y)) = some false)) && neB K a)⟩
def ve5 : List Value := [.type "ValueError", .type "Exception", .type "BaseException", .type "object"]
def ckX (bm : List Value) (fs : List Str) (K : PySem.W.Frag) (a : Addr) : Bool := comB K && (oexB K a bm && (excB K a fs && PySem.W.excIn K a ve5 "ValueError.__new__"))
def mkP : Itm := ⟨"PressError", 3, fun _ K a => ckX ve5 [] K a⟩
def mkX (x : Str) : Itm := ⟨x, 3, fun γ K a => ckX (.ref (γ "PressError") :: ve5) [] K a⟩
def ckX1 (bm : List Value) (fs : List Str) (K : PySem.W.Frag) (a : Addr) : Bool := (comB K && (oexB K a bm && excB K a fs)) && (eqO (PySem.W.findIn K (.ref a) "__init__") (some (some (.ref (ma K a "__init__")))) && decide (PySem.W.typeIn K (.ref (ma K a "__init__")) = some (.type "function")))
def mkX1 (x : Str) (fs : List Str) : Itm := ⟨x, 3, fun γ K a => ckX1 (.ref (γ "PressError") :: ve5) fs K a⟩
def oth (x : Str) : List Str := ([] : List Str).filter fun y => decide (y ≠ x)
def its : List Itm := [mkG "is_whole", mkG "is_sequence", mkG "is_couple", mkG "is_side", mkG "form_value", mkG "check_system", mkG "columns_of", mkG "figures_of", mkG "added", mkG "parities", mkG "start_of_carries", mkG "moves_of", mkG "next_rows", mkG "whole", mkG "numbers_of", mkG "answer_fault", mkG "_law_source", mkG "_law_take", mkG "_law_value", mkG "_law_made_system", mkG "_law_either", mkG "_law_handed", mkG "_law_is_whole", mkG "_law_wide_system", mkG "_law_odd_equation", mkG "_law_refused", mkG "_law_spoilt", mkG "_law_refusals_right", mkG "_law_due_fault", mkG "_law_faults_right", mkG "law", mkP, mkX1 "BadEquation" ["at", "what"]]
def frees : List Str := ["len", "int", "bool", "list", "tuple", "isinstance", "all", "range", "min", "enumerate", "zip", "any", "sum", "max", "sorted", "dict", "repr", "str", "set", "abs", "ValueError"]
def ex (_ : Str → Addr) : Bool := true
abbrev R : PySem.W.OpenRow := PySem.W.OpenLaw.row PySem.Challenge.rw_pressedwords_k29_systems_and_answers_ref
def cons : List (Str × Hv.Cn) := []
abbrev hk : PySem.W.Hook := Hw.hookS its fns frees ex cons
def ob (s : PySem.W.SharedT) : AlD := Hw.obsS its fns frees ex cons (HandSHeadRun.getT s)
theorem ob_eq (s : PySem.W.SharedT) : ob s = hk.obs s.abs := Hw.obsS_eq (HandSHeadRun.getT_eq s)
def nm0 : List PySem.Str := ["PressError", "BadEquation", "Answer", "Carries", "is_whole", "is_sequence", "is_couple", "is_side", "form_value", "check_system", "columns_of", "figures_of", "added", "parities", "start_of_carries", "moves_of", "next_rows", "whole", "numbers_of", "answer_fault", "_law_source", "_law_take", "_law_value", "_law_made_system", "_law_either", "_law_handed", "_law_is_whole", "_law_wide_system", "_law_odd_equation", "_law_refused"]
def nm1 : List PySem.Str := ["_law_spoilt", "_law_due_fault", "_law_faults_right"]
def loose : List PySem.Str := nm0 ++ (nm1)
theorem run (w : World) : HandSHeadRun.RunEq R (PySem.W.view R.prog [36, 39]) hk ob 12500 loose w := by
  intro os
  kernel_rfl
section
variable {P : Program} {w : World} {K : PySem.W.Frag} {h : Heap} {mg : Str → Option Value}
theorem dn_of (X : K.In h) (G : h.Ns mainGlobals mg) (c : Hu.SaysS its fns frees ex K) (j : Nat) {x : Str} {st : Stmt} {ps : List Str} (hf : fns[j]? = some (dFn x st)) (hi : its[j]? = some (mkG x))
    (hb : ∀ (kV doc pm : Value) (an : Option Addr) (cdv ct : Value) (us : List Value), us.length = ps.length → bindArgs (PySem.W.fnOf x x (defArgs st) (defBody st) (defScope st) .none kV doc pm an cdv ct) ⟨us, []⟩ = pure (ps.zip us)) : ∃ D : Dn K mg x st ps, D.f = ga K x := by
  obtain ⟨a, fd, F, ha, _⟩ := c.fn j _ hf ⟨_, _, hi, rfl⟩
  have e : a = ga K x := ha rfl
  subst e
  exact ⟨⟨_, fd, F, PySem.W.mg_of X G (c.glo j _ hi), FunD.bindsN F hb⟩, rfl⟩
theorem fr_of (X : K.In h) (G : h.Ns mainGlobals mg) (c : Hu.SaysS its fns frees ex K) {x : Str} (hx : x ∈ frees) : mg x = none := PySem.W.mg_none_of X G (c.free x hx)
theorem cl_of (X : K.In h) (G : h.Ns mainGlobals mg) (c : Hu.SaysS its fns frees ex K) (j : Nat) {x : Str} {fs ms others : List Str} (hi : its[j]? = some (mkC x fs ms others)) : mg x = some (.ref (ga K x)) ∧ ClsK K (ga K x) fs ms := by
  obtain ⟨γ, hγ, _⟩ := c.it
  obtain ⟨_, K1, s1, q⟩ := hγ j _ hi
  exact ⟨PySem.W.mg_of X G (c.glo j _ hi), clsK_of s1 (ba (show (clsB K1 (ga K x) fs ms && _) = true from q)).1⟩
theorem no_of (c : Hu.SaysS its fns frees ex K) (j i : Nat) {x y : Str} {fs ms os fs' ms' os' : List Str} (hj : its[j]? = some (mkC x fs ms os)) (hi : its[i]? = some (mkC y fs' ms' os')) (hy : y ∈ os) (k : ClsK K (ga K y) fs' ms') : PySem.W.kitOne K (.ref (ga K x)) (.ref (ga K y)) = some false := by
  obtain ⟨γ, hγ, _⟩ := c.it
  obtain ⟨_, K1, s1, q⟩ := hγ j _ hj
  have e : γ y = ga K y := (hγ i _ hi).1
  obtain ⟨q1, q2⟩ := ba (List.all_eq_true.mp (ba (ba (show (clsB K1 (ga K x) fs ms && ((os.all fun y => decide (ga K x ≠ γ y) && decide (PySem.W.mroIn K1 (ga K x) (.ref (γ y)) = some false)) && neB K1 (ga K x))) = true from q)).2).1 y hy)
  have q1 := of_decide_eq_true q1
  have q2 := of_decide_eq_true q2
  rw [e] at q1 q2
  exact kit_no k q1 (s1.mro q2)
theorem far_of (c : Hu.SaysS its fns frees ex K) (j i : Nat) {x y : Str} {fs ms os fs' ms' os' : List Str} (hj : its[j]? = some (mkC x fs ms os)) (hi : its[i]? = some (mkC y fs' ms' os')) (hy : y ∈ os) : ga K x ≠ ga K y ∧ PySem.W.mroIn K (ga K x) (.ref (ga K y)) = some false := by
  obtain ⟨γ, hγ, _⟩ := c.it
  obtain ⟨_, K1, s1, q⟩ := hγ j _ hj
  have e : γ y = ga K y := (hγ i _ hi).1
  obtain ⟨q1, q2⟩ := ba (List.all_eq_true.mp (ba (ba (show (clsB K1 (ga K x) fs ms && ((os.all fun y => decide (ga K x ≠ γ y) && decide (PySem.W.mroIn K1 (ga K x) (.ref (γ y)) = some false)) && neB K1 (ga K x))) = true from q)).2).1 y hy)
  have q1 := of_decide_eq_true q1
  have q2 := of_decide_eq_true q2
  rw [e] at q1 q2
  exact ⟨q1, s1.mro q2⟩
theorem me_of (c : Hu.SaysS its fns frees ex K) (j i : Nat) {x m qual : Str} {st : Stmt} {ds : List V} {it : Itm} (hf : fns[j]? = some (mFn x m qual st ds)) (hi : its[i]? = some it) (hx : it.x = x) : ∃ a fd, FunD K m qual (defArgs st) (defBody st) (defScope st) ds [] a fd ∧ PySem.W.findIn K (.ref (ga K x)) m = some (some (.ref a)) := by
  obtain ⟨a, fd, F, _, hm, _⟩ := c.fn j _ hf ⟨_, _, hi, hx⟩
  exact ⟨a, fd, F, hm m rfl rfl⟩
theorem pr_of (c : Hu.SaysS its fns frees ex K) (j i : Nat) {x m qual : Str} {st : Stmt} {it : Itm} (hf : fns[j]? = some (pFn x m qual st)) (hi : its[i]? = some it) (hx : it.x = x) : ∃ a fd, FunD K m qual (defArgs st) (defBody st) (defScope st) [] [] a fd ∧ ∃ p, PropOf K (ga K x) m p a := by
  obtain ⟨a, fd, F, _, _, hp⟩ := c.fn j _ hf ⟨_, _, hi, hx⟩
  exact ⟨a, fd, F, hp m rfl rfl⟩
theorem ne_of (c : Hu.SaysS its fns frees ex K) (j : Nat) {x : Str} {fs ms others : List Str} (hi : its[j]? = some (mkC x fs ms others)) : PySem.W.findIn K (.ref (ga K x)) "__ne__" = some (some (.builtin "object.__ne__")) := by
  obtain ⟨γ, hγ, _⟩ := c.it
  obtain ⟨_, K1, s1, q⟩ := hγ j _ hi
  exact s1.find (eqO_ok (ba (ba (show (clsB K1 (ga K x) fs ms && ((others.all fun y => decide (ga K x ≠ γ y) && decide (PySem.W.mroIn K1 (ga K x) (.ref (γ y)) = some false)) && neB K1 (ga K x))) = true from q)).2).2)
theorem pe_of (X : K.In h) (G : h.Ns mainGlobals mg) (c : Hu.SaysS its fns frees ex K) (j : Nat) (hi : its[j]? = some mkP) : ∃ E : X0 K mg "PressError" ve, E.C = ga K "PressError" := by
  obtain ⟨γ, hγ, _⟩ := c.it
  obtain ⟨_, K1, s1, q⟩ := hγ j _ hi
  obtain ⟨q1, q⟩ := ba (show (comB K1 && (oexB K1 (ga K "PressError") ve5 && (excB K1 (ga K "PressError") [] && PySem.W.excIn K1 (ga K "PressError") ve5 "ValueError.__new__"))) = true from q)
  obtain ⟨q2, q⟩ := ba q
  obtain ⟨q3, q4⟩ := ba q
  exact ⟨⟨ga K "PressError", PySem.W.mg_of X G (c.glo j _ hi), s1.xc (xc_ok q1 q2 q3 rfl), s1.exc q4⟩, rfl⟩
theorem ex_of (X : K.In h) (G : h.Ns mainGlobals mg) (c : Hu.SaysS its fns frees ex K) (j i : Nat) {x : Str} (hi : its[j]? = some (mkX x)) (hp : its[i]? = some mkP) (E : X0 K mg "PressError" ve) (eE : E.C = ga K "PressError") : ∃ F : X0 K mg x (.ref E.C :: ve), F.C = ga K x := by
  obtain ⟨γ, hγ, _⟩ := c.it
  obtain ⟨_, K1, s1, q⟩ := hγ j _ hi
  have e : γ "PressError" = ga K "PressError" := (hγ i _ hp).1
  obtain ⟨q1, q⟩ := ba (show (comB K1 && (oexB K1 (ga K x) (.ref (γ "PressError") :: ve5) && (excB K1 (ga K x) [] && PySem.W.excIn K1 (ga K x) ve5 "ValueError.__new__"))) = true from q)
  obtain ⟨q2, q⟩ := ba q
  obtain ⟨q3, q4⟩ := ba q
  rw [e, ← eE] at q2
  exact ⟨⟨ga K x, PySem.W.mg_of X G (c.glo j _ hi), s1.xc (xc_ok q1 q2 q3 rfl), s1.exc q4⟩, rfl⟩
theorem ex1_of (X : K.In h) (G : h.Ns mainGlobals mg) (c : Hu.SaysS its fns frees ex K) (j i k : Nat) {x qual : Str} {st : Stmt} {ps fs : List Str} (hi : its[j]? = some (mkX1 x fs)) (hp : its[i]? = some mkP) (hf : fns[k]? = some (mFn x "__init__" qual st [])) (E : X0 K mg "PressError" ve) (eE : E.C = ga K "PressError")
    (hb : ∀ (kV doc pm : Value) (an : Option Addr) (cdv ct : Value) (us : List Value), us.length = ps.length → bindArgs (PySem.W.fnOf "__init__" qual (defArgs st) (defBody st) (defScope st) .none kV doc pm an cdv ct) ⟨us, []⟩ = pure (ps.zip us)) : ∃ F : X1 K mg x qual st ps fs (.ref E.C :: ve), F.C = ga K x := by
  obtain ⟨af, fd, F, hm⟩ := me_of c k j hf hi rfl
  obtain ⟨γ, hγ, _⟩ := c.it
  obtain ⟨_, K1, s1, q⟩ := hγ j _ hi
  have e : γ "PressError" = ga K "PressError" := (hγ i _ hp).1
  obtain ⟨q, r⟩ := ba (show ((comB K1 && (oexB K1 (ga K x) (.ref (γ "PressError") :: ve5) && excB K1 (ga K x) fs)) && (eqO (PySem.W.findIn K1 (.ref (ga K x)) "__init__") (some (some (.ref (ma K1 (ga K x) "__init__")))) && decide (PySem.W.typeIn K1 (.ref (ma K1 (ga K x) "__init__")) = some (.type "function")))) = true from q)
  obtain ⟨q1, q⟩ := ba q
  obtain ⟨q2, q3⟩ := ba q
  obtain ⟨r1, r2⟩ := ba r
  have i1 := s1.find (eqO_ok r1)
  have i2 := hm.symm.trans i1
  have ea : af = ma K1 (ga K x) "__init__" := by cases i2; rfl
  rw [e, ← eE] at q2
  exact ⟨⟨ga K x, PySem.W.mg_of X G (c.glo j _ hi), s1.xc (xc_ok q1 q2 q3 rfl), af, fd, F, hm, by rw [ea]; exact s1.typ (of_decide_eq_true r2), FunD.bindsN F hb⟩, rfl⟩
theorem law_fn (X : K.In h) (G : h.Ns mainGlobals mg) (V : Hv.SaysV its fns frees ex cons K) {fa : Addr} (hfa : mg ("law" : Str) = some (.ref fa)) : ∃ fd : FuncData, (∀ (s : Shared) (v : Value), BindsTo s fd ⟨[v], []⟩ [("_law_script", v)]) ∧ ∀ (g c t : Addr) (o : Obj) (fg : FuncData), mg ("_law_refusals_right" : Str) = some (.ref g) → h.get? g = some o → o.data = .func fg → fg.code = .ref c → Gd.Asks P w K mg CX0 10 fa c t fd "_law_script" (sp_lawT K t) := by
  have c := V.s
  obtain ⟨D_is_whole, _⟩ := dn_of (st := s_is_whole) (ps := ["thing"]) X G c 0 (x := "is_whole") rfl rfl fun _ _ _ _ _ _ us hl => match us, hl with | [_], _ => rfl
  obtain ⟨D_is_sequence, _⟩ := dn_of (st := s_is_sequence) (ps := ["thing"]) X G c 1 (x := "is_sequence") rfl rfl fun _ _ _ _ _ _ us hl => match us, hl with | [_], _ => rfl
  obtain ⟨D_is_couple, _⟩ := dn_of (st := s_is_couple) (ps := ["thing"]) X G c 2 (x := "is_couple") rfl rfl fun _ _ _ _ _ _ us hl => match us, hl with | [_], _ => rfl
  obtain ⟨D_is_side, _⟩ := dn_of (st := s_is_side) (ps := ["thing"]) X G c 3 (x := "is_side") rfl rfl fun _ _ _ _ _ _ us hl => match us, hl with | [_], _ => rfl
  obtain ⟨D_form_value, _⟩ := dn_of (st := s_form_value) (ps := ["form", "numbers"]) X G c 4 (x := "form_value") rfl rfl fun _ _ _ _ _ _ us hl => match us, hl with | [_, _], _ => rfl
  obtain ⟨D_check_system, _⟩ := dn_of (st := s_check_system) (ps := ["system"]) X G c 5 (x := "check_system") rfl rfl fun _ _ _ _ _ _ us hl => match us, hl with | [_], _ => rfl
  obtain ⟨D_columns_of, _⟩ := dn_of (st := s_columns_of) (ps := ["system"]) X G c 6 (x := "columns_of") rfl rfl fun _ _ _ _ _ _ us hl => match us, hl with | [_], _ => rfl
  obtain ⟨D_figures_of, _⟩ := dn_of (st := s_figures_of) (ps := ["column"]) X G c 7 (x := "figures_of") rfl rfl fun _ _ _ _ _ _ us hl => match us, hl with | [_], _ => rfl
  obtain ⟨D_added, _⟩ := dn_of (st := s_added) (ps := ["sums", "column", "figure"]) X G c 8 (x := "added") rfl rfl fun _ _ _ _ _ _ us hl => match us, hl with | [_, _, _], _ => rfl
  obtain ⟨D_parities, _⟩ := dn_of (st := s_parities) (ps := ["sums"]) X G c 9 (x := "parities") rfl rfl fun _ _ _ _ _ _ us hl => match us, hl with | [_], _ => rfl
  obtain ⟨D_start_of_carries, _⟩ := dn_of (st := s_start_of_carries) (ps := ["system"]) X G c 10 (x := "start_of_carries") rfl rfl fun _ _ _ _ _ _ us hl => match us, hl with | [_], _ => rfl
  obtain ⟨D_moves_of, _⟩ := dn_of (st := s_moves_of) (ps := ["system"]) X G c 11 (x := "moves_of") rfl rfl fun _ _ _ _ _ _ us hl => match us, hl with | [_], _ => rfl
  obtain ⟨D_next_rows, _⟩ := dn_of (st := s_next_rows) (ps := ["moves", "carry_row"]) X G c 12 (x := "next_rows") rfl rfl fun _ _ _ _ _ _ us hl => match us, hl with | [_, _], _ => rfl
  obtain ⟨D_whole, _⟩ := dn_of (st := s_whole) (ps := ["system"]) X G c 13 (x := "whole") rfl rfl fun _ _ _ _ _ _ us hl => match us, hl with | [_], _ => rfl
  obtain ⟨D_numbers_of, _⟩ := dn_of (st := s_numbers_of) (ps := ["ways", "row", "many"]) X G c 14 (x := "numbers_of") rfl rfl fun _ _ _ _ _ _ us hl => match us, hl with | [_, _, _], _ => rfl
  obtain ⟨D_answer_fault, _⟩ := dn_of (st := s_answer_fault) (ps := ["system", "numbers"]) X G c 15 (x := "answer_fault") rfl rfl fun _ _ _ _ _ _ us hl => match us, hl with | [_, _], _ => rfl
  obtain ⟨D__law_source, _⟩ := dn_of (st := s__law_source) (ps := ["_law_script"]) X G c 16 (x := "_law_source") rfl rfl fun _ _ _ _ _ _ us hl => match us, hl with | [_], _ => rfl
  obtain ⟨D__law_take, _⟩ := dn_of (st := s__law_take) (ps := ["_law_source_here", "_law_many"]) X G c 17 (x := "_law_take") rfl rfl fun _ _ _ _ _ _ us hl => match us, hl with | [_, _], _ => rfl
  obtain ⟨D__law_value, _⟩ := dn_of (st := s__law_value) (ps := ["_law_form", "_law_numbers"]) X G c 18 (x := "_law_value") rfl rfl fun _ _ _ _ _ _ us hl => match us, hl with | [_, _], _ => rfl
  obtain ⟨D__law_made_system, _⟩ := dn_of (st := s__law_made_system) (ps := ["_law_source_here", "_law_equations", "_law_factor", "_law_numbers"]) X G c 19 (x := "_law_made_system") rfl rfl fun _ _ _ _ _ _ us hl => match us, hl with | [_, _, _, _], _ => rfl
  obtain ⟨D__law_either, _⟩ := dn_of (st := s__law_either) (ps := ["_law_source_here", "_law_thing"]) X G c 20 (x := "_law_either") rfl rfl fun _ _ _ _ _ _ us hl => match us, hl with | [_, _], _ => rfl
  obtain ⟨D__law_handed, _⟩ := dn_of (st := s__law_handed) (ps := ["_law_source_here", "_law_system"]) X G c 21 (x := "_law_handed") rfl rfl fun _ _ _ _ _ _ us hl => match us, hl with | [_, _], _ => rfl
  obtain ⟨D__law_is_whole, _⟩ := dn_of (st := s__law_is_whole) (ps := ["_law_thing"]) X G c 22 (x := "_law_is_whole") rfl rfl fun _ _ _ _ _ _ us hl => match us, hl with | [_], _ => rfl
  obtain ⟨D__law_wide_system, _⟩ := dn_of (st := s__law_wide_system) (ps := ["_law_source_here"]) X G c 23 (x := "_law_wide_system") rfl rfl fun _ _ _ _ _ _ us hl => match us, hl with | [_], _ => rfl
  obtain ⟨D__law_odd_equation, _⟩ := dn_of (st := s__law_odd_equation) (ps := ["_law_source_here", "_law_form", "_law_first"]) X G c 24 (x := "_law_odd_equation") rfl rfl fun _ _ _ _ _ _ us hl => match us, hl with | [_, _, _], _ => rfl
  obtain ⟨D__law_refused, _⟩ := dn_of (st := s__law_refused) (ps := ["_law_call", "_law_at", "_law_what"]) X G c 25 (x := "_law_refused") rfl rfl fun _ _ _ _ _ _ us hl => match us, hl with | [_, _, _], _ => rfl
  obtain ⟨D__law_spoilt, _⟩ := dn_of (st := s__law_spoilt) (ps := ["_law_source_here", "_law_system"]) X G c 26 (x := "_law_spoilt") rfl rfl fun _ _ _ _ _ _ us hl => match us, hl with | [_, _], _ => rfl
  obtain ⟨D__law_refusals_right, _⟩ := dn_of (st := s__law_refusals_right) (ps := ["_law_source_here", "_law_system"]) X G c 27 (x := "_law_refusals_right") rfl rfl fun _ _ _ _ _ _ us hl => match us, hl with | [_, _], _ => rfl
  obtain ⟨D__law_due_fault, _⟩ := dn_of (st := s__law_due_fault) (ps := ["_law_system", "_law_numbers"]) X G c 28 (x := "_law_due_fault") rfl rfl fun _ _ _ _ _ _ us hl => match us, hl with | [_, _], _ => rfl
  obtain ⟨D__law_faults_right, _⟩ := dn_of (st := s__law_faults_right) (ps := ["_law_source_here"]) X G c 29 (x := "_law_faults_right") rfl rfl fun _ _ _ _ _ _ us hl => match us, hl with | [_], _ => rfl
  obtain ⟨E_PressError, e_PE⟩ := pe_of X G c 31 rfl
  obtain ⟨E_BadEquation, _⟩ := ex1_of X G c 32 31 31 (x := "BadEquation") (qual := "BadEquation.__init__") (st := s_BadEquation_init) (ps := ["self", "at", "what"]) (fs := ["at", "what"]) rfl rfl rfl E_PressError e_PE fun _ _ _ _ _ _ us hl => match us, hl with | [_, _, _], _ => rfl
  obtain ⟨D_law, _⟩ := dn_of (st := s_law) (ps := ["_law_script"]) X G c 30 (x := "law") rfl rfl fun _ _ _ _ _ _ us hl => match us, hl with | [_], _ => rfl
  have e_law : fa = D_law.f := by
    have e := hfa.symm.trans D_law.m
    exact Value.ref.inj (Option.some.inj e)
  subst e_law
  have fr : ∀ {x : Str}, x ∈ frees → mg x = none := fun hx => fr_of X G c hx
  have T : TB mg := ⟨fr (by decide +kernel), fr (by decide +kernel), fr (by decide +kernel), fr (by decide +kernel), fr (by decide +kernel), fr (by decide +kernel), fr (by decide +kernel), fr (by decide +kernel), fr (by decide +kernel), fr (by decide +kernel), fr (by decide +kernel), fr (by decide +kernel), fr (by decide +kernel), fr (by decide +kernel), fr (by decide +kernel), fr (by decide +kernel), fr (by decide +kernel), fr (by decide +kernel), fr (by decide +kernel), fr (by decide +kernel)⟩
  have N_ValueError : mg "ValueError" = none := fr (by decide +kernel)
  have b := FunD.bindsA (ps := ["_law_script"]) D_law.F fun _ _ _ _ _ _ us hl => match us, hl with | [_], _ => rfl
  exact ⟨D_law.fd, fun s v => b s [v] rfl, fun g cA P0 o fg hg ho hd hcd base _ _ TMB GS => by
    have HCD : D__law_refusals_right.fd.code = .ref cA := by
      obtain ⟨_, _, _, _, _, _, _, _, _, _, _, lk, _⟩ := D__law_refusals_right.F.ex
      have eg : g = D__law_refusals_right.f := Value.ref.inj (Option.some.inj (hg.symm.trans D__law_refusals_right.m))
      have gx := X _ _ lk
      rw [← eg, ho] at gx
      cases gx
      cases hd
      exact hcd
    have G__law_source := ok_source (P := P) (w := w) (base := base) D__law_source.F T
    have G__law_take := ok_takeD (P := P) (w := w) (base := base) D__law_take T
    have G_BadEquation_init := ok_BadEquation_init (P := P) (w := w) (base := base) E_PressError E_BadEquation
    have G_is_sequence := ok_is_sequence (P := P) (w := w) (base := base) D_is_sequence T
    have G_is_whole := ok_is_whole (P := P) (w := w) (base := base) D_is_whole T
    have G_is_side := ok_is_side (P := P) (w := w) (base := base) D_is_side D_is_whole G_is_whole D_is_sequence G_is_sequence T
    have G_is_couple := ok_is_couple (P := P) (w := w) (base := base) D_is_couple D_is_sequence G_is_sequence T
    have G_check_system := ok_check_system (P := P) (w := w) (base := base) D_check_system D_is_sequence G_is_sequence D_is_side G_is_side D_is_whole G_is_whole D_is_couple G_is_couple T
    have GX_check_system := ok_check_systemX (P := P) (w := w) (base := base) E_PressError E_BadEquation G_BadEquation_init D_check_system D_is_sequence G_is_sequence D_is_side G_is_side D_is_whole G_is_whole D_is_couple G_is_couple T
    have GX_whole := ok_wholeX (P := P) (w := w) (base := base) E_PressError E_BadEquation D_whole D_check_system GX_check_system T
    have G__law_either := ok__law_either (P := P) (w := w) (base := base) D__law_either D__law_take G__law_take T
    have G__law_handed := ok__law_handed (P := P) (w := w) (base := base) D__law_handed D__law_either G__law_either T
    have G__law_odd_equation := ok__law_odd_equation (P := P) (w := w) (base := base) D__law_odd_equation D__law_take G__law_take T
    have G__law_spoilt := ok__law_spoilt (P := P) (w := w) (base := base) D__law_spoilt D__law_take G__law_take D__law_either G__law_either D__law_odd_equation G__law_odd_equation T
    have G__law_refusals_right := ok__law_refusals_right (P := P) (w := w) (base := base) GS E_PressError E_BadEquation N_ValueError D__law_refused D_check_system D_whole GX_check_system GX_whole D__law_refusals_right D__law_take G__law_take D__law_spoilt G__law_spoilt T HCD TMB
    have G__law_value := ok__law_value (P := P) (w := w) (base := base) D__law_value T
    have G_form_value := ok_form_value (P := P) (w := w) (base := base) D_form_value T
    have G__law_is_whole := ok__law_is_whole (P := P) (w := w) (base := base) D__law_is_whole T
    have G_answer_fault := ok_answer_fault (P := P) (w := w) (base := base) D_answer_fault D_is_sequence G_is_sequence D_is_whole G_is_whole D_form_value G_form_value T
    have G__law_due_fault := ok__law_due_fault (P := P) (w := w) (base := base) D__law_due_fault D__law_is_whole G__law_is_whole D__law_value G__law_value T
    have G__law_made_system := ok__law_made_system (P := P) (w := w) (base := base) D__law_made_system D__law_take G__law_take D__law_value G__law_value T
    have G__law_wide_system := ok__law_wide_system (P := P) (w := w) (base := base) D__law_wide_system D__law_take G__law_take T
    have G__law_faults_right := ok__law_faults_right (P := P) (w := w) (base := base) GS D__law_faults_right D__law_take G__law_take D__law_made_system G__law_made_system D_answer_fault G_answer_fault D__law_handed G__law_handed D__law_due_fault G__law_due_fault T
    have G_law := ok_law (P := P) (w := w) (base := base) GS D_law D__law_source G__law_source D__law_wide_system G__law_wide_system D__law_handed G__law_handed D_check_system G_check_system D__law_faults_right G__law_faults_right D__law_refusals_right G__law_refusals_right T
    exact G_law⟩
end
end My
open PySem PySem.W PySem.Calls PyProof.Rows
set_option maxRecDepth 100000 in
set_option maxHeartbeats 0 in
theorem PySem.Challenge.cw_pressedwords_k29_systems_and_answers_ref_holds : PySem.Challenge.rw_pressedwords_k29_systems_and_answers_ref.Holds := by
  w_on; o_law
  refine HandSHeadRun.head_any (r := OpenLaw.row PySem.Challenge.rw_pressedwords_k29_systems_and_answers_ref) (q := view (OpenLaw.row PySem.Challenge.rw_pressedwords_k29_systems_and_answers_ref).prog [36, 39]) (H := My.hk) (ob := My.ob) (M := 12500) (loose := My.loose) (d := HandSHeadRun.topDef (OpenLaw.row PySem.Challenge.rw_pressedwords_k29_systems_and_answers_ref).prog 39) (kwd := []) My.ob_eq
    (by kernel_rfl) (fun s => by kernel_rfl) My.run (by kernel_rfl) (by kernel_rfl) (by kernel_rfl) (by rfl) (by first | assumption | decide +kernel) (by decide +kernel) ⟨rfl, rfl, rfl, rfl, rfl, by decide +kernel⟩ ?hw ?hc
  case hw => w_witness2
  case hc =>
    refine Gd.walk_ofGT (l := PySem.Challenge.rw_pressedwords_k29_systems_and_answers_ref) (n := 63) (k := 10) (x := "_law_script") (y := "_law_refusals_right") (CX := L2.CX0) rfl (by decide) (by kernel_rfl) ⟨rfl, by decide, by decide⟩ (by kernel_rfl) ?F (fun _ _ _ _ z => z)
    intro w mg fa h Y G hmg0
    obtain ⟨gs, K, KX, c⟩ := Y
    have hmg : mg ("law" : PySem.Str) = some (.ref fa) := by
      have e : (HandSHeadRun.topDef (OpenLaw.row PySem.Challenge.rw_pressedwords_k29_systems_and_answers_ref).prog 39).name = ("law" : PySem.Str) := by kernel_rfl
      rw [← e]
      exact hmg0
    obtain ⟨fd, hb, hF⟩ := My.law_fn (P := (PySem.Challenge.rw_pressedwords_k29_systems_and_answers_ref).prog) (w := w) KX G c.v hmg
    exact ⟨gs, K, fd, fun t => My.sp_lawT K t, KX, c.nt, hb, fun t H a ns hl ht hS => ⟨a, ns, rfl, hS, ht, fun _ => rfl⟩, hF⟩
