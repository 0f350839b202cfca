import PyProof.Rows.All
import Wide.All
import OpenK.AllK
import Wide.FinOn
import HandS.Base
import HandS.Call
import HandS.List
import HandS.Comp
import HandS.Ends
import HandS.Words
import HandS.WordsList
import HandS.Wide
import HandS.Codes
import HandS.Defaults
import HandS.Iter
import HandS.Walk
import HandS.IsInst
import HandS.TupAny
import HandS.Conv
import HandS.TryOnly
import PyProof.EnumMake
import PyProof.Rows.EnumRows
import HandS.TupMul
import HandS.Deep
import HandS.Text
import HandS.SortInts
import HandS.Replace
import HandS.Zip
import KE.GoesEnum
import HandS.Dict
import KE.DataMinMax
import HandS.SortKw
import HandS.GenYield
import HandS.GenList
import HandS.OwnEq
import PyProof.InstNe
import PyProof.NeKinds
import PyProof.StrOps2
import HandS.Flow
import HandS.Exc
import KE.KStateDown
import HandS.ExcInit
import HandS.ExcIs
import HandS.Head0
import HandS.Head1
import HandS.Head2
import HandS.HeadEnd
import HandS.HeadHook1
import HandS.HeadHook2
import HandS.Property
import PySem.Challenge.RW_pressedwords_k99_results_equal_by_all_at
set_option Elab.async false
set_option linter.all false
set_option maxRecDepth 100000
set_option maxHeartbeats 2000000
/-! a list comprehension of any number of clauses -/
namespace Lcn
open PySem PySem.Spec PyProof.Rows L2
section
variable {elt tg iter tg1 iter1 : Expr} {ifs ifs1 : List Expr} {gens : List Comprehension} {scope : Scope} {pos : Pos} {d : Nat} {it acc : Value} {env : Env}
theorem turn_mid (hd : gens[d]? = some ⟨tg, iter, ifs, 0⟩) (hd1 : gens[d + 1]? = some ⟨tg1, iter1, ifs1, 0⟩) :
    compTurn (.ListComp elt gens scope pos) d it acc env = (do
      standAt iter.pos
      match ← pyNext it with
      | none => pure (.done .next)
      | some v =>
        letOwnedTupleGo tg it v
        assign tg env v
        let mut ok := true
        for c in ifs do
          if ok then ok ← isTrue c env (eval c env)
        if ok then
          let x ← eval iter1 env
          standAt iter1.pos
          let x ← foldedSetIterable iter1 env x
          let _ ← runOwn (.compStart (.ListComp elt gens scope pos) (d + 1) (← holding [x] (pyIter x)) acc env) env
        again (.compLoop (.ListComp elt gens scope pos) d it acc env)) := by
  unfold compTurn
  simp only [hd, hd1]
  rfl
theorem turn_in (hd : gens[d]? = some ⟨tg, iter, ifs, 0⟩) (hd1 : gens[d + 1]? = none) :
    compTurn (.ListComp elt gens scope pos) d it acc env = (do
      standAt iter.pos
      match ← pyNext it with
      | none => pure (.done .next)
      | some v =>
        letOwnedTupleGo tg it v
        assign tg env v
        let mut ok := true
        for c in ifs do
          if ok then ok ← isTrue c env (eval c env)
        if ok then
          (do let _ ← call (.builtin "list.append") [acc, ← eval elt env])
        again (.compLoop (.ListComp elt gens scope pos) d it acc env)) := by
  unfold compTurn
  simp only [hd, hd1]
  rfl
variable {prog : Program} {w : World} {A : Around} {s : Shared} {R : Result → Shared → Prop}
abbrev F0 : Value → Shared → Prop := fun _ _ => False
/-- what stands behind a clause's tests, to Z: the next clause, whole; or the element, appended -/
def Body (prog : Program) (w : World) (A : Around) (elt : Expr) (gens : List Comprehension) (scope : Scope) (pos : Pos) (acc : Value) (env : Env) (d : Nat) (Z : Shared → Prop) (s : Shared) : Prop :=
  match gens[d]? with
  | some g' => g'.is_async = 0 ∧ (∀ x, foldedSetIterable g'.iter env x = pure x) ∧ wpAny (model prog w) A (eval g'.iter env) (fun x s₄ => wpAny (model prog w) A (pyIter x) (fun i s₅ =>
      codeAny (model prog w) A (.compStart (.ListComp elt gens scope pos) d i acc env) (fun r s' => match r with
        | .ok _ => Z s'
        | .error _ => False) s₅) F0 s₄) F0 s
  | none => wpAny (model prog w) A (eval elt env) (fun x s₄ => wpAny (model prog w) A (call (.builtin "list.append") [acc, x]) (fun _ s₅ => Z s₅) F0 s₄) F0 s
/-- the loop of the clause d, by a word I that falls -/
theorem loop_rule (hsync : ∀ g ∈ gens, g.is_async = 0) (hd : gens[d]? = some ⟨tg, iter, ifs, 0⟩) (I : Nat → Shared → Prop)
    (turn : ∀ n s, I n s → wpAny (model prog w) A (pyNext it) (fun r s₁ => match r with
      | none => R (.ok .next) s₁
      | some v => wpAny (model prog w) A (letOwnedTupleGo tg it v) (fun _ s₁' => wpAny (model prog w) A (assign tg env v) (fun _ s₂ =>
          wpAny (model prog w) A (forIn ifs true fun c r => if r = true then do let ok ← isTrue c env (eval c env); pure (ForInStep.yield ok) else pure (ForInStep.yield r)) (fun ok s₃ =>
            if ok = true then Body prog w A elt gens scope pos acc env (d + 1) (fun s' => ∃ m, m < n ∧ I m s') s₃ else ∃ m, m < n ∧ I m s₃) F0 s₂) F0 s₁') F0 s₁) F0 s)
    (n : Nat) (h : I n s) : codeAny (model prog w) A (.compLoop (.ListComp elt gens scope pos) d it acc env) R s := by
  refine codeAny_loop rfl I (fun n s hI => ?_) n h
  show wpAny _ A ((compTurn (.ListComp elt gens scope pos) d it acc env).onRaise _) _ _ s
  refine wpAny_noted ?_
  cases hn : gens[d + 1]? with
  | none =>
    rw [turn_in hd hn]
    refine wpAny_bind (wpAny_standAt (wpAny_bind (thnF (turn n s hI) fun r s₁ h₁ => ?_)))
    cases r with
    | none => exact wpAny_pure h₁
    | some v =>
      refine wpAny_bind (thnF h₁ fun _ s₁' h₁' => wpAny_bind (thnF h₁' fun _ s₂ h₂ => wpAny_bind (thnF h₂ fun ok s₃ h₃ => ?_)))
      cases ok with
      | false => exact wpAny_pure ⟨rfl, h₃⟩
      | true =>
        have h₃ : Body prog w A elt gens scope pos acc env (d + 1) (fun s' => ∃ m, m < n ∧ I m s') s₃ := h₃
        unfold Body at h₃
        rw [hn] at h₃
        exact wpAny_bind (wpAny_bind (thnF h₃ fun x s₄ h₄ => wpAny_bind (thnF h₄ fun _ s₅ h₅ => wpAny_pure (wpAny_pure ⟨rfl, h₅⟩))))
  | some g' =>
    obtain ⟨tg1, iter1, ifs1, asy⟩ := g'
    by_cases ha : asy = 0
    · subst ha
      rw [turn_mid hd hn]
      refine wpAny_bind (wpAny_standAt (wpAny_bind (thnF (turn n s hI) fun r s₁ h₁ => ?_)))
      cases r with
      | none => exact wpAny_pure h₁
      | some v =>
        refine wpAny_bind (thnF h₁ fun _ s₁' h₁' => wpAny_bind (thnF h₁' fun _ s₂ h₂ => wpAny_bind (thnF h₂ fun ok s₃ h₃ => ?_)))
        cases ok with
        | false => exact wpAny_pure ⟨rfl, h₃⟩
        | true =>
          have h₃ : Body prog w A elt gens scope pos acc env (d + 1) (fun s' => ∃ m, m < n ∧ I m s') s₃ := h₃
          unfold Body at h₃
          rw [hn] at h₃
          obtain ⟨_, hs, h₃⟩ := h₃
          refine wpAny_bind (thnF h₃ fun x s₄ h₄ => ?_)
          refine wpAny_bind (wpAny_standAt (wpAny_bind (wpAny_of_eq (hs x) (wpAny_bind (wpAny_holding (thnF h₄ fun i1 s₅ h₅ => ?_))))))
          refine wpAny_bind (wpAny_runOwn ?_)
          rw [Around.mark_none]
          refine codeAny_mono h₅ fun r s' hr => ?_
          cases r with
          | ok f =>
            first
              | exact wpAny_pure ⟨rfl, hr⟩
              | exact wpAny_bind (wpAny_pure (wpAny_pure ⟨rfl, hr⟩))
          | error e => exact hr.elim
    · exact absurd (hsync _ (List.mem_of_getElem? hn)) ha
/-- a clause's start: its source is asked for its iterator once more, or not -/
theorem start_rule (hd : gens[d]? = some ⟨tg, iter, ifs, 0⟩) (h0 : codeAny (model prog w) A (.compLoop (.ListComp elt gens scope pos) d it acc env) R s)
    (h : wpAny (model prog w) A (pyIter it) (fun it' s' => codeAny (model prog w) A (.compLoop (.ListComp elt gens scope pos) d it' acc env) R s') (notedBy (model prog w) A env fun x s' => R (.error x) s') s) :
    codeAny (model prog w) A (.compStart (.ListComp elt gens scope pos) d it acc env) R s := by
  refine codeAny_of_tree ?_
  show wpAny _ _ ((compStart (.ListComp elt gens scope pos) d it acc env).onRaise _) _ _ s
  refine wpAny_notedAt ?_
  unfold compStart
  have e1 : (clausesOf (.ListComp elt gens scope pos))[d]? = some ⟨tg, iter, ifs, 0⟩ := hd
  rw [e1]
  show wpAny _ _ (ask >>= _) _ _ s
  refine wpAny_bind (wpAny_askSetting (wpAny_ite ?_))
  split
  · first
      | exact wpAny_bind (wpAny_pure (wpAny_pure (And.intro rfl h0)))
      | exact wpAny_pure (And.intro rfl h0)
  · first
      | exact wpAny_bind (wpAny_rule (wpAny_bind (wpAny_standAt (wpAny_bind (wpAny_mono h (fun it' s' h' => wpAny_pure (And.intro rfl h')) fun _ _ x => x)))))
      | (refine wpAny_bind (wpAny_rule ?_); show wpAny _ _ (standAt iter.pos >>= _) _ _ s; exact wpAny_bind (wpAny_standAt (wpAny_bind (wpAny_mono h (fun it' s' h' => wpAny_pure (And.intro rfl h')) fun _ _ x => x))))
end
section
variable {X : Cx} {elt : Expr} {gens : List Comprehension} {scope : Scope} {pos : Pos}
/-- what a block's rest is to reach, the list being built at D -/
abbrev TB := Addr → L2.St → Hp → (Hp → Prop) → Prop
/-- the element, appended -/
def tEnd (te : TE) : TB := fun D σ H Nx => te σ H fun y H' => ∃ acc, H' D = some (.lst acc) ∧ acc.length < sizeLine ∧ Nx (upd H' D (.lst (acc ++ [y])))
/-- a clause's turns, from H on, till Z -/
def tTurns (g : TG) (tt : TT) (t1 : TB) (vs : List Nat) (J : It) (D : Addr) (σ : L2.St) (Z : Hp → Prop) (H : Hp) : Prop :=
  ∃ W : Nat → Nat → Hp → Prop, (∃ m, W 0 m H) ∧ ∀ i m H, W i m H → (J.stop i H ∧ Z H) ∨
    (J.go i H ∧ ∃ Nx : Hp → Prop, (∀ H', Nx H' → ∃ m', m' < m ∧ W (i + 1) m' H') ∧ ∀ x H', J.yld i H x H' → g x (wipe σ vs) H' fun σ2 H2 => wipe σ2 vs = wipe σ vs ∧ tt σ2 H2 fun b H3 => if b = true then t1 D σ2 H3 Nx else Nx H3)
/-- a clause behind another -/
def tCl (wi : TI) (g : TG) (tt : TT) (t1 : TB) (vs : List Nat) : TB := fun D σ H Nx => wi σ H fun J H1 => tTurns g tt t1 vs J D σ Nx H1
/-- the whole -/
def tLcN (wi : TI) (g : TG) (tt : TT) (t1 : TB) (vs : List Nat) : TE := fun σ H Q => wi σ H fun J H1 => ∀ D, H1 D = none → tTurns g tt t1 vs J D σ (fun H' => Q (.ref D) H') (upd H1 D (.lst []))
/-- slots that know, but for vs, what the others know -/
def Kn (vs : List Nat) (σ σ' : L2.St) : Prop := σ'.length = σ.length ∧ ∀ (j : Nat) v, (wipe σ vs)[j]? = some (some v) → σ'[j]? = some (some v)
structure PB (X : Cx) (elt : Expr) (gens : List Comprehension) (scope : Scope) (pos : Pos) (d : Nat) (vs : List Nat) (t : TB) : Prop where
  run : ∀ (D : Addr) (pins : List (Addr × Obj)) (s : Shared) (σ : L2.St) (H : Hp) (Nx : Hp → Prop) (Z : Shared → Prop), Inv X pins σ H s → t D σ H Nx →
    (∀ s' σ' H', Inv X pins σ' H' s' → Kn vs σ σ' → Nx H' → Z s') → Body X.prog X.w X.A elt gens scope pos (.ref D) X.env d Z s
theorem pb_end {d : Nat} {te : TE} (hx : X.xe = fun _ _ => False) (hd : gens[d]? = none) (he : PE X elt te) : PB X elt gens scope pos d [] (tEnd te) := by
  refine ⟨fun D pins s σ H Nx Z I h hZ => ?_⟩
  unfold Body
  rw [hd]
  have r := he.run pins s σ H _ I h
  rw [hx] at r
  refine thnF r fun z s1 ⟨yv, H1, I1, r1, acc, hD, hz, nx⟩ => ?_
  exact app_ok I1 hD hz r1 fun s2 I2 => hZ s2 σ _ I2 ⟨rfl, fun j v e => e⟩ nx
variable {tg iter : Expr} {ifs : List Expr} {d : Nat} {g : TG} {tt : TT} {t1 : TB} {vs vs1 : List Nat} {J : It} {fp : List Addr} {it : Addr} {tn : Nat → Heap → Prop} {pins : List (Addr × Obj)} {s : Shared} {σ : L2.St} {H : Hp} {D : Addr} {S : Hp → Prop} {R : Result → Shared → Prop}
theorem loop_ok (hx : X.xe = fun _ _ => False) (hc : X.calm = true) (hsync : ∀ g ∈ gens, g.is_async = 0) (hd : gens[d]? = some ⟨tg, iter, ifs, 0⟩) (pg : PG X tg g) (pt : PTs X ifs tt)
    (hb : PB X elt gens scope pos (d + 1) vs1 t1) (hv : ∀ i ∈ vs1, i ∈ vs) (T : Turn X.prog X.w X.K tg J fp it tn)
    (stat : ∀ {σ' : L2.St} {H' : Hp} {s' : Shared}, Inv X pins σ' H' s' → (∀ b ∈ fp, H' b = none) → ∀ b ∈ fp, FpOk X pins H' b)
    (I : Inv X pins (wipe σ vs) H s) (st : tn 0 s.heap) (nf : ∀ b ∈ fp, H b = none) (h : tTurns g tt t1 vs J D σ S H)
    (hR : ∀ s' H', Inv X pins (wipe σ vs) H' s' → S H' → R (.ok .next) s') :
    codeAny (model X.prog X.w) X.A (.compLoop (.ListComp elt gens scope pos) d (.ref it) (.ref D) X.env) R s := by
  obtain ⟨W, ⟨m0, w0⟩, turn⟩ := h
  refine loop_rule hsync hd (fun n s' => ∃ i H', Inv X pins (wipe σ vs) H' s' ∧ tn i s'.heap ∧ (∀ b ∈ fp, H' b = none) ∧ W i n H') ?_ m0 ⟨0, H, I, st, nf, w0⟩
  rintro n sa ⟨i, Ha, Ia, sta, na, wa⟩
  rcases turn i n Ha wa with ⟨stop, z⟩ | ⟨go, Nx, hNx, step⟩
  · refine thnF (T.done X rfl rfl rfl hc i pins sa _ Ha (fun _ _ => False) Ia (stat Ia na) sta stop) fun r sb ⟨hr, Ib⟩ => ?_
    subst hr
    exact hR sb Ha Ib z
  · refine thnF (T.item X rfl rfl rfl hc i pins sa _ Ha (fun _ _ => False) Ia (stat Ia na) sta go) fun r sb ⟨u, hr, hb'⟩ => ?_
    subst hr
    refine thnF hb' fun _ sc ⟨x, Hc, Ic, rc, yc, stc, nc⟩ => ?_
    have Ip := Ic.pinned (stat Ic nc) (T.obj _ _ stc)
    have r1 := pg.run _ sc _ Hc x u _ Ip rc (step x Hc yc)
    rw [hx] at r1
    refine thnF r1 fun _ sd ⟨σd, Hd, Id, hw, qd⟩ => ?_
    have r2 := pt.run _ sd σd Hd _ Id qd
    rw [hx] at r2
    refine thnF r2 fun b se ⟨He, Ie, qe⟩ => ?_
    have fin : ∀ {σf : L2.St} {s' : Shared} {H' : Hp}, Inv X (pins ++ pinsAt fp sc.heap) σf H' s' → Kn vs1 σd σf → Nx H' → ∃ m, m < n ∧ ∃ i H', Inv X pins (wipe σ vs) H' s' ∧ tn i s'.heap ∧ (∀ b ∈ fp, H' b = none) ∧ W i m H' := fun {σf s' H'} I' kn nx => by
      obtain ⟨m', hm, w'⟩ := hNx H' nx
      have pin' : ∀ b ∈ fp, ∀ o, sc.heap.get? b = some o → s'.heap.get? b = some o ∧ H' b = none := fun b hb o e =>
        let z := I'.pin (b, o) (List.mem_append_right _ (List.mem_append_right _ (mem_pinsAt hb e)))
        ⟨z.1, z.2.1⟩
      refine ⟨m', hm, i + 1, H', I'.unpinned.weak ?_ (fun j v e => ?_), T.keep _ _ _ stc fun b hb o e => (pin' b hb o e).1, fun b hb => ?_, w'⟩
      · rw [kn.1, ← wipe_length σd vs, hw]
      · rw [← hw] at e
        obtain ⟨e1, e2⟩ := wipe_some e
        exact kn.2 j v (by rw [wipe_out fun z => e2 (hv j z)]; exact e1)
      · obtain ⟨o, e, _⟩ := T.obj _ _ stc b hb
        exact (pin' b hb o e).2
    cases b with
    | false =>
      simp only [Bool.false_eq_true, if_false] at qe ⊢
      exact fin Ie ⟨rfl, fun j v e => (wipe_some e).1⟩ qe
    | true =>
      simp only [if_true] at qe ⊢
      exact hb.run D _ se σd He Nx _ Ie qe fun s' σ' H' I' kn nx => fin I' kn nx
/-- one clause more -/
theorem pb_cl {wi : TI} (hx : X.xe = fun _ _ => False) (hc : X.calm = true) (hsync : ∀ g ∈ gens, g.is_async = 0) (hd : gens[d]? = some ⟨tg, iter, ifs, 0⟩) (hi : PI X tg iter wi) (pg : PG X tg g) (pt : PTs X ifs tt)
    (hb : PB X elt gens scope pos (d + 1) vs1 t1) (hv : ∀ i ∈ vs1, i ∈ vs) (hs : ∀ env x, foldedSetIterable iter env x = pure x := by intro _ _; rfl) :
    PB X elt gens scope pos d vs (tCl wi g tt t1 vs) := by
  refine ⟨fun D pins s σ H Nx Z I h hZ => ?_⟩
  unfold Body
  rw [hd]
  refine ⟨rfl, hs _, ?_⟩
  have r := hi.run pins s σ H _ I h
  rw [hx] at r
  refine thnF r fun xv s1 h1 => thnF h1 fun itv s2 ⟨it, fp, tn, J, H2, e, I2, T, st, f, q⟩ => ?_
  subst e
  have loop := loop_ok (R := fun r s' => match r with
    | .ok _ => Z s'
    | .error _ => False) hx hc hsync hd pg pt hb hv T (fun _ hn b hb => ⟨hn b hb, (f b hb).2⟩) (I2.weak (wipe_length _ _) fun j v e => (wipe_some e).1) st (fun b hb => (f b hb).1) q
    fun s' H' I' z => hZ s' _ H' I' ⟨wipe_length _ _, fun j v e => e⟩ z
  exact start_rule hd loop (T.self X.A 0 _ _ _ st loop)
end
section
variable {X : Cx} {elt : Expr} {more : List Comprehension} {scope : Scope} {pos : Pos} {tg iter : Expr} {ifs : List Expr} {g : TG} {tt : TT} {t1 : TB} {vs1 : List Nat} {wi : TI} {own : List (Str × Nat)}
/-- [elt for tg in iter if .. for .. ..] as a value: any number of clauses -/
theorem pe_lcn (hc : X.calm = true) (hN : X.N.Nodup) (hi : PI X tg iter wi) (ok : BlkOk X.N X.env.scope scope own) (hsync : ∀ g ∈ (⟨tg, iter, ifs, 0⟩ :: more : List Comprehension), g.is_async = 0)
    (hg : ∀ (s : Shared) (H : Hp) (C : Addr) (cl : List (Str × Addr)) (fp : List Addr), PG (X.blk s H scope (compEnvC scope cl C X.env) fp) tg g)
    (ht : ∀ (s : Shared) (H : Hp) (C : Addr) (cl : List (Str × Addr)) (fp : List Addr), PTs (X.blk s H scope (compEnvC scope cl C X.env) fp) ifs tt)
    (hb : ∀ (s : Shared) (H : Hp) (C : Addr) (cl : List (Str × Addr)) (fp : List Addr), PB (X.blk s H scope (compEnvC scope cl C X.env) fp) elt (⟨tg, iter, ifs, 0⟩ :: more) scope pos 1 vs1 t1)
    (hv : ∀ i ∈ vs1, i ∈ own.map (·.2)) (hs : ∀ x, foldedSetIterable iter X.env x = pure x := by intro _; rfl) :
    PE X (.ListComp elt (⟨tg, iter, ifs, 0⟩ :: more) scope pos) (tLcN wi g tt t1 (own.map (·.2))) := by
  refine ⟨fun pins s σ H Q I h => ?_⟩
  rw [eval_ListComp]
  have seen : ∀ y ∈ scope.names, y.2 = .free → ∃ c, X.env.cells.lookup y.1 = some c := fun y hy e => (ok.free y hy e).elim (fun k => I.ok.has _ (.inl k)) fun k => I.ok.has _ (.inr k)
  refine wpAny_comprehension_free (use := none) (gs := more) rfl hs (closure_ok seen) ok.kind (fun y hy e => by rw [ok.uniq y hy, e])
    (thn (hi.run pins s σ H _ I h) fun xv s1 h1 => thn h1 fun itv s2 ⟨it, fp, tn, J, H2, e, I2, T, st2, f2, q⟩ => ?_)
  subst e
  refine wpAny_newObj_type (newEnv_comp ?_) (by show 0 ≤ sizeLine; decide)
  have fresh : H2 s2.heap.objs.size = none := I2.hok.fresh (Nat.le_refl _)
  have qD := q _ fresh
  generalize hD : s2.heap.objs.size = D at fresh qD
  generalize hs3 : ({ s2 with heap := s2.heap.push { cls := .type "list", data := .seq ([] : List Value).toArray } } : Shared) = s3
  have up : s3.heap = s2.heap.push { cls := .type "list", data := .seq ([] : List Value).toArray } := by rw [← hs3]
  generalize hH3 : upd H2 D (.lst []) = H3 at qD
  have I3 : Inv X pins σ H3 s3 := by
    rw [← hH3, ← hs3]
    exact I2.laid (t' := s2.toks) (fun b o e => Heap.get?_push_of_some _ e) (Nat.le_of_eq hD) ⟨Nat.zero_le _, [], 0, .nil, by rw [← hD]; exact Heap.get?_push_size _ rfl⟩
  have f3 : ∀ b ∈ fp, FpOk X pins H3 b ∧ b < s3.heap.objs.size := fun b hb => by
    obtain ⟨o, e, _⟩ := T.obj _ _ st2 b hb
    have lt := Heap.lt_size e
    refine ⟨⟨?_, (f2 b hb).2⟩, by rw [up, Heap.size_push]; exact Nat.lt_succ_of_lt lt⟩
    rw [← hH3, upd_ne (by rw [← hD]; exact Nat.ne_of_lt lt)]
    exact (f2 b hb).1
  have I4 := block_start I3 ok hN f3
  have hg := hg s3 H3 s3.heap.objs.size (cellsFrom (s3.heap.objs.size + 1) scope.names (cloFrom X.env.cells scope.names [])) fp
  have ht := ht s3 H3 s3.heap.objs.size (cellsFrom (s3.heap.objs.size + 1) scope.names (cloFrom X.env.cells scope.names [])) fp
  have hb := hb s3 H3 s3.heap.objs.size (cellsFrom (s3.heap.objs.size + 1) scope.names (cloFrom X.env.cells scope.names [])) fp
  generalize hce : compEnvC scope (cellsFrom (s3.heap.objs.size + 1) scope.names (cloFrom X.env.cells scope.names [])) s3.heap.objs.size X.env = ce at I4 hg ht hb
  have cL : ce.locals = s3.heap.objs.size := by subst hce; rfl
  generalize hs4 : ({ s3 with heap := pushCells (s3.heap.push { cls := .type "dict", data := .dict #[] }) scope.names } : Shared) = s4 at I4
  have st4 : tn 0 s4.heap := T.keep _ _ _ st2 fun b _ o e => by
    rw [← hs4]
    exact pushCells_keeps _ _ _ _ (Heap.get?_push_of_some _ (by rw [up]; exact Heap.get?_push_of_some _ e))
  have loop := loop_ok (X := X.blk s3 H3 scope ce fp) (it := it) (pos := pos) (R := compPost (model X.prog X.w) X.A X.xe none (EP X pins σ Q) (.ref D) s3.heap.objs.size) rfl hc hsync rfl hg ht hb hv T
    (fun I' hn b hb => ⟨hn b hb, (I'.ok.exf b hb).1, I'.ok.exfs b hb, .inl hb, fun x c e => (I'.ok.exf b hb).2 x c e, fun p hp => absurd (show p ∈ ([] : List (Addr × Obj)) ++ [] from hp) (by simp)⟩)
    I4 st4 (fun b hb => (f3 b hb).1.1) qD fun s5 H5 I5 z => by
      have I6 : Inv X pins σ H5 s5 := I3.call' (ch := fp) I5.os I5.base I5.hok I5.bare fun b hb => ⟨(f3 b hb).1.2.2.2.1, (f3 b hb).1.2.1, (f3 b hb).1.2.2.2.2.1, (f3 b hb).1.2.2.2.2.2⟩
      have nC : H5 s3.heap.objs.size = none := cL ▸ (I5.free : H5 ce.locals = none)
      obtain ⟨m, hn, _⟩ := I5.loc
      obtain ⟨g0, g1, g2, g3, g4, g5⟩ := I3.fpOk (Nat.le_refl _) nC
      refine ⟨m, cL ▸ (show s5.heap.Ns ce.locals m from hn), fun h'' sb => ?_⟩
      exact ⟨.ref D, H5, I6.turned (t' := s5.toks) (fun b o hb e => (sb.2 b hb).trans e) g0 g1 g3 g4 g5, rfl, z⟩
  subst hs3 hs4 hce hD
  exact codeAny_compStart_list loop (T.self X.A 0 _ _ _ st4 loop)
end
end Lcn
set_option maxHeartbeats 4000000
/-! sequences that are lists or tuples; comprehensions told by what they give -/
namespace Sq
open PySem PySem.Spec PyProof.Rows L2 Lcn
/-- a list or a tuple stands -/
def Sqn (K : PySem.W.Frag) (H : Hp) (a : Addr) (xs : List V) : Prop := SqL K H a xs ∨ SqT K H a xs
theorem SqT.same {K : PySem.W.Frag} {H H' : Hp} {a : Addr} {xs : List V} (e : Same H H') (h : SqT K H a xs) : SqT K H' a xs := by
  rcases h with (h | ⟨o, h⟩) | h
  · exact .inl (.inl (e _ _ h))
  · exact .inl (.inr ⟨o, e _ _ h⟩)
  · exact .inr h
theorem Sqn.same {K : PySem.W.Frag} {H H' : Hp} {a : Addr} {xs : List V} (e : Same H H') (h : Sqn K H a xs) : Sqn K H' a xs := h.imp e.seq (SqT.same e)
theorem same_upd {H H' : Hp} {p : Addr} {o : HO} (e : Same H H') (h : H p = none) : Same H (upd H' p o) := fun b u x => by
  rw [upd_ne (ne_of_none x h)]
  exact e b u x
theorem same_new {H : Hp} {p : Addr} {o : HO} (h : H p = none) : Same H (upd H p o) := same_upd (Same.refl H) h
/-! ### what is no list stays -/
def nol : HO → Bool
  | .lst _ => false
  | _ => true
def KT (H H' : Hp) : Prop := ∀ b o, nol o = true → H b = some o → H' b = some o
theorem KT.refl (H : Hp) : KT H H := fun _ _ _ h => h
theorem KT.trans {H H1 H2 : Hp} (a : KT H H1) (b : KT H1 H2) : KT H H2 := fun c o n h => b c o n (a c o n h)
theorem KT.of {H H' : Hp} (e : Same H H') : KT H H' := fun b o _ h => e b o h
theorem KT.tup {K : PySem.W.Frag} {H H' : Hp} {a : Addr} {xs : List V} (e : KT H H') (h : SqT K H a xs) : SqT K H' a xs := by
  rcases h with (h | ⟨o, h⟩) | h
  · exact .inl (.inl (e _ _ rfl h))
  · exact .inl (.inr ⟨o, e _ _ rfl h⟩)
  · exact .inr h
/-- a list's place written anew -/
theorem KT.lst {H : Hp} {D : Addr} {xs ys : List V} (h : H D = some (.lst xs)) : KT H (upd H D (.lst ys)) := fun b o n e => by
  by_cases hb : b = D
  · subst hb
    rw [h] at e
    cases e
    cases n
  · rw [upd_ne hb]
    exact e
theorem KT.new {H : Hp} {p : Addr} {o : HO} (h : H p = none) : KT H (upd H p o) := KT.of (same_new h)
/-! ### a frame: all stays but what M lets change, and M's own promise G goes on -/
structure Fr (M : Addr → Prop) (G : Hp → Prop) (H H' : Hp) : Prop where
  keep : ∀ b o, ¬ M b → H b = some o → H' b = some o
  kt : KT H H'
  on : G H → G H'
section
variable {M : Addr → Prop} {G : Hp → Prop}
theorem Fr.refl (H : Hp) : Fr M G H H := ⟨fun _ _ _ h => h, KT.refl H, fun g => g⟩
theorem Fr.trans {H H1 H2 : Hp} (a : Fr M G H H1) (b : Fr M G H1 H2) : Fr M G H H2 := ⟨fun c o n h => b.keep c o n (a.keep c o n h), a.kt.trans b.kt, fun g => b.on (a.on g)⟩
end
/-- G hangs on what stands at A alone, and A is there; M lies in A -/
structure Gd (A M : Addr → Prop) (G : Hp → Prop) : Prop where
  dep : ∀ H H', (∀ b o, A b → H b = some o → H' b = some o) → G H → G H'
  dom : ∀ H b, G H → A b → ∃ o, H b = some o
  sub : ∀ b, M b → A b
/-- nothing may change -/
abbrev F0 : Hp → Hp → Prop := Fr (fun _ => False) (fun _ => True)
theorem gd0 : Gd (fun _ => False) (fun _ => False) (fun _ => True) := ⟨fun _ _ _ g => g, fun _ _ _ z => z.elim, fun _ z => z⟩
theorem F0.of {H H' : Hp} (e : Same H H') : F0 H H' := ⟨fun b o _ h => e b o h, KT.of e, fun g => g⟩
theorem F0.same {H H' : Hp} (e : F0 H H') : Same H H' := fun b o h => e.keep b o (fun z => z) h
section
variable {A M : Addr → Prop} {G : Hp → Prop}
theorem Fr.of (u : Gd A M G) {H H' : Hp} (e : Same H H') : Fr M G H H' := ⟨fun b o _ h => e b o h, KT.of e, u.dep H H' fun b o _ h => e b o h⟩
theorem Gd.nA (u : Gd A M G) {H : Hp} {D : Addr} (g : G H) (h : H D = none) : ¬ A D := fun m => by
  obtain ⟨o, h'⟩ := u.dom H D g m
  rw [h] at h'
  cases h'
theorem Fr.free (u : Gd A M G) {H H' : Hp} (e : Fr M G H H') (g : G H) {D : Addr} (h : H' D = none) : H D = none := by
  cases q : H D with
  | none => rfl
  | some o =>
    rw [e.keep D o (fun m => u.nA (e.on g) h (u.sub D m)) q] at h
    cases h
theorem Gd.out (u : Gd A M G) {H : Hp} {D : Addr} {o : HO} (nA : ¬ A D) (g : G H) : G (upd H D o) := u.dep H _ (fun b ob ha h => by
  rw [upd_ne (fun z => nA (by rw [← z]; exact ha))]
  exact h) g
end
/-! ### a comprehension over one walk that keeps all -/
/-- n turns, turn i with x, X i x; the heap stays -/
def YIs (X : Nat → V → Prop) : Nat → Hp → V → Hp → Prop := fun i H x H' => H' = H ∧ X i x
/-- at D a list of n things stands, R of each -/
def Got (D : Addr) (n : Nat) (R : Hp → Nat → V → Prop) (H' : Hp) : Prop := ∃ ys, H' D = some (.lst ys) ∧ ys.length = n ∧ ∀ i y, ys[i]? = some y → R H' i y
def Stb (R : Hp → Nat → V → Prop) : Prop := ∀ H H' i v, KT H H' → R H i v → R H' i v
theorem got_snoc {D : Addr} {n : Nat} {R : Hp → Nat → V → Prop} {H : Hp} {ys : List V} {y : V} (st : Stb R) (h : H D = some (.lst ys)) (hn : ys.length = n) (hR : ∀ i y, ys[i]? = some y → R H i y) (hy : R H n y) : Got D (n + 1) R (upd H D (.lst (ys ++ [y]))) := by
  have k : KT H (upd H D (.lst (ys ++ [y]))) := KT.lst h
  refine ⟨ys ++ [y], upd_same, by rw [List.length_append, hn]; rfl, fun i z hz => ?_⟩
  rcases Nat.lt_or_ge i ys.length with lt | ge
  · rw [List.getElem?_append_left lt] at hz
    exact st _ _ _ _ k (hR i z hz)
  · rw [List.getElem?_append_right ge] at hz
    cases e : i - ys.length with
    | zero =>
      rw [e] at hz
      cases hz
      have : i = n := by omega
      rw [this]
      exact st _ _ _ _ k hy
    | succ j =>
      rw [e] at hz
      cases hz
theorem lc_fr {A M : Addr → Prop} {G : Hp → Prop} {J : It} {n : Nat} {Gw : Hp → Prop} {Xt : Nat → V → Prop} (w : Walk J n Gw (YIs Xt)) (hn : n < sizeLine) {g : TG} {te : TE} {vs : List Nat} {σ : L2.St} {H1 : Hp} {D : Addr} {Qd : Hp → Prop} {R : Hp → Nat → V → Prop} (st : Stb R) (u : Gd A M G)
    (hD : H1 D = none) (hG : G H1) (hGw : ∀ H', Fr M G H1 H' → Gw H')
    (hs : ∀ i x H' (Q : VK), i < n → Xt i x → Fr M G H1 H' → (∀ y H4, Fr M G H' H4 → R H4 i y → Q y H4) → g x (wipe σ vs) H' fun σ2 H2 => wipe σ2 vs = wipe σ vs ∧ te σ2 H2 Q)
    (hd : ∀ H', Fr M G H1 H' → Got D n R H' → Qd H') :
    ∃ W : Nat → Nat → Hp → Prop, (∃ m, W 0 m (upd H1 D (.lst []))) ∧ ∀ i m H, W i m H →
      (J.stop i H ∧ Qd H) ∨ (J.go i H ∧ ∃ Nx : Hp → Prop, (∀ H', Nx H' → ∃ m', m' < m ∧ W (i + 1) m' H') ∧ ∀ x H', J.yld i H x H' → g x (wipe σ vs) H' fun σ2 H2 => wipe σ2 vs = wipe σ vs ∧ tYes σ2 H2 fun b H3 =>
        if b = true then te σ2 H3 fun y H4 => ∃ acc, H4 D = some (.lst acc) ∧ acc.length < sizeLine ∧ Nx (upd H4 D (.lst (acc ++ [y]))) else Nx H3) := by
  have nA : ¬ A D := u.nA hG hD
  have nD : ¬ M D := fun m => nA (u.sub D m)
  refine lc_it w (fun i H => Fr M G H1 H ∧ Got D i R H) ⟨Fr.of u (same_new hD), [], upd_same, rfl, fun i y h => by cases i <;> cases h⟩ (fun i H _ p => hGw H p.1) (fun i x H H' hi p y => ?_) (fun H p => hd H p.1 p.2)
  obtain ⟨e, hx⟩ := y
  subst e
  obtain ⟨fr, ys, hDl, hl, hR⟩ := p
  refine hs i x H' _ hi hx fr fun y H4 f4 hy => ?_
  have d4 := f4.keep D _ nD hDl
  refine ⟨ys, d4, by omega, ⟨fun b o nm h => ?_, fun b o no h => ?_, fun gg => ?_⟩, got_snoc st d4 hl (fun i y h => st _ _ _ _ f4.kt (hR i y h)) hy⟩
  · rw [upd_ne (ne_of_none h hD)]
    exact f4.keep b o nm (fr.keep b o nm h)
  · rw [upd_ne (ne_of_none h hD)]
    exact f4.kt b o no (fr.kt b o no h)
  · exact u.out nA (f4.on (fr.on gg))
/-! ### a list or a tuple, walked -/
@[irreducible] def iSeq (K : PySem.W.Frag) (tl : TE) : TI := fun σ H R => tl σ H fun x H1 => ∃ a xs, x = .ref a ∧ ((SqL K H1 a xs ∧ R (Itl K a) H1) ∨ (SqT K H1 a xs ∧ R (Itt K a) H1))
theorem pi_seq {X : Cx} {tg l : Expr} {tl : TE} (hl : PE X l tl) : PI X tg l (iSeq X.K tl) := by
  refine ⟨fun pins s σ H R I h => ?_⟩
  unfold iSeq at h
  refine thn (hl.run pins s σ H _ I h) fun v s1 ⟨x, H1, I1, r1, a, xs, e, q⟩ => ?_
  subst e
  cases r1
  have here : ∀ b ∈ [s1.heap.objs.size], FpOk X pins H1 b := fun b hb => by
    have e : b = s1.heap.objs.size := by simpa using hb
    rw [e]
    exact I1.fpOk (Nat.le_refl _) (I1.hok.fresh (Nat.le_refl _))
  rcases q with ⟨hq, q⟩ | ⟨hq, q⟩
  · obtain ⟨its, rv, p, hz⟩ := I1.list hq
    exact wpAny_pyIter_list p.isList ⟨s1.heap.objs.size, [s1.heap.objs.size], _, _, H1, rfl, I1.kept (t' := s1.toks) fun b o e => Heap.get?_push_of_some _ e, turn_list a _, ⟨_, Heap.get?_push_size _ rfl, rfl, rfl⟩, here, q⟩
  · obtain ⟨its, rv, p, hz⟩ := I1.tuple hq
    exact wpAny_pyIter_tuple (show s1.heap.IsTuple a its.toArray from p) ⟨s1.heap.objs.size, [s1.heap.objs.size], _, _, H1, rfl, I1.kept (t' := s1.toks) fun b o e => Heap.get?_push_of_some _ e, turn_tuple a _, ⟨_, Heap.get?_push_size _ rfl, rfl, rfl⟩, here, q⟩
theorem seq_rd {K : PySem.W.Frag} {tl : TE} {σ : L2.St} {H H0 H1 : Hp} {R : It → Hp → Prop} {a : Addr} {xs : List V} (e0 : Same H0 H1) (hl : ∀ Q : VK, Q (.ref a) H1 → tl σ H Q) (hs : Sqn K H0 a xs)
    (q : ∀ (J : It) (Gw : Hp → Prop), Walk J xs.length Gw (YIs fun i x => xs[i]? = some x) → (∀ H', (∀ o, H0 a = some o → H' a = some o) → Gw H') → R J H1) : iSeq K tl σ H R := by
  unfold iSeq
  refine hl _ ⟨a, xs, rfl, hs.imp (fun h => ⟨e0.seq h, q _ _ walk_list fun H' e => ?_⟩) (fun h => ⟨SqT.same e0 h, q _ _ walk_tup fun H' e => ?_⟩)⟩
  · rcases h with (h | ⟨o, h⟩) | h
    · exact .inl (.inl (e _ h))
    · exact .inl (.inr ⟨o, e _ h⟩)
    · exact .inr h
  · rcases h with (h | ⟨o, h⟩) | h
    · exact .inl (.inl (e _ h))
    · exact .inl (.inr ⟨o, e _ h⟩)
    · exact .inr h
/-! ### xs.extend(t), t a tuple -/
def rExtT (K : PySem.W.Frag) : V → List V → Hp → VK → Prop := fun x vs H Q => ∃ l b xs zs, x = .ref l ∧ vs = [.ref b] ∧ H l = some (.lst xs) ∧ SqT K H b zs ∧ xs.length + zs.length ≤ sizeLine ∧ Q .non (upd H l (.lst (xs ++ zs)))
/-! ### tuple(x) -/
@[irreducible] def rTupOf (K : PySem.W.Frag) (xs : List V) (H : Hp) (Q : VK) : Prop := ∃ p ys, xs = [.ref p] ∧ ((SqL K H p ys ∧ ∀ l, H l = none → Q (.ref l) (upd H l (.tup ys))) ∨ (SqT K H p ys ∧ Q (.ref p) H))
theorem call_tupR {X : Cx} : CallR X (.type "tuple") (rTupOf X.K) := fun pins s σ H xs us Q I r h => by
  unfold rTupOf at h
  exact call_tuple_of pins s σ H xs us Q I r h
theorem rd_tup {K : PySem.W.Frag} {H : Hp} {a : Addr} {xs : List V} {Q : VK} (hs : Sqn K H a xs) (q : ∀ b H', Same H H' → SqT K H' b xs → Q (.ref b) H') : rTupOf K [.ref a] H Q := by
  unfold rTupOf
  exact ⟨a, xs, rfl, hs.imp (fun h => ⟨h, fun l hl => q l _ (same_new hl) (SqT.of upd_same)⟩) (fun h => ⟨h, q a H (Same.refl H) h⟩)⟩
/-! ### t[i:j], t a tuple -/
@[irreducible] def rSlR (K : PySem.W.Frag) (x : V) (lo hi : Option Int) (H : Hp) (Q : VK) : Prop := rSlA K x lo hi H Q
theorem sl_tupR {X : Cx} : SlR X (rSlR X.K) := by
  have e : rSlR X.K = rSlA X.K := by
    funext x lo hi H Q
    unfold rSlR
    rfl
  rw [e]
  exact sl_tupA
theorem rd_sl {K : PySem.W.Frag} {H : Hp} {a : Addr} {xs : List V} {lo hi : Option Int} {Q : VK} (ha : SqT K H a xs) (q : ∀ c H', Same H H' → SqT K H' c (cutV xs lo hi) → Q (.ref c) H') : rSlR K (.ref a) lo hi H Q := by
  unfold rSlR
  refine ⟨a, xs, rfl, ha, fun e => ?_, fun _ p hp => q p _ (same_new hp) (SqT.of upd_same)⟩
  refine q a H (Same.refl H) ?_
  have : cutV xs lo hi = xs := by
    unfold cutV
    rw [e.1, e.2]
    simp
  rw [this]
  exact ha
/-! ### rules for within a block: the written part named -/
section
variable {X : Cx} {K : PySem.W.Frag} (hK : X.K = K)
include hK
theorem ix_tupK : IxR X (rIxT K) := hK ▸ ix_tup
theorem ix_listK : IxR X (rIxL K) := hK ▸ ix_list
theorem ix_seqK : IxR X (rIx K) := hK ▸ ix_seq
theorem sl_tupRK : SlR X (rSlR K) := hK ▸ sl_tupR
theorem op_catAK : OpR X (binaryOp .Add) (rCatA K) := hK ▸ op_catA
theorem op_in_seqK : OpR X (compareOp .In) (rIn K false) := hK ▸ op_in_seq
theorem call_len_seqK : CallR X (.builtin "len") (fun xs H Q => ∃ p ys, xs = [.ref p] ∧ (SqL K H p ys ∨ SqT K H p ys) ∧ Q (.int ys.length) H) := hK ▸ call_len_seq
theorem call_tuple_ofK : CallR X (.type "tuple") (fun xs H Q => ∃ p ys, xs = [.ref p] ∧ ((SqL K H p ys ∧ ∀ l, H l = none → Q (.ref l) (upd H l (.tup ys))) ∨ (SqT K H p ys ∧ Q (.ref p) H))) := hK ▸ call_tuple_of
theorem call_tupRK : CallR X (.type "tuple") (rTupOf K) := hK ▸ call_tupR
theorem call_isiK : CallR X (.builtin "isinstance") (rIsi K) := hK ▸ call_isi
theorem call_isiTK : CallR X (.builtin "isinstance") (rIsiT K) := hK ▸ call_isiT
theorem cr_allK (hc : X.calm = true := by rfl) : CallR X (.builtin "all") (rAll K) := hK ▸ cr_all hc
theorem pi_seqK {tg l : Expr} {tl : TE} (hl : PE X l tl) : PI X tg l (iSeq K tl) := hK ▸ pi_seq hl
theorem pi_tupK {tg l : Expr} {tl : TE} (hl : PE X l tl) : PI X tg l (iTup K tl) := hK ▸ pi_tup hl
theorem pi_listK {tg l : Expr} {tl : TE} (hl : PE X l tl) : PI X tg l (iList K tl) := hK ▸ pi_list hl
theorem pg_tupK (hc : X.calm = true) {es : List Expr} {k : Nat} {pos : Pos} {t : TGs} {n : Nat} (h : PGs X es t) (hn : (assignEach es X.env).length = n := by rfl) (hst : (assignEach es X.env).findIdx? (·.1) = none := by rfl) : PG X (.Tuple es k pos) (gTup K n t) := hK ▸ pg_tup hc h hn hst
end
theorem ext_tup (l : Addr) (items : Array Value) (n : Nat) (b : Addr) (items2 : Array Value) (n2 : Nat) (dct : Option Addr) (sl : Array (Option Value)) (hs0 : ¬(!items.isEmpty && Builtin.List.listTooLong (items.size + items2.size)) = true) (hs1 : items.size ≤ sizeLine) (hs2 : items.size + items2.size ≤ sizeLine + 1) :
    Meets (Builtin.«list.extend» ⟨[.ref l, .ref b], []⟩) (fun _ R s => s.heap.get? l = some { cls := .type "list", dict := none, data := .seq items n, slots := #[] } ∧ s.heap.get? b = some ⟨.type "tuple", dct, .seq items2 n2, sl⟩ ∧ R (.ok (.ret Value.none)) { s with heap := s.heap.update l (Obj.mapSeq fun x => x ++ items2), toks := s.toks }) :=
  .of_wp fun prog w A R s h => by
    obtain ⟨hp, g, d, tk, os⟩ := s
    obtain ⟨hl, hb, h⟩ := h
    have f2 := AutoSeq1.sub_tuple_tuple
    have f4 := AutoSeq1.sub_tuple_list
    have f3 := AutoSeq1.sub_list_list
    have f5 := AutoSeq1.sub_list_tuple
    have hz' : (items ++ items2).size ≤ sizeLine + 1 := by rw [Array.size_append]; exact hs2
    wp_walk using (wpAny_updateSeq hl rfl (hz := hs1) (_hz' := hz')), AutoSeq1.wpAny_loadPart' hl, AutoSeq1.wpAny_loadPart' hb
    exact ⟨_, rfl, h⟩
theorem mt_extT {X : Cx} : MtM X "list.extend" (rExtT X.K) := by
  intro pins s σ H x vs v us Q I rx rv h
  obtain ⟨l, b, xs, zs, rfl, rfl, hH, hB, hz, q⟩ := h
  cases rx
  obtain ⟨u, rfl, ru⟩ := rv.one
  cases ru
  obtain ⟨z, its, n, r, hl, e⟩ := I.lstM hH
  obtain ⟨its2, r2, ⟨⟨oc, od, dt, os⟩, e2, c2, n2, d2⟩, z2⟩ := I.tuple hB
  dsimp only at c2 d2
  subst c2 d2
  have l1 := r.length
  have l2 := r2.length
  have hsz : its.toArray.size + its2.toArray.size ≤ sizeLine := by
    rw [List.size_toArray, List.size_toArray]
    omega
  have hlong : ¬ (!its.toArray.isEmpty && Builtin.List.listTooLong (its.toArray.size + its2.toArray.size)) = true := by
    rw [notLongL hsz, Bool.and_false]
    exact Bool.false_ne_true
  refine call_meets PySem.F.slot_list_extend ⟨_, e, rfl⟩ PySem.F.entry_list_extend (PySem.F.args_list_extend_2 _ _) (ext_tup l its.toArray n b its2.toArray n2 od os hlong (by rw [List.size_toArray]; omega) (by omega)) ⟨e, e2, ?_⟩
  refine ⟨.non, _, I.lset (its' := its ++ its2) hH e (by simp) (r.append r2) ?_, rfl, q⟩
  rw [List.length_append]
  omega
theorem walk_at_list {K : PySem.W.Frag} {a : Addr} {xs : List V} : Walk (Itl K a) xs.length (fun H => SqL K H a xs) (YIs fun i x => xs[i]? = some x) := walk_list
theorem walk_at_tup {K : PySem.W.Frag} {a : Addr} {xs : List V} : Walk (Itt K a) xs.length (fun H => SqT K H a xs) (YIs fun i x => xs[i]? = some x) := walk_tup
theorem walk_at_range {lo : Int} {n : Nat} : Walk (Itr lo n) n (fun _ => True) (YIs fun i x => x = .int (lo + i)) := walk_range
end Sq
set_option maxHeartbeats 4000000
/-! a, b, .. = a list or a tuple of that length -/
namespace Sq
open PySem PySem.Spec PyProof.Rows L2 Lcn
def gSeq (K : PySem.W.Frag) (n : Nat) (t : TGs) : TG := fun v σ H Q => ∃ a xs, v = .ref a ∧ Sqn K H a xs ∧ xs.length = n ∧ t xs σ H Q
theorem pg_seq {X : Cx} {pos : Pos} {es : List Expr} {k : Nat} {t : TGs} {n : Nat} (hc : X.calm = true) (h : PGs X es t)
    (hn : (assignEach es X.env).length = n := by rfl) (hst : (assignEach es X.env).findIdx? (·.1) = none := by rfl) : PG X (.Tuple es k pos) (gSeq X.K n t) := by
  refine ⟨fun pins s σ H v u Q I r hw => ?_⟩
  obtain ⟨a, xs, e1, hq, hl, hw⟩ := hw
  rcases hq with hq | hq
  · exact (pg_lst (pos := pos) (k := k) hc h hn hst).run pins s σ H v u Q I r ⟨a, xs, e1, hq, hl, hw⟩
  · exact (pg_tup (pos := pos) (k := k) hc h hn hst).run pins s σ H v u Q I r ⟨a, xs, e1, hq, hl, hw⟩
theorem pg_seqK {X : Cx} {K : PySem.W.Frag} {pos : Pos} (hK : X.K = K) {es : List Expr} {k : Nat} {t : TGs} {n : Nat} (hc : X.calm = true) (h : PGs X es t)
    (hn : (assignEach es X.env).length = n := by rfl) (hst : (assignEach es X.env).findIdx? (·.1) = none := by rfl) : PG X (.Tuple es k pos) (gSeq K n t) := hK ▸ pg_seq hc h hn hst
theorem pe_fldK {X : Cx} {K : PySem.W.Frag} (hK : X.K = K) {e : Expr} {f : Str} {pos : Pos} {ta : TE} (he : PE X e ta) (hab : attributeBase e f X.env (eval e X.env) = eval e X.env) : PE X (.Attribute e f pos) (tFld K ta f) := hK ▸ pe_fld he hab
theorem mt_indexK {X : Cx} {K : PySem.W.Frag} (hK : X.K = K) : MtR X "list.index" (rIndex K) := hK ▸ mt_index
theorem pe_bmK {X : Cx} {K : PySem.W.Frag} (hK : X.K = K) {o e : Expr} {es : List Expr} {to : TE} {t : TA} {name : Str} {apos cpos : Pos} {T id : String} {r : V → List V → Hp → VK → Prop} (pa : PlainAttrs T) (slot : Slot T name id) (hty : typeOf (.builtin id) = pure (.type "method_descriptor")) (hm : MtR X id r) (ho : PE X o to) (ha : PA X (e :: es) t)
    (hbase : attributeBase o name X.env (eval o X.env) = eval o X.env := by rfl)
    (hfew : ((backTo cpos (starEach (e :: es) X.env)).all (fun x => !x.1) && (backToKw cpos (keywordEach [] X.env)).all (fun x => x.1.isSome)
      && decide ((e :: es).length + ([] : List Keyword).length + (if ([] : List Keyword).isEmpty then 0 else 1) < 30)) = true := by rfl)
    (hline : (apos.endLine == cpos.line) = true := by rfl) (hs : starEach (e :: es) X.env = (false, eval e X.env) :: starEach es X.env := by rfl) (hplain : (backTo cpos (starEach es X.env)).any (·.1) = false := by rfl) :
    PE X (.Call (.Attribute o name apos) (e :: es) [] cpos) (tBM K T r to t) := hK ▸ pe_bm pa slot hty hm ho ha hbase hfew hline hs hplain
end Sq
set_option maxHeartbeats 4000000
/-! enumerate(t), t a tuple -/
namespace En
open PySem PySem.Spec PyProof.Rows L2 Sq
open AutoSeq1 (wpAny_loadPart')
section
variable {prog : Program} {w : World} {A : Around} {E : Value → Shared → Prop} {s : Shared}
/-- one step of the tuple's own walk -/
theorem next_t {it t : Addr} {i : Nat} {items : Array Value} {x : Value} {Q : Value → Shared → Prop} (hit : s.heap.IsTupleIter it t i) (ht : s.heap.IsTuple t items) (hx : items[i]? = some x)
    (hQ : ∀ h', h'.IsTupleIter it t (i + 1) → Heap.SameBut it s.heap h' → Q x { s with heap := h' }) : wpAny (model prog w) A (Builtin.SmallTypes.nextOf (.ref it)) Q E s := by
  obtain ⟨o, ho, hc, hd⟩ := id hit
  obtain ⟨ol, hol, _, nl, hdl⟩ := ht
  unfold Builtin.SmallTypes.nextOf
  refine wpAny_bind (wpAny_callSpecial?_slot (name := Str.ofString "__next__") hit.typeIs F.slot_tuple_iterator_next (wpAny_call_entry F.slot_tuple_iterator_next hit.typeIs F.entry_tuple_iterator_next ?_ (F.args_tuple_iterator_next_1 _)))
  show wpAny _ _ (field (.ref it) 0 >>= _) _ _ s
  refine wpAny_bind (wpAny_field ho hd (x := .ref t) rfl ?_)
  show wpAny _ _ (if (Value.ref t == Value.none) = true then _ else _) _ _ s
  rw [if_neg (show ¬ ((Value.ref t == Value.none) = true) from Bool.false_ne_true)]
  show wpAny _ _ (field (.ref it) 1 >>= _) _ _ s
  refine wpAny_bind (wpAny_field ho hd (x := .int i 0) rfl ?_)
  show wpAny _ _ (seqItems? (.ref t) >>= _) _ _ s
  refine wpAny_bind (wpAny_seqItems hol hdl ?_)
  simp only [Int.toNat_natCast, hx]
  refine wpAny_bind (wpAny_setField ho hd (by simp) (wpAny_pure ⟨x, rfl, wpAny_pure (hQ _ ?_ (Heap.SameBut.update ..))⟩))
  exact ⟨_, Heap.get?_update_self _ ho (Obj.isFreed_of_fields (Obj.data_mapFields hd _)), (Obj.cls_mapFields ..).trans hc, by
    rw [Obj.data_mapFields hd]; simp [rawInt]⟩
theorem next_t_end {it t : Addr} {i : Nat} {items : Array Value} {Q : Value → Shared → Prop} (hh : A.handled = none) (hit : s.heap.IsTupleIter it t i) (ht : s.heap.IsTuple t items) (hx : items[i]? = none)
    (hE : ∀ h' e, Heap.ExtBut it s.heap h' → (∃ o, h'.get? e = some o ∧ o.cls = .type "StopIteration") → E (.ref e) { s with heap := h' }) : wpAny (model prog w) A (Builtin.SmallTypes.nextOf (.ref it)) Q E s := by
  obtain ⟨o, ho, hc, hd⟩ := id hit
  obtain ⟨ol, hol, _, nl, hdl⟩ := ht
  unfold Builtin.SmallTypes.nextOf
  refine wpAny_bind (wpAny_callSpecial?_slot (name := Str.ofString "__next__") hit.typeIs F.slot_tuple_iterator_next (wpAny_call_entry F.slot_tuple_iterator_next hit.typeIs F.entry_tuple_iterator_next ?_ (F.args_tuple_iterator_next_1 _)))
  show wpAny _ _ (field (.ref it) 0 >>= _) _ _ s
  refine wpAny_bind (wpAny_field ho hd (x := .ref t) rfl ?_)
  show wpAny _ _ (if (Value.ref t == Value.none) = true then _ else _) _ _ s
  rw [if_neg (show ¬ ((Value.ref t == Value.none) = true) from Bool.false_ne_true)]
  show wpAny _ _ (field (.ref it) 1 >>= _) _ _ s
  refine wpAny_bind (wpAny_field ho hd (x := .int i 0) rfl ?_)
  show wpAny _ _ (seqItems? (.ref t) >>= _) _ _ s
  refine wpAny_bind (wpAny_seqItems hol hdl ?_)
  simp only [Int.toNat_natCast, hx]
  refine wpAny_bind (wpAny_rule (wpAny_bind (wpAny_setField ho hd (by simp) ?_)))
  show wpAny _ _ (newExc (.type "StopIteration") [] >>= _) _ _ _
  refine wpAny_bind ?_
  simp only [newExc, newTuple]
  refine wpAny_bind (wpAny_newObj_type ?_ (by size_fits))
  refine wpAny_bind (m := firstArgMember _ _) (wpAny_of_eq (a := Value.none) (by first | rfl | (simp only [firstArgMember]; rfl)) ?_)
  refine wpAny_newObj_type ?_ (by size_fits)
  simp only [raiseNew]
  refine wpAny_bind (wpAny_handled ?_)
  first | rw [show A.in1.handled = none from hh] | rw [hh]
  refine wpAny_bind (wpAny_pure (wpAny_throw ?_))
  exact hE _ _ (((Heap.SameBut.update ..).extBut.push _).push _) ⟨_, Heap.get?_push_size _ rfl, rfl⟩
/-- one step of the enumeration, whatever is walked within: N gives its item and keeps P, a fact that other records don't touch -/
theorem enum_step {e it : Addr} {i : Nat} {x old : Value} {P : Heap → Prop} {Q : Value → Shared → Prop} (he : IsEnum s.heap e it i old) (hne : e ≠ it) (pk : ∀ h h', (∀ o, h.get? it = some o → h'.get? it = some o) → P h → P h')
    (N : ∀ (A : Around) (Q : Value → Shared → Prop), (∀ h', P h' → Heap.SameBut it s.heap h' → Q x { s with heap := h' }) → wpAny (model prog w) A (Builtin.SmallTypes.nextOf (.ref it)) Q E s)
    (hQ : ∀ h', IsEnumOut h' e it ((i : Int) + 1) x s.heap.objs.size → P h' → h'.get? s.heap.objs.size = some { cls := .type "tuple", data := .seq #[.int i s.toks, x] } → h'.objs.size = s.heap.objs.size + 1 →
      (∀ b o, b ≠ e → b ≠ it → s.heap.get? b = some o → h'.get? b = some o) → Q (.ref s.heap.objs.size) { s with heap := h', toks := s.toks + 1 }) :
    wpAny (model prog w) A (Builtin.«enumerate.__next__» ⟨[.ref e], []⟩) (fun fin s' => ∃ v, fin = .done (.ret v) ∧ Q v s') E s := by
  obtain ⟨hp, g, d, tk, os⟩ := s
  have apart : ∀ {h h' : Heap}, Heap.SameBut e h h' → P h → P h' := fun sb p => pk _ _ (fun o q => (sb.2 it (Ne.symm hne)).trans q) p
  have el := Heap.lt_size he
  show wpAny _ _ (field (.ref e) 2 >>= _) _ _ _
  refine wpAny_bind (wpAny_field he rfl (x := .ref it) rfl (wpAny_bind (N _ _ fun h1 p1 sb1 => ?_)))
  have e1 : IsEnum h1 e it i old := (sb1.2 e hne).trans he
  show wpAny _ _ (field (.ref e) 3 >>= _) _ _ ⟨h1, g, d, tk, os⟩
  refine wpAny_bind (wpAny_field e1 rfl (x := rawInt i) rfl ?_)
  show wpAny _ _ (field (.ref e) 4 >>= _) _ _ ⟨h1, g, d, tk, os⟩
  refine wpAny_bind (wpAny_field e1 rfl (x := .none) rfl ?_)
  show wpAny _ _ (mkInt i >>= _) _ _ ⟨h1, g, d, tk, os⟩
  refine wpAny_bind (wpAny_mkInt ?_)
  show wpAny _ _ (setField (.ref e) 3 (rawInt ((i : Int) + 1)) >>= _) _ _ ⟨h1, g, d, tk + 1, os⟩
  refine wpAny_bind (wpAny_setField_rec e1 (by simp) fun h2 e2 sb2 => ?_)
  replace e2 : IsEnum h2 e it ((i : Int) + 1) old := e2
  show wpAny _ _ (setField (.ref e) 4 .none >>= _) _ _ ⟨h2, g, d, tk + 1, os⟩
  refine wpAny_bind (wpAny_setField_rec e2 (by simp) fun h3 e3 sb3 => ?_)
  replace e3 : IsEnum h3 e it ((i : Int) + 1) old := e3
  replace sb1 : Heap.SameBut it hp h1 := sb1
  replace sb2 : Heap.SameBut e h1 h2 := sb2
  replace sb3 : Heap.SameBut e h2 h3 := sb3
  have z : h3.objs.size = hp.objs.size := by rw [sb3.1, sb2.1, sb1.1]
  show wpAny _ _ (newTuple [.int i tk, x] >>= _) _ _ ⟨h3, g, d, tk + 1, os⟩
  refine wpAny_bind (wpAny_newTuple ?_)
  have p4 : P (h3.push { cls := .type "tuple", data := .seq #[.int i tk, x] }) := pk _ _ (fun o q => Heap.get?_push_of_some _ q) (apart sb3 (apart sb2 p1))
  have e4 : IsEnum (h3.push { cls := .type "tuple", data := .seq #[.int i tk, x] }) e it ((i : Int) + 1) old := Heap.get?_push_of_some _ e3
  have t4 : (h3.push { cls := .type "tuple", data := .seq #[.int i tk, x] }).get? hp.objs.size = some { cls := .type "tuple", data := .seq #[.int i tk, x] } := by rw [← z]; exact Heap.get?_push_size _ rfl
  have z4 : (h3.push { cls := .type "tuple", data := .seq #[.int i tk, x] }).objs.size = hp.objs.size + 1 := by rw [Heap.size_push, z]
  have k4 : ∀ b o, b ≠ e → b ≠ it → hp.get? b = some o → (h3.push { cls := .type "tuple", data := .seq #[.int i tk, x] }).get? b = some o := fun b o be bi q => Heap.get?_push_of_some _ (sb3.extBut b o be (sb2.extBut b o be (sb1.extBut b o bi q)))
  generalize h3.push { cls := .type "tuple", data := .seq #[.int i tk, x] } = h4 at p4 e4 t4 z4 k4
  rw [z]
  clear z sb1 sb2 sb3 e1 e2 e3 p1
  show wpAny _ _ (Builtin.SmallTypes.ownedTupleIsFree (.ref e) >>= _) _ _ ⟨h4, g, d, tk + 1, os⟩
  refine wpAny_bind ?_
  unfold Builtin.SmallTypes.ownedTupleIsFree
  refine wpAny_bind (wpAny_field e4 rfl (x := .none) rfl (wpAny_pure ?_))
  simp only [if_true]
  refine wpAny_bind (wpAny_rule (wpAny_bind (wpAny_field e4 rfl (x := old) rfl (wpAny_bind (wpAny_setField_rec e4 (by simp) fun h5 e5 sb5 => ?_)))))
  replace e5 : IsEnum h5 e it ((i : Int) + 1) x := e5
  show wpAny _ _ (Builtin.SmallTypes.ownedTupleHandOut (.ref e) (.ref hp.objs.size) >>= _) _ _ ⟨h5, g, d, tk + 1, os⟩
  refine wpAny_bind ?_
  unfold Builtin.SmallTypes.ownedTupleHandOut
  refine wpAny_bind (wpAny_setField_rec e5 (by simp) fun h6 e6 sb6 => ?_)
  replace e6 : IsEnumOut h6 e it ((i : Int) + 1) x hp.objs.size := e6
  refine wpAny_setField_rec e6 (by simp) fun h7 e7 sb7 => ?_
  replace e7 : IsEnumOut h7 e it ((i : Int) + 1) x hp.objs.size := e7
  replace sb5 : Heap.SameBut e h4 h5 := sb5
  replace sb6 : Heap.SameBut e h5 h6 := sb6
  replace sb7 : Heap.SameBut e h6 h7 := sb7
  have ne4 : hp.objs.size ≠ e := Nat.ne_of_gt el
  refine wpAny_bind (wpAny_letGo (wpAny_pure ⟨_, rfl, hQ h7 e7 (apart sb7 (apart sb6 (apart sb5 p4))) (sb7.extBut _ _ ne4 (sb6.extBut _ _ ne4 (sb5.extBut _ _ ne4 t4))) ?_ fun b o be bi q => sb7.extBut b o be (sb6.extBut b o be (sb5.extBut b o be (k4 b o be bi q)))⟩))
  rw [sb7.1, sb6.1, sb5.1, z4]
theorem enum_t_item {e it t : Addr} {i : Nat} {items : Array Value} {x old : Value} {Q : Option Value → Shared → Prop} (he : IsEnum s.heap e it i old) (hit : s.heap.IsTupleIter it t i) (ht : s.heap.IsTuple t items) (hx : items[i]? = some x) (hne : e ≠ it)
    (hQ : ∀ h', IsEnumOut h' e it ((i : Int) + 1) x s.heap.objs.size → h'.IsTupleIter it t (i + 1) → h'.get? s.heap.objs.size = some { cls := .type "tuple", data := .seq #[.int i s.toks, x] } → h'.objs.size = s.heap.objs.size + 1 →
      (∀ b o, b ≠ e → b ≠ it → s.heap.get? b = some o → h'.get? b = some o) → Q (some (.ref s.heap.objs.size)) { s with heap := h', toks := s.toks + 1 }) : wpAny (model prog w) A (pyNext (.ref e)) Q E s := by
  have hT : s.TypeIs (.ref e) "enumerate" := ⟨_, he, rfl⟩
  unfold pyNext
  refine wpAny_bind (wpAny_attempt (wpAny_callSpecial?_slot (name := Str.ofString "__next__") hT F.slot_enumerate_next (wpAny_call_entry F.slot_enumerate_next hT F.entry_enumerate_next ?_ (F.args_enumerate_next_1 _))))
  refine enum_step (P := fun h => h.IsTupleIter it t (i + 1)) he hne (fun h h' k p => ?_) (fun A Q q => next_t hit ht hx q) fun h' a b c d k => wpAny_pure (hQ h' a b c d k)
  obtain ⟨o, ho, r⟩ := p
  exact ⟨o, k o ho, r⟩
theorem enum_t_end {e it t : Addr} {i : Nat} {items : Array Value} {old : Value} {Q : Option Value → Shared → Prop} (hh : A.handled = none) (he : IsEnum s.heap e it i old) (hit : s.heap.IsTupleIter it t i) (ht : s.heap.IsTuple t items) (hx : items[i]? = none)
    (hQ : ∀ h', Heap.ExtBut it s.heap h' → Q none { s with heap := h' }) : wpAny (model prog w) A (pyNext (.ref e)) Q E s := by
  have hT : s.TypeIs (.ref e) "enumerate" := ⟨_, he, rfl⟩
  unfold pyNext
  refine wpAny_bind (wpAny_attempt (wpAny_callSpecial?_slot (name := Str.ofString "__next__") hT F.slot_enumerate_next (wpAny_call_entry F.slot_enumerate_next hT F.entry_enumerate_next ?_ (F.args_enumerate_next_1 _))))
  show wpAny _ _ (field (.ref e) 2 >>= _) _ _ _
  refine wpAny_bind (wpAny_field he rfl (x := .ref it) rfl (wpAny_bind (next_t_end hh hit ht hx fun h' x he' hx' => ?_)))
  obtain ⟨o, ho, hc⟩ := hx'
  exact wpAny_bind (wpAny_isInstance (T := "StopIteration") (b := true) ⟨o, ho, hc⟩ isSubtype_stop (wpAny_pure (hQ _ he')))
end
theorem new_t (t : Addr) (items : Array Value) (n : Nat) (dct : Option Addr) (sl : Array (Option Value)) :
    Meets (Builtin.«enumerate.__new__» ⟨[.type "enumerate", .ref t], []⟩) (fun _ R s => s.heap.get? t = some ⟨.type "tuple", dct, .seq items n, sl⟩ ∧
      R (.ok (.ret (.ref (s.heap.push { cls := .type "tuple_iterator", data := .fields #[.ref t, .int 0 0] }).objs.size)))
        { s with heap := (s.heap.push { cls := .type "tuple_iterator", data := .fields #[.ref t, .int 0 0] }).push { cls := .type "enumerate", data := .fields #[.none, .bool false, .ref s.heap.objs.size, rawInt 0, .none, .none] } }) :=
  .of_wp fun prog w A R s h => by
    obtain ⟨hp, g, d, tk, os⟩ := s
    obtain ⟨hl, h⟩ := h
    have hsub := sub_enumerate
    have hL : Heap.IsTuple (Shared.heap ⟨hp, g, d, tk, os⟩) t items := ⟨_, hl, rfl, n, rfl⟩
    wp_walk using wpAny_loadPart' hl
    refine wpAny_stack_any fun st => wpAny_pure ?_
    split
    · rename_i c _ _ _ _ _
      cases (c == Value.type "enumerate") <;> (wp_walk using wpAny_loadPart' hl, wpAny_pyIter_tuple hL; exact ⟨_, rfl, h⟩)
    · wp_walk using wpAny_loadPart' hl, wpAny_pyIter_tuple hL
      exact ⟨_, rfl, h⟩
section
variable {prog : Program} {w : World} {A : Around} {E : Value → Shared → Prop} {s : Shared}
theorem call_enumT {t : Addr} {items : Array Value} {Q : Value → Shared → Prop} (hL : s.heap.IsTuple t items)
    (h : ∀ h', IsEnum h' (s.heap.objs.size + 1) s.heap.objs.size 0 .none → h'.IsTupleIter s.heap.objs.size t 0 → (∀ b o, s.heap.get? b = some o → h'.get? b = some o) → Q (.ref (s.heap.objs.size + 1)) { s with heap := h' }) : wpAny (model prog w) A (call (.type "enumerate") [.ref t]) Q E s := by
  obtain ⟨⟨c, dct, dt, sl⟩, hl, hc, n, hd⟩ := hL
  dsimp only at hc hd
  subst hc hd
  refine callType_new F.called_enumerate (by decide) (F.typeCall_enumerate_1 _) (F.newCall_enumerate_1 _) (fun obj => F.args_object_init_2 obj _) F.entry_enumerate_new (new_t t items n dct sl) ⟨hl, ?_⟩
  have z : (s.heap.push { cls := .type "tuple_iterator", data := .fields #[.ref t, .int 0 0] }).objs.size = s.heap.objs.size + 1 := Heap.size_push ..
  show _ ∧ _
  rw [z]
  have he : IsEnum ((s.heap.push { cls := .type "tuple_iterator", data := .fields #[.ref t, .int 0 0] }).push { cls := .type "enumerate", data := .fields #[.none, .bool false, .ref s.heap.objs.size, rawInt 0, .none, .none] }) (s.heap.objs.size + 1) s.heap.objs.size 0 .none := by
    rw [← z]
    exact Heap.get?_push_size _ rfl
  exact ⟨⟨_, he, rfl⟩, h _ he ⟨_, Heap.get?_push_of_some _ (Heap.get?_push_size _ rfl), rfl, rfl⟩ fun b o x => Heap.get?_push_of_some _ (Heap.get?_push_of_some _ x)⟩
end
/-- the tuple at a, each item in a new pair with its number -/
def IteT (K : PySem.W.Frag) (a : Addr) : It :=
  ⟨fun i H => ∃ (xs : List V) (x : V), SqT K H a xs ∧ xs[i]? = some x, fun i H v H' => ∃ T x, v = .ref T ∧ H T = none ∧ H' = upd H T (.tup [.int (i : Nat), x]) ∧ ∀ xs, SqT K H a xs → xs[i]? = some x, fun i H => ∃ xs : List V, SqT K H a xs ∧ xs.length ≤ i⟩
theorem turn_enumT {P : Program} {w : World} {K : PySem.W.Frag} {elts : List Expr} {kk : Nat} {tpos : Pos} (a e it : Addr) :
    Turn P w K (.Tuple elts kk tpos) (IteT K a) [e, it] e (fun i h => (∃ old, IsEnum h e it ((i : Nat) : Int) old) ∧ h.IsTupleIter it a i ∧ e ≠ it) where
  mem := by simp
  obj := fun i h st b hb => by
    obtain ⟨⟨old, he⟩, ⟨o, ho, hc, hd⟩, _⟩ := st
    rcases (by simpa using hb : b = e ∨ b = it) with z | z
    · rw [z]; exact ⟨_, he, fun v q => nomatch q⟩
    · rw [z]; exact ⟨o, ho, fun v q => by rw [hd] at q; cases q⟩
  keep := fun i h h' st k => by
    obtain ⟨⟨old, he⟩, ⟨o, ho, r⟩, hne⟩ := st
    exact ⟨⟨old, k e (by simp) _ he⟩, ⟨o, k it (by simp) o ho, r⟩, hne⟩
  item := by
    intro X hP hw hK hc i pins s σ H E I hf st hg
    subst hP hw hK
    obtain ⟨⟨old, he⟩, hit, hne⟩ := st
    obtain ⟨xs, x, hq, hx⟩ := hg
    obtain ⟨its, rv, p, hz⟩ := I.tuple hq
    obtain ⟨u, hu, ru⟩ := rv.get hx
    have el := Heap.lt_size he
    have il : it < s.heap.objs.size := by
      obtain ⟨_, q, _⟩ := hit
      exact Heap.lt_size q
    refine enum_t_item he hit (show s.heap.IsTuple a its.toArray from p) (x := u) (by simpa using hu) hne fun h' ho hit' hT hsz hk => ?_
    refine ⟨_, rfl, wpAny_letOwnedTupleGo_enum (s := { s with heap := h', toks := s.toks + 1 }) ho fun h'' he' sb => ?_⟩
    have hT2 : h''.get? s.heap.objs.size = some { cls := .type "tuple", data := .seq #[.int i s.toks, u] } := (sb.2 _ (Nat.ne_of_gt el)).trans hT
    have I1 : Inv X pins σ (upd H s.heap.objs.size (.tup [.int (i : Nat), x])) { s with heap := h'', toks := s.toks + 1 } :=
      I.turnedNew (ch := [e, it]) (fun b ob hb q => (sb.2 b (fun z => hb (by simp [z]))).trans (hk b ob (fun z => hb (by simp [z])) (fun z => hb (by simp [z])) q)) hf (Nat.le_refl _) ⟨by show 2 ≤ sizeLine; decide, [.int i s.toks, u], .cons ⟨_, rfl⟩ (.cons ru .nil), ⟨_, hT2, rfl, _, rfl⟩⟩
    refine ⟨.ref s.heap.objs.size, _, I1, rfl, ⟨_, x, rfl, I.hok.fresh (Nat.le_refl _), rfl, fun ys hy => by rw [I.tuple_inj hy hq]; exact hx⟩, ⟨⟨u, ?_⟩, ?_, hne⟩, fun b hb => ?_⟩
    · rw [show ((i + 1 : Nat) : Int) = (i : Int) + 1 by omega]
      exact he'
    · obtain ⟨o, ho, r⟩ := hit'
      exact ⟨o, (sb.2 it (Ne.symm hne)).trans ho, r⟩
    · have lt : b < s.heap.objs.size := by
        rcases (by simpa using hb : b = e ∨ b = it) with z | z
        · rw [z]; exact el
        · rw [z]; exact il
      rw [upd_ne (Nat.ne_of_lt lt)]
      exact (hf b hb).1
  done := by
    intro X hP hw hK hc i pins s σ H E I hf st hg
    subst hP hw hK
    obtain ⟨⟨old, he⟩, hit, hne⟩ := st
    obtain ⟨xs, hq, hx⟩ := hg
    obtain ⟨its, rv, p, hz⟩ := I.tuple hq
    obtain ⟨f0, f1, f2, f3, f4, f5⟩ := hf it (by simp)
    have hl := rv.length
    exact enum_t_end (I.ok.hd hc) he hit (show s.heap.IsTuple a its.toArray from p) (by simp; omega) fun h' eb => ⟨rfl, I.turned (t' := s.toks) (fun b o hb q => eb b o hb q) f0 f1 f3 f4 f5⟩
  self := fun A i s Q E st h => by
    obtain ⟨⟨_, he⟩, _⟩ := st
    exact wpAny_pyIter_enum he h
@[irreducible] def iEnumT (K : PySem.W.Frag) (ta : TA) : TI := fun σ H R => ta σ H fun vs H1 => ∃ a xs, vs = [.ref a] ∧ SqT K H1 a xs ∧ R (IteT K a) H1
theorem pi_enumT {X : Cx} {e : Expr} {ta : TA} {p pos tpos : Pos} {elts : List Expr} {kk : Nat} (hg : Gl X "enumerate") (hm : X.mg "enumerate" = none) (ha : PA X [e] ta) (hs : starEach [e] X.env = [(false, eval e X.env)] := by rfl) :
    PI X (.Tuple elts kk tpos) (.Call (.Name "enumerate" p) [e] [] pos) (iEnumT X.K ta) := by
  refine ⟨fun pins s σ H R I h => ?_⟩
  unfold iEnumT at h
  refine Call_ (ld_blt I hg hm boot_enumerate (PyProof.Rows.callWith_type1 (thn (ha.run pos pins s σ H _ I h) fun us s1 ⟨vs, H1, I1, r1, a, xs, ex, hq, q⟩ => ?_) hs rfl))
  subst ex
  cases r1 with
  | cons r rr =>
    cases rr
    cases r
    obtain ⟨its, rv, p', hz⟩ := I1.tuple hq
    refine call_enumT (show s1.heap.IsTuple a its.toArray from p') fun h' he hit hk => wpAny_pyIter_enum he ?_
    refine ⟨s1.heap.objs.size + 1, [s1.heap.objs.size + 1, s1.heap.objs.size], _, _, H1, rfl, I1.kept (t' := s1.toks) hk, turn_enumT a (s1.heap.objs.size + 1) s1.heap.objs.size, ⟨⟨.none, he⟩, hit, Nat.succ_ne_self _⟩, fun b hb => ?_, q⟩
    have hle : s1.heap.objs.size ≤ b := by
      rcases (by simpa using hb : b = s1.heap.objs.size + 1 ∨ b = s1.heap.objs.size) with z | z
      · rw [z]; exact Nat.le_add_right _ _
      · rw [z]; exact Nat.le_refl _
    exact I1.fpOk hle (I1.hok.fresh hle)
theorem walk_enumT {K : PySem.W.Frag} {a : Addr} {xs : List V} : Walk (IteT K a) xs.length (fun H => SqT K H a xs) (fun i H v H' => ∃ T x, v = .ref T ∧ H T = none ∧ H' = upd H T (.tup [.int (i : Nat), x]) ∧ xs[i]? = some x) :=
  ⟨fun i H hi h => ⟨xs, xs[i], h, by simp [hi]⟩, fun H h => ⟨xs, h, Nat.le_refl _⟩, fun i H x H' hi h y => by
    obtain ⟨T, z, h1, h2, h3, h4⟩ := y
    exact ⟨T, z, h1, h2, h3, h4 xs h⟩⟩
end En
set_option maxHeartbeats 1000000
/-! data: what stands in the heap, told without it -/
namespace Dl
open PySem PySem.Spec PyProof.Rows L2 Lcn Sq
inductive Dt where
  | non | bl (b : Bool) | int (i : Int) | str (s : Str)
  | lst (xs : List Dt) | tup (xs : List Dt) | ins (C : Addr) (fs : List (Str × Dt))
/-! ### the source of draws -/
structure SrcOk (p h m : Int) : Prop where
  p0 : 0 ≤ p
  h0 : 0 ≤ h
  m0 : 0 ≤ m
  m1 : m < 2147483647
def srcO (L : Addr) (p h m : Int) : HO := .lst [.ref L, .int p, .int h, .int m]
structure SrcAt (H : Hp) (a L : Addr) (ns : List Int) (p h m : Int) : Prop where
  ok : SrcOk p h m
  at_ : H a = some (srcO L p h m)
  ls : H L = some (.lst (ns.map V.int))
  ne : L ≠ a
def Src (H : Hp) (a L : Addr) (ns : List Int) : Prop := ∃ p h m, SrcAt H a L ns p h m
abbrev Sc := Option (Addr × Addr × List Int)
/-- what may change -/
def ch (S : Sc) (b : Addr) : Prop := match S with
  | none => False
  | some z => b = z.1
/-- where the source stands -/
def sa (S : Sc) (b : Addr) : Prop := match S with
  | none => False
  | some z => b = z.1 ∨ b = z.2.1
def Gs (S : Sc) (H : Hp) : Prop := match S with
  | none => True
  | some z => Src H z.1 z.2.1 z.2.2
structure Stp (S : Sc) (H H' : Hp) : Prop where
  keep : ∀ b o, ¬ ch S b → H b = some o → H' b = some o
  on : Gs S H → Gs S H'
theorem ch_sa {S : Sc} {b : Addr} (h : ch S b) : sa S b := by
  cases S with
  | none => exact h
  | some z => exact .inl h
theorem Gs.dep {S : Sc} {H H' : Hp} (g : Gs S H) (k : ∀ b o, sa S b → H b = some o → H' b = some o) : Gs S H' := by
  cases S with
  | none => trivial
  | some z =>
    obtain ⟨p, h, m, q⟩ := g
    exact ⟨p, h, m, q.ok, k _ _ (.inl rfl) q.at_, k _ _ (.inr rfl) q.ls, q.ne⟩
theorem Gs.dom {S : Sc} {H : Hp} (g : Gs S H) {b : Addr} (h : sa S b) : ∃ o, H b = some o := by
  cases S with
  | none => exact h.elim
  | some z =>
    obtain ⟨p, hh, m, q⟩ := g
    rcases h with rfl | rfl
    · exact ⟨_, q.at_⟩
    · exact ⟨_, q.ls⟩
theorem Stp.refl {S : Sc} (H : Hp) : Stp S H H := ⟨fun _ _ _ h => h, fun g => g⟩
theorem Stp.trans {S : Sc} {H H1 H2 : Hp} (a : Stp S H H1) (b : Stp S H1 H2) : Stp S H H2 := ⟨fun c o n h => b.keep c o n (a.keep c o n h), fun g => b.on (a.on g)⟩
theorem Stp.of {S : Sc} {H H' : Hp} (e : Same H H') : Stp S H H' := ⟨fun b o _ h => e b o h, fun g => g.dep fun b o _ h => e b o h⟩
theorem Stp.new {S : Sc} {H : Hp} {p : Addr} {o : HO} (h : H p = none) : Stp S H (upd H p o) := Stp.of (same_new h)
/-! ### what v stands for -/
def Lz (av : Addr → Prop) (H : Hp) (a : Addr) (xs : List V) : Prop := ¬ av a ∧ H a = some (.lst xs)
def Tz (K : PySem.W.Frag) (av : Addr → Prop) (H : Hp) (a : Addr) (xs : List V) : Prop := ¬ av a ∧ H a = some (.tup xs)
theorem Lz.sq {K : PySem.W.Frag} {av : Addr → Prop} {H : Hp} {a : Addr} {xs : List V} (h : Lz av H a xs) : SqL K H a xs := SqL.of h.2
theorem Tz.sq {K : PySem.W.Frag} {av : Addr → Prop} {H : Hp} {a : Addr} {xs : List V} (h : Tz K av H a xs) : SqT K H a xs := SqT.of h.2
theorem rd_move {av av' : Addr → Prop} {H H' : Hp} {a : Addr} {u : HO} (h : ¬ av a ∧ Rd H a u) (k : ∀ b o, ¬ av b → H b = some o → H' b = some o) (m : ∀ b, av' b → av b ∨ H b = none) : ¬ av' a ∧ Rd H' a u := by
  obtain ⟨n, r⟩ := h
  refine ⟨fun z => ?_, r.imp (k _ _ n) fun ⟨o, q⟩ => ⟨o, k _ _ n q⟩⟩
  rcases m a z with z | z
  · exact n z
  · rcases r with r | ⟨o, r⟩ <;> rw [z] at r <;> cases r
inductive Rep (K : PySem.W.Frag) (av : Addr → Prop) (H : Hp) : V → Dt → Prop
  | non : Rep K av H .non .non
  | bl (b : Bool) : Rep K av H (.bl b) (.bl b)
  | int (i : Int) : Rep K av H (.int i) (.int i)
  | str (s : Str) : Rep K av H (.str s) (.str s)
  | lst {a : Addr} {xs : List V} {ds : List Dt} (h : Lz av H a xs) (l : xs.length = ds.length) (f : ∀ (i : Nat) (x : V) (d : Dt), xs[i]? = some x → ds[i]? = some d → Rep K av H x d) : Rep K av H (.ref a) (.lst ds)
  | tup {a : Addr} {xs : List V} {ds : List Dt} (h : Tz K av H a xs) (l : xs.length = ds.length) (f : ∀ (i : Nat) (x : V) (d : Dt), xs[i]? = some x → ds[i]? = some d → Rep K av H x d) : Rep K av H (.ref a) (.tup ds)
  | ins {a C dx : Addr} {fs : List (Str × V)} {es : List (Str × Dt)} (na : ¬ av a) (h : H a = some (.ins C dx fs)) (l : fs.map Prod.fst = es.map Prod.fst) (f : ∀ (i : Nat) (x : Str × V) (d : Str × Dt), fs[i]? = some x → es[i]? = some d → Rep K av H x.2 d.2) : Rep K av H (.ref a) (.ins C es)
theorem Rep.move {K : PySem.W.Frag} {av av' : Addr → Prop} {H H' : Hp} {v : V} {d : Dt} (h : Rep K av H v d) (k : ∀ b o, ¬ av b → H b = some o → H' b = some o) (m : ∀ b, av' b → av b ∨ H b = none) : Rep K av' H' v d := by
  induction h with
  | non => exact .non
  | bl b => exact .bl b
  | int i => exact .int i
  | str s => exact .str s
  | lst h l _ ih =>
    refine .lst ⟨fun z => ?_, k _ _ h.1 h.2⟩ l ih
    rcases m _ z with z | z
    · exact h.1 z
    · rw [h.2] at z
      cases z
  | tup h l _ ih =>
    refine .tup ⟨fun z => ?_, k _ _ h.1 h.2⟩ l ih
    rcases m _ z with z | z
    · exact h.1 z
    · rw [h.2] at z
      cases z
  | ins na h l _ ih =>
    refine .ins (fun z => ?_) (k _ _ na h) l ih
    rcases m _ z with z | z
    · exact na z
    · rw [z] at h
      cases h
/-- things one by one -/
structure RepL (K : PySem.W.Frag) (av : Addr → Prop) (H : Hp) (xs : List V) (ds : List Dt) : Prop where
  l : xs.length = ds.length
  f : ∀ (i : Nat) (x : V) (d : Dt), xs[i]? = some x → ds[i]? = some d → Rep K av H x d
section
variable {K : PySem.W.Frag} {av av' : Addr → Prop} {H H' : Hp}
theorem RepL.move {xs : List V} {ds : List Dt} (h : RepL K av H xs ds) (k : ∀ b o, ¬ av b → H b = some o → H' b = some o) (m : ∀ b, av' b → av b ∨ H b = none) : RepL K av' H' xs ds := ⟨h.l, fun i x d h1 h2 => (h.f i x d h1 h2).move k m⟩
theorem Rep.same {v : V} {d : Dt} (h : Rep K av H v d) (e : Same H H') : Rep K av H' v d := h.move (fun b o _ x => e b o x) fun _ z => .inl z
theorem RepL.same {xs : List V} {ds : List Dt} (h : RepL K av H xs ds) (e : Same H H') : RepL K av H' xs ds := h.move (fun b o _ x => e b o x) fun _ z => .inl z
theorem Rep.mono {v : V} {d : Dt} (h : Rep K av H v d) (m : ∀ b, av' b → av b) : Rep K av' H v d := h.move (fun _ _ _ x => x) fun b z => .inl (m b z)
theorem RepL.mono {xs : List V} {ds : List Dt} (h : RepL K av H xs ds) (m : ∀ b, av' b → av b) : RepL K av' H xs ds := h.move (fun _ _ _ x => x) fun b z => .inl (m b z)
theorem RepL.nil : RepL K av H [] [] := ⟨rfl, fun i x d h => by cases i <;> cases h⟩
theorem RepL.cons {x : V} {d : Dt} {xs : List V} {ds : List Dt} (h : Rep K av H x d) (t : RepL K av H xs ds) : RepL K av H (x :: xs) (d :: ds) := ⟨by rw [List.length_cons, List.length_cons, t.l], fun i y e h1 h2 => by
  cases i with
  | zero => cases h1; cases h2; exact h
  | succ j => exact t.f j y e h1 h2⟩
theorem RepL.head {x : V} {xs : List V} {d : Dt} {ds : List Dt} (h : RepL K av H (x :: xs) (d :: ds)) : Rep K av H x d ∧ RepL K av H xs ds :=
  ⟨h.f 0 x d rfl rfl, by have := h.l; simp at this; exact this, fun i y e h1 h2 => h.f (i + 1) y e h1 h2⟩
theorem RepL.append {xs ys : List V} {ds es : List Dt} (h : RepL K av H xs ds) (t : RepL K av H ys es) : RepL K av H (xs ++ ys) (ds ++ es) := ⟨by rw [List.length_append, List.length_append, h.l, t.l], fun i y e h1 h2 => by
  have hl := h.l
  rcases Nat.lt_or_ge i xs.length with lt | ge
  · rw [List.getElem?_append_left lt] at h1
    rw [List.getElem?_append_left (by omega)] at h2
    exact h.f i y e h1 h2
  · rw [List.getElem?_append_right ge] at h1
    rw [List.getElem?_append_right (by omega), ← hl] at h2
    exact t.f _ y e h1 h2⟩
theorem RepL.get {xs : List V} {ds : List Dt} (h : RepL K av H xs ds) {i : Nat} {d : Dt} (e : ds[i]? = some d) : ∃ x, xs[i]? = some x ∧ Rep K av H x d := by
  have hl := h.l
  have hi : i < ds.length := by
    rcases Nat.lt_or_ge i ds.length with h | h
    · exact h
    · rw [List.getElem?_eq_none h] at e
      cases e
  exact ⟨xs[i], by simp [hl, hi], h.f i _ d (by simp [hl, hi]) e⟩
theorem RepL.set {xs : List V} {ds : List Dt} (h : RepL K av H xs ds) {x : V} {d : Dt} (r : Rep K av H x d) (i : Nat) : RepL K av H (xs.set i x) (ds.set i d) := ⟨by simp [h.l], fun j y e h1 h2 => by
  by_cases hj : i = j
  · subst hj
    have hl := h.l
    have hi : i < xs.length := by
      rcases Nat.lt_or_ge i xs.length with h | h
      · exact h
      · rw [List.getElem?_eq_none (by simpa using h)] at h1
        cases h1
    rw [List.getElem?_set_self hi] at h1
    rw [List.getElem?_set_self (by omega)] at h2
    cases h1
    cases h2
    exact r
  · rw [List.getElem?_set_ne hj] at h1 h2
    exact h.f j y e h1 h2⟩
theorem RepL.sub {xs : List V} {ds : List Dt} (h : RepL K av H xs ds) (f : Nat → Nat) {ys : List V} {es : List Dt} (l : ys.length = es.length) (a : ∀ i y, ys[i]? = some y → xs[f i]? = some y) (b : ∀ i e, es[i]? = some e → ds[f i]? = some e) : RepL K av H ys es := ⟨l, fun i y e h1 h2 => h.f _ y e (a i y h1) (b i e h2)⟩
theorem RepL.drop {xs : List V} {ds : List Dt} (h : RepL K av H xs ds) (n : Nat) : RepL K av H (xs.drop n) (ds.drop n) := h.sub (fun i => n + i) (by simp [h.l]) (fun i y e => by rwa [List.getElem?_drop] at e) (fun i y e => by rwa [List.getElem?_drop] at e)
theorem RepL.take {xs : List V} {ds : List Dt} (h : RepL K av H xs ds) (n : Nat) : RepL K av H (xs.take n) (ds.take n) := ⟨by simp [h.l], fun i y e h1 h2 => by
  rw [List.getElem?_take] at h1 h2
  split at h1
  · exact h.f i y e h1 (by rw [if_pos (by assumption)] at h2; exact h2)
  · cases h1⟩
/-- what is told by no address -/
def Dt.flat : Dt → Bool
  | .non => true
  | .bl _ => true
  | .int _ => true
  | .str _ => true
  | _ => false
theorem Rep.flat {v : V} {d : Dt} (h : Rep K av H v d) (f : d.flat = true) : Rep K av' H' v d := by
  cases h with
  | non => exact .non
  | bl b => exact .bl b
  | int i => exact .int i
  | str s => exact .str s
  | lst => cases f
  | tup => cases f
  | ins => cases f
theorem Rep.int_inv {v : V} {i : Int} (h : Rep K av H v (.int i)) : v = .int i := by cases h; rfl
theorem Rep.bl_inv {v : V} {i : Bool} (h : Rep K av H v (.bl i)) : v = .bl i := by cases h; rfl
theorem Rep.str_inv {v : V} {i : Str} (h : Rep K av H v (.str i)) : v = .str i := by cases h; rfl
theorem Rep.non_inv {v : V} (h : Rep K av H v .non) : v = .non := by cases h; rfl
theorem Rep.lst_inv {v : V} {ds : List Dt} (h : Rep K av H v (.lst ds)) : ∃ a xs, v = .ref a ∧ Lz av H a xs ∧ RepL K av H xs ds := by
  cases h with
  | lst h l f => exact ⟨_, _, rfl, h, l, f⟩
theorem Rep.tup_inv {v : V} {ds : List Dt} (h : Rep K av H v (.tup ds)) : ∃ a xs, v = .ref a ∧ Tz K av H a xs ∧ RepL K av H xs ds := by
  cases h with
  | tup h l f => exact ⟨_, _, rfl, h, l, f⟩
theorem Rep.ins_inv {v : V} {C : Addr} {es : List (Str × Dt)} (h : Rep K av H v (.ins C es)) : ∃ a dx fs, v = .ref a ∧ ¬ av a ∧ H a = some (.ins C dx fs) ∧ fs.map Prod.fst = es.map Prod.fst ∧ ∀ (i : Nat) (x : Str × V) (d : Str × Dt), fs[i]? = some x → es[i]? = some d → Rep K av H x.2 d.2 := by
  cases h with
  | ins na h l f => exact ⟨_, _, _, rfl, na, h, l, f⟩
/-- all in av stand -/
def Al (av : Addr → Prop) (H : Hp) : Prop := ∀ b, av b → ∃ o, H b = some o
theorem Al.na (h : Al av H) {p : Addr} (n : H p = none) : ¬ av p := fun z => by
  obtain ⟨o, e⟩ := h p z
  rw [n] at e
  cases e
theorem Al.same (h : Al av H) (e : Same H H') : Al av H' := fun b z => by
  obtain ⟨o, q⟩ := h b z
  exact ⟨o, e b o q⟩
theorem rep_newT {p : Addr} {xs : List V} {ds : List Dt} (al : Al av H) (n : H p = none) (r : RepL K av H xs ds) : Rep K av (upd H p (.tup xs)) (.ref p) (.tup ds) :=
  have r' := r.same (same_new (o := .tup xs) n)
  .tup ⟨al.na n, upd_same⟩ r'.l r'.f
theorem rep_newL {p : Addr} {xs : List V} {ds : List Dt} (al : Al av H) (n : H p = none) (r : RepL K av H xs ds) : Rep K av (upd H p (.lst xs)) (.ref p) (.lst ds) :=
  have r' := r.same (same_new (o := .lst xs) n)
  .lst ⟨al.na n, upd_same⟩ r'.l r'.f
end
/-! ### states -/
structure Ctx where
  K : PySem.W.Frag
  S : Sc
  av : Addr → Prop
  H0 : Hp
  gh : List (V × Dt)
/-- what an own object holds: a list, a dict by tuples, a dict by ints and texts -/
inductive Oc where
  | l (ds : List Dt) | t (es : List (List Key × Dt)) | k (es : List (Key × Dt)) | i (C : Addr) (es : List (Str × Dt))
def ORep (K : PySem.W.Frag) (av : Addr → Prop) (H : Hp) : HO → Oc → Prop
  | .lst xs, .l ds => RepL K av H xs ds
  | .dT kvs, .t es => kvs.map Prod.fst = es.map Prod.fst ∧ RepL K av H (kvs.map Prod.snd) (es.map Prod.snd)
  | .dK kvs, .k es => kvs.map Prod.fst = es.map Prod.fst ∧ RepL K av H (kvs.map Prod.snd) (es.map Prod.snd)
  | .ins C _ fs, .i C' es => C = C' ∧ fs.map Prod.fst = es.map Prod.fst ∧ RepL K av H (fs.map Prod.snd) (es.map Prod.snd)
  | _, _ => False
theorem ORep.move {K : PySem.W.Frag} {av av' : Addr → Prop} {H H' : Hp} {u : HO} {c : Oc} (h : ORep K av H u c) (k : ∀ b o, ¬ av b → H b = some o → H' b = some o) (m : ∀ b, av' b → av b ∨ H b = none) : ORep K av' H' u c := by
  unfold ORep at h ⊢
  split at h
  · exact RepL.move h k m
  · exact ⟨h.1, h.2.move k m⟩
  · exact ⟨h.1, h.2.move k m⟩
  · exact ⟨h.1, h.2.1, h.2.2.move k m⟩
  · exact h.elim
theorem ORep.mono {K : PySem.W.Frag} {av av' : Addr → Prop} {H : Hp} {u : HO} {c : Oc} (h : ORep K av H u c) (m : ∀ b, av' b → av b) : ORep K av' H u c := h.move (fun _ _ _ x => x) fun b z => .inl (m b z)
theorem ORep.lst {K : PySem.W.Frag} {av : Addr → Prop} {H : Hp} {u : HO} {ds : List Dt} (h : ORep K av H u (.l ds)) : ∃ xs, u = .lst xs ∧ RepL K av H xs ds := by
  cases u <;> first | exact ⟨_, rfl, h⟩ | exact h.elim
theorem ORep.dt {K : PySem.W.Frag} {av : Addr → Prop} {H : Hp} {u : HO} {es : List (List Key × Dt)} (h : ORep K av H u (.t es)) : ∃ kvs, u = .dT kvs ∧ kvs.map Prod.fst = es.map Prod.fst ∧ RepL K av H (kvs.map Prod.snd) (es.map Prod.snd) := by
  cases u <;> first | exact ⟨_, rfl, h⟩ | exact h.elim
theorem ORep.dk {K : PySem.W.Frag} {av : Addr → Prop} {H : Hp} {u : HO} {es : List (Key × Dt)} (h : ORep K av H u (.k es)) : ∃ kvs, u = .dK kvs ∧ kvs.map Prod.fst = es.map Prod.fst ∧ RepL K av H (kvs.map Prod.snd) (es.map Prod.snd) := by
  cases u <;> first | exact ⟨_, rfl, h⟩ | exact h.elim
theorem ORep.ins {K : PySem.W.Frag} {av : Addr → Prop} {H : Hp} {u : HO} {C : Addr} {es : List (Str × Dt)} (h : ORep K av H u (.i C es)) : ∃ dx fs, u = .ins C dx fs ∧ fs.map Prod.fst = es.map Prod.fst ∧ RepL K av H (fs.map Prod.snd) (es.map Prod.snd) := by
  cases u with
  | ins C' dx fs =>
    obtain ⟨rfl, h1, h2⟩ := (h : C' = C ∧ fs.map Prod.fst = es.map Prod.fst ∧ RepL K av H (fs.map Prod.snd) (es.map Prod.snd))
    exact ⟨dx, fs, rfl, h1, h2⟩
  | _ => exact h.elim
inductive Sl where
  | any | val (d : Dt) | own (a : Addr) (c : Oc) | src
def Sl.at : Sl → Addr → Prop
  | .own a _, b => a = b
  | _, _ => False
def Zd (C : Ctx) (δ : List Sl) (b : Addr) : Prop := C.av b ∨ ∃ s, s ∈ δ ∧ s.at b
def SlOk (C : Ctx) (Z : Addr → Prop) (H : Hp) (o : Option (Option V)) : Sl → Prop
  | .any => True
  | .val d => ∃ v, o = some (some v) ∧ Rep C.K Z H v d
  | .own a ds => o = some (some (.ref a)) ∧ C.H0 a = none ∧ ¬ C.av a ∧ ∃ u, H a = some u ∧ ORep C.K Z H u ds
  | .src => ∃ z, C.S = some z ∧ o = some (some (.ref z.1))
structure Sok (C : Ctx) (H : Hp) (σ : L2.St) (δ : List Sl) : Prop where
  len : σ.length = δ.length
  sl : ∀ (i : Nat) (s : Sl), δ[i]? = some s → SlOk C (Zd C δ) H σ[i]? s
  uq : ∀ (i j : Nat) (a : Addr) (ds es : Oc), δ[i]? = some (.own a ds) → δ[j]? = some (.own a es) → i = j
  g : Gs C.S H
  st : Stp C.S C.H0 H
  avs : ∀ b, sa C.S b → C.av b
  ava : Al C.av H
  gh : ∀ p, p ∈ C.gh → Rep C.K (Zd C δ) H p.1 p.2
section
variable {C : Ctx} {H H' : Hp} {σ : L2.St} {δ : List Sl}
theorem Sok.lstAt (s : Sok C H σ δ) {i : Nat} {a : Addr} {ds : List Dt} (h : δ[i]? = some (.own a (.l ds))) : σ[i]? = some (some (.ref a)) ∧ C.H0 a = none ∧ ¬ C.av a ∧ ∃ xs, H a = some (.lst xs) ∧ RepL C.K (Zd C δ) H xs ds := by
  obtain ⟨h1, h2, h3, u, h5, h6⟩ := s.sl i _ h
  obtain ⟨xs, rfl, h6⟩ := h6.lst
  exact ⟨h1, h2, h3, xs, h5, h6⟩
theorem Sok.al0 (s : Sok C H σ δ) : Al C.av H := s.ava
theorem al_step {S : Sc} {av : Addr → Prop} (al : Al av H) (g : Gs S H) (e : Stp S H H') : Al av H' := fun b z => by
  by_cases c : ch S b
  · exact (e.on g).dom (ch_sa c)
  · obtain ⟨o, h⟩ := al b z
    exact ⟨o, e.keep b o c h⟩
theorem Sok.alz (s : Sok C H σ δ) : Al (Zd C δ) H := fun b z => by
  rcases z with z | ⟨u, m, e⟩
  · exact s.al0 b z
  · cases u with
    | own a ds =>
      obtain ⟨i, hi⟩ := List.mem_iff_getElem?.mp m
      obtain ⟨_, _, _, xs, h, _⟩ := s.sl i _ hi
      cases e
      exact ⟨_, h⟩
    | _ => exact e.elim
theorem zch (s : Sok C H σ δ) {b : Addr} (h : ch C.S b) : Zd C δ b := .inl (s.avs b (ch_sa h))
theorem Sok.step (s : Sok C H σ δ) (e : Stp C.S H H') : Sok C H' σ δ := by
  have k : ∀ b o, ¬ Zd C δ b → H b = some o → H' b = some o := fun b o n x => e.keep b o (fun c => n (zch s c)) x
  refine ⟨s.len, fun i u h => ?_, s.uq, e.on s.g, s.st.trans e, s.avs, al_step s.ava s.g e, fun p m => (s.gh p m).move k fun _ z => .inl z⟩
  have q := s.sl i u h
  cases u with
  | any => trivial
  | val d =>
    obtain ⟨v, h1, h2⟩ := q
    exact ⟨v, h1, h2.move k fun _ z => .inl z⟩
  | own a ds =>
    obtain ⟨h1, h2, h3, xs, h5, h6⟩ := q
    exact ⟨h1, h2, h3, xs, e.keep a _ (fun c => h3 (s.avs a (ch_sa c))) h5, h6.move k fun _ z => .inl z⟩
  | src => exact q
theorem rep_step (s : Sok C H σ δ) (e : Stp C.S H H') {v : V} {d : Dt} (r : Rep C.K (Zd C δ) H v d) : Rep C.K (Zd C δ) H' v d := r.move (fun b o n x => e.keep b o (fun c => n (zch s c)) x) fun _ z => .inl z
theorem rep_step0 (s : Sok C H σ δ) (e : Stp C.S H H') {v : V} {d : Dt} (r : Rep C.K C.av H v d) : Rep C.K C.av H' v d := r.move (fun b o n x => e.keep b o (fun c => n (s.avs b (ch_sa c))) x) fun _ z => .inl z
theorem zd_set {i : Nat} {u : Sl} {b : Addr} (h : Zd C (δ.set i u) b) : Zd C δ b ∨ u.at b := by
  rcases h with h | ⟨s, m, e⟩
  · exact .inl (.inl h)
  · rcases List.mem_or_eq_of_mem_set m with m | rfl
    · exact .inl (.inr ⟨s, m, e⟩)
    · exact .inr e
/-- a slot set to what is no own list -/
theorem Sok.set (s : Sok C H σ δ) {i : Nat} {v : V} {u : Sl} (hu : ∀ b, ¬ u.at b) (hv : ∀ Z, (∀ b, Z b → Zd C δ b) → SlOk C Z H (some (some v)) u) : Sok C H (σ.set i (some v)) (δ.set i u) := by
  have m : ∀ b, Zd C (δ.set i u) b → Zd C δ b := fun b z => (zd_set z).resolve_right (hu b)
  refine ⟨by simp [s.len], fun j w h => ?_, fun j k a ds es h1 h2 => ?_, s.g, s.st, s.avs, s.ava, fun p q => (s.gh p q).mono m⟩
  · by_cases hj : i = j
    · subst hj
      have hi : i < δ.length := by
        rcases Nat.lt_or_ge i δ.length with z | z
        · exact z
        · rw [List.getElem?_eq_none (by simpa using z)] at h
          cases h
      rw [List.getElem?_set_self hi] at h
      cases h
      rw [List.getElem?_set_self (by rw [s.len]; exact hi)]
      exact hv _ m
    · rw [List.getElem?_set_ne hj] at h
      rw [List.getElem?_set_ne hj]
      have q := s.sl j w h
      cases w with
      | any => trivial
      | val d =>
        obtain ⟨v, h1, h2⟩ := q
        exact ⟨v, h1, h2.mono m⟩
      | own a ds =>
        obtain ⟨h1, h2, h3, xs, h5, h6⟩ := q
        exact ⟨h1, h2, h3, xs, h5, h6.mono m⟩
      | src => exact q
  · have e : ∀ l a ds, (δ.set i u)[l]? = some (Sl.own a ds) → i ≠ l ∧ δ[l]? = some (Sl.own a ds) := fun l a ds h => by
      by_cases hl : i = l
      · subst hl
        have hi : i < δ.length := by
          rcases Nat.lt_or_ge i δ.length with z | z
          · exact z
          · rw [List.getElem?_eq_none (by simpa using z)] at h
            cases h
        rw [List.getElem?_set_self hi] at h
        cases h
        exact absurd rfl (hu a)
      · rw [List.getElem?_set_ne hl] at h
        exact ⟨hl, h⟩
    exact s.uq j k a ds es (e j a ds h1).2 (e k a es h2).2
theorem Sok.setV (s : Sok C H σ δ) {i : Nat} {v : V} {d : Dt} (r : Rep C.K (Zd C δ) H v d) : Sok C H (σ.set i (some v)) (δ.set i (.val d)) :=
  s.set (fun _ z => z) fun Z m => ⟨v, rfl, r.mono m⟩
theorem own_lt (s : Sok C H σ δ) {i : Nat} {u : Sl} (h : δ[i]? = some u) : i < δ.length := by
  rcases Nat.lt_or_ge i δ.length with z | z
  · exact z
  · rw [List.getElem?_eq_none z] at h
    cases h
/-- a slot told otherwise, the value as it was -/
theorem Sok.tell (s : Sok C H σ δ) {i : Nat} {u : Sl} (hu : ∀ b, ¬ u.at b) (hv : ∀ Z, (∀ b, Z b → Zd C (δ.set i u) b) → SlOk C Z H σ[i]? u) : Sok C H σ (δ.set i u) := by
  have m : ∀ b, Zd C (δ.set i u) b → Zd C δ b := fun b z => (zd_set z).resolve_right (hu b)
  refine ⟨by simp [s.len], fun j w h => ?_, fun j k a ds es h1 h2 => ?_, s.g, s.st, s.avs, s.ava, fun p q => (s.gh p q).mono m⟩
  · by_cases hj : i = j
    · subst hj
      have hi : i < δ.length := by
        rcases Nat.lt_or_ge i δ.length with z | z
        · exact z
        · rw [List.getElem?_eq_none (by simpa using z)] at h
          cases h
      rw [List.getElem?_set_self hi] at h
      cases h
      exact hv _ fun _ z => z
    · rw [List.getElem?_set_ne hj] at h
      have q := s.sl j w h
      cases w with
      | any => trivial
      | val d =>
        obtain ⟨v, h1, h2⟩ := q
        exact ⟨v, h1, h2.mono m⟩
      | own a ds =>
        obtain ⟨h1, h2, h3, xs, h5, h6⟩ := q
        exact ⟨h1, h2, h3, xs, h5, h6.mono m⟩
      | src => exact q
  · have e : ∀ (l : Nat) (a : Addr) (ds : Oc), (δ.set i u)[l]? = some (Sl.own a ds) → δ[l]? = some (Sl.own a ds) := fun l a ds h => by
      by_cases hl : i = l
      · subst hl
        have hi : i < δ.length := by
          rcases Nat.lt_or_ge i δ.length with z | z
          · exact z
          · rw [List.getElem?_eq_none (by simpa using z)] at h
            cases h
        rw [List.getElem?_set_self hi] at h
        cases h
        exact absurd rfl (hu a)
      · rw [List.getElem?_set_ne hl] at h
        exact h
    exact s.uq j k a ds es (e j a ds h1) (e k a es h2)
theorem Sok.drop (s : Sok C H σ δ) (i : Nat) : Sok C H σ (δ.set i .any) := s.tell (fun _ z => z) fun _ _ => trivial
/-- an own list, from here on a thing like others -/
theorem Sok.freeze (s : Sok C H σ δ) {i : Nat} {a : Addr} {ds : List Dt} (h : δ[i]? = some (.own a (.l ds))) : Sok C H σ (δ.set i (.val (.lst ds))) := by
  obtain ⟨h1, h2, h3, u, h5, h6⟩ := s.sl i _ h
  obtain ⟨xs, rfl, h6⟩ := h6.lst
  refine s.tell (fun _ z => z) fun Z m => ⟨.ref a, h1, ?_⟩
  have m2 : ∀ b, Z b → Zd C δ b := fun b z => (zd_set (m b z)).resolve_right fun z => z
  refine .lst ⟨fun z => ?_, h5⟩ h6.l fun i x d hx hd => (h6.f i x d hx hd).mono m2
  rcases m a z with z | ⟨u, hu, e⟩
  · exact h3 z
  · cases u with
    | own b es =>
      cases e
      obtain ⟨j, hj⟩ := List.mem_iff_getElem?.mp hu
      have hij : i ≠ j := fun e => by
        subst e
        rw [List.getElem?_set_self (own_lt s h)] at hj
        cases hj
      rw [List.getElem?_set_ne hij] at hj
      exact hij (s.uq _ _ _ _ _ h hj)
    | _ => exact e.elim
/-- a new list, kept as the def's own -/
theorem Sok.setO (s : Sok C H σ δ) {i : Nat} {p : Addr} {xs : HO} {ds : Oc} (n : H p = none) (e : Stp C.S H H') (hp : H' p = some xs) (r : ORep C.K (fun b => Zd C δ b ∨ b = p) H' xs ds) : Sok C H' (σ.set i (some (.ref p))) (δ.set i (.own p ds)) := by
  have m : ∀ b, Zd C (δ.set i (.own p ds)) b → Zd C δ b ∨ b = p := fun b z => (zd_set z).imp id Eq.symm
  have k : ∀ b o, ¬ Zd C δ b → H b = some o → H' b = some o := fun b o n x => e.keep b o (fun c => n (zch s c)) x
  have hz : ∀ b, Zd C (δ.set i (.own p ds)) b → Zd C δ b ∨ H b = none := fun b z => (m b z).imp id fun (z : b = p) => by rw [z]; exact n
  have nav : ¬ C.av p := s.al0.na n
  have h0 : C.H0 p = none := by
    cases q : C.H0 p with
    | none => rfl
    | some o =>
      by_cases c : ch C.S p
      · exact absurd (s.avs p (ch_sa c)) nav
      · rw [s.st.keep p o c q] at n
        cases n
  refine ⟨by simp [s.len], fun j w h => ?_, fun j l a es fs h1 h2 => ?_, e.on s.g, s.st.trans e, s.avs, al_step s.ava s.g e, fun p m => (s.gh p m).move k hz⟩
  · by_cases hj : i = j
    · subst hj
      have hi : i < δ.length := by
        rcases Nat.lt_or_ge i δ.length with z | z
        · exact z
        · rw [List.getElem?_eq_none (by simpa using z)] at h
          cases h
      rw [List.getElem?_set_self hi] at h
      cases h
      rw [List.getElem?_set_self (by rw [s.len]; exact hi)]
      exact ⟨rfl, h0, nav, xs, hp, r.mono m⟩
    · rw [List.getElem?_set_ne hj] at h
      rw [List.getElem?_set_ne hj]
      have q := s.sl j w h
      cases w with
      | any => trivial
      | val d =>
        obtain ⟨v, h1, h2⟩ := q
        exact ⟨v, h1, h2.move k hz⟩
      | own a es =>
        obtain ⟨h1, h2, h3, ys, h5, h6⟩ := q
        exact ⟨h1, h2, h3, ys, e.keep a _ (fun c => h3 (s.avs a (ch_sa c))) h5, h6.move k hz⟩
      | src => exact q
  · have old : ∀ (l : Nat) (a : Addr) (es : Oc), i ≠ l → (δ.set i (Sl.own p ds))[l]? = some (Sl.own a es) → δ[l]? = some (Sl.own a es) ∧ a ≠ p := fun l a es hl h => by
      rw [List.getElem?_set_ne hl] at h
      refine ⟨h, fun z => ?_⟩
      obtain ⟨_, _, _, ys, h5, _⟩ := s.sl l _ h
      rw [z, n] at h5
      cases h5
    have new : ∀ (a : Addr) (es : Oc), (δ.set i (Sl.own p ds))[i]? = some (Sl.own a es) → a = p := fun a es h => by
      have hi : i < δ.length := by
        rcases Nat.lt_or_ge i δ.length with z | z
        · exact z
        · rw [List.getElem?_eq_none (by simpa using z)] at h
          cases h
      rw [List.getElem?_set_self hi] at h
      cases h
      rfl
    by_cases hj : i = j
    · by_cases hl : i = l
      · rw [← hj, ← hl]
      · subst hj
        exact absurd (new a es h1) (old l a fs hl h2).2
    · by_cases hl : i = l
      · subst hl
        exact absurd (new a fs h2) (old j a es hj h1).2
      · exact s.uq j l a es fs (old j a es hj h1).1 (old l a fs hl h2).1
/-- an own list changed -/
theorem Sok.upO (s : Sok C H σ δ) {i : Nat} {a : Addr} {ds es : Oc} {ys : HO} (h : δ[i]? = some (.own a ds)) (r : ORep C.K (Zd C δ) H ys es) : Sok C (upd H a ys) σ (δ.set i (.own a es)) := by
  obtain ⟨h1, h2, h3, xs, h5, h6⟩ := s.sl i _ h
  have za : Zd C δ a := .inr ⟨_, List.mem_iff_getElem?.mpr ⟨i, h⟩, rfl⟩
  have m : ∀ b, Zd C (δ.set i (.own a es)) b → Zd C δ b ∨ H b = none := fun b z => .inl ((zd_set z).elim id fun z => by cases z; exact za)
  have k : ∀ b o, ¬ Zd C δ b → H b = some o → upd H a ys b = some o := fun b o n x => by
    rw [upd_ne (fun (z : b = a) => n (by rw [z]; exact za))]
    exact x
  have nch : ∀ b, sa C.S b → b ≠ a := fun b c (z : b = a) => h3 (by rw [← z]; exact s.avs b c)
  refine ⟨by simp [s.len], fun j w hw => ?_, fun j l b e1 e2 g1 g2 => ?_, s.g.dep fun b o c x => by rw [upd_ne (nch b c)]; exact x, ⟨fun b o c x => ?_, fun g => ?_⟩, s.avs, fun b z => ?_, fun p mp => (s.gh p mp).move k m⟩
  · by_cases hj : i = j
    · subst hj
      rw [List.getElem?_set_self (own_lt s h)] at hw
      cases hw
      exact ⟨h1, h2, h3, ys, upd_same, r.move k m⟩
    · rw [List.getElem?_set_ne hj] at hw
      have q := s.sl j w hw
      cases w with
      | any => trivial
      | val d =>
        obtain ⟨v, g1, g2⟩ := q
        exact ⟨v, g1, g2.move k m⟩
      | own b es =>
        obtain ⟨g1, g2, g3, zs, g5, g6⟩ := q
        refine ⟨g1, g2, g3, zs, ?_, g6.move k m⟩
        rw [upd_ne (fun (z : b = a) => hj (s.uq i j a ds es h (by rw [← z]; exact hw)))]
        exact g5
      | src => exact q
  · have old : ∀ (l : Nat) (b : Addr) (fs : Oc), (δ.set i (Sl.own a es))[l]? = some (Sl.own b fs) → ∃ gs, δ[l]? = some (Sl.own b gs) := fun l b fs g => by
      by_cases hl : i = l
      · subst hl
        rw [List.getElem?_set_self (own_lt s h)] at g
        cases g
        exact ⟨_, h⟩
      · rw [List.getElem?_set_ne hl] at g
        exact ⟨_, g⟩
    obtain ⟨x1, q1⟩ := old j b e1 g1
    obtain ⟨x2, q2⟩ := old l b e2 g2
    exact s.uq j l b _ _ q1 q2
  · rw [upd_ne (fun z => by rw [z, h2] at x; cases x)]
    exact s.st.keep b o c x
  · exact (s.st.on g).dep fun b o c x => by rw [upd_ne (nch b c)]; exact x
  · obtain ⟨o, x⟩ := s.ava b z
    exact ⟨o, by rw [upd_ne (fun (e : b = a) => h3 (by rw [← e]; exact z))]; exact x⟩
/-- ghosts put on, taken off -/
theorem Sok.ghost (s : Sok C H σ δ) {gs : List (V × Dt)} (h : ∀ g, g ∈ gs → Rep C.K (Zd C δ) H g.1 g.2) : Sok { C with gh := gs ++ C.gh } H σ δ := by
  refine ⟨s.len, fun i u hu => ?_, s.uq, s.g, s.st, s.avs, s.ava, fun q m => ?_⟩
  · have q := s.sl i u hu
    cases u <;> exact q
  · rcases List.mem_append.mp m with m | m
    · exact h q m
    · exact s.gh q m
theorem Sok.unghost {gs : List (V × Dt)} (s : Sok { C with gh := gs ++ C.gh } H σ δ) : Sok C H σ δ ∧ ∀ g, g ∈ gs → Rep C.K (Zd C δ) H g.1 g.2 := by
  refine ⟨⟨s.len, fun i u hu => ?_, s.uq, s.g, s.st, s.avs, s.ava, fun q m => s.gh q (List.mem_append_right _ m)⟩, fun g m => s.gh g (List.mem_append_left _ m)⟩
  have q := s.sl i u hu
  cases u <;> exact q
/-- more to avoid: what is new -/
def Ctx.plus (C : Ctx) (D : Addr) : Ctx := { C with av := fun b => C.av b ∨ b = D }
theorem zd_plus {D b : Addr} : Zd (C.plus D) δ b ↔ Zd C δ b ∨ b = D := by
  unfold Zd Ctx.plus
  constructor
  · rintro ((h | h) | h)
    · exact .inl (.inl h)
    · exact .inr h
    · exact .inl (.inr h)
  · rintro ((h | h) | h)
    · exact .inl (.inl h)
    · exact .inr h
    · exact .inl (.inr h)
theorem Sok.plus (s : Sok C H σ δ) {D : Addr} (n : H D = none) {o : HO} : Sok (C.plus D) (upd H D o) σ δ := by
  have e : Stp C.S H (upd H D o) := Stp.new n
  have k : ∀ b o', ¬ Zd C δ b → H b = some o' → upd H D o b = some o' := fun b o' _ x => same_new n b o' x
  have m : ∀ b, Zd (C.plus D) δ b → Zd C δ b ∨ H b = none := fun b z => (zd_plus.mp z).imp id fun (z : b = D) => by rw [z]; exact n
  refine ⟨s.len, fun i u h => ?_, s.uq, e.on s.g, s.st.trans e, fun b z => .inl (s.avs b z), fun b z => ?_, fun p q => (s.gh p q).move k m⟩
  · have q := s.sl i u h
    cases u with
    | any => trivial
    | val d =>
      obtain ⟨v, h1, h2⟩ := q
      exact ⟨v, h1, h2.move k m⟩
    | own a ds =>
      obtain ⟨h1, h2, h3, xs, h5, h6⟩ := q
      refine ⟨h1, h2, fun z => z.elim h3 fun (z : a = D) => ?_, xs, same_new n _ _ h5, h6.move k m⟩
      rw [z, n] at h5
      cases h5
    | src => exact q
  · rcases z with z | z
    · exact al_step s.ava s.g e b z
    · rw [z]
      exact ⟨_, upd_same⟩
/-- any change that leaves all but D and what draws change -/
theorem Sok.plusStep {D : Addr} (s : Sok (C.plus D) H σ δ) (k : ∀ b o, ¬ ch C.S b → b ≠ D → H b = some o → H' b = some o) (g : Gs C.S H') (n0 : C.H0 D = none) (nD : ∃ o, H' D = some o) : Sok (C.plus D) H' σ δ := by
  have za : ∀ b, ¬ Zd (C.plus D) δ b → ¬ ch C.S b ∧ b ≠ D := fun b n => ⟨fun c => n (.inl (s.avs b (ch_sa c))), fun z => n (.inl (.inr z))⟩
  have k2 : ∀ b o, ¬ Zd (C.plus D) δ b → H b = some o → H' b = some o := fun b o n x => k b o (za b n).1 (za b n).2 x
  refine ⟨s.len, fun i u h => ?_, s.uq, g, ⟨fun b o c x => k b o c (fun z => by rw [z] at x; exact nomatch x.symm.trans n0) (s.st.keep b o c x), fun _ => g⟩, s.avs, fun b z => ?_, fun p q => (s.gh p q).move k2 fun _ z => .inl z⟩
  · have q := s.sl i u h
    cases u with
    | any => trivial
    | val d =>
      obtain ⟨v, h1, h2⟩ := q
      exact ⟨v, h1, h2.move k2 fun _ z => .inl z⟩
    | own a ds =>
      obtain ⟨h1, h2, h3, xs, h5, h6⟩ := q
      exact ⟨h1, h2, h3, xs, k _ _ (fun c => h3 (s.avs _ (ch_sa c))) (fun z => h3 (.inr z)) h5, h6.move k2 fun _ z => .inl z⟩
    | src => exact q
  · by_cases c : ch C.S b
    · exact g.dom (ch_sa c)
    · by_cases e : b = D
      · rw [e]
        exact nD
      · obtain ⟨o, x⟩ := s.ava b z
        exact ⟨o, k b o c e x⟩
end
end Dl
set_option maxHeartbeats 1000000
namespace Dl
open PySem PySem.Spec PyProof.Rows L2 Lcn Sq
abbrev EvE := List Sl → (Dt → Prop) → Prop
abbrev EvT := List Sl → (Bool → Prop) → Prop
abbrev EvA := List Sl → (List Dt → Prop) → Prop
/-- what a value avoids: z: all own lists too -/
def Zz (z : Bool) (C : Ctx) (δ : List Sl) : Addr → Prop := match z with
  | true => Zd C δ
  | false => C.av
def VE (z : Bool) (K : PySem.W.Frag) (te : TE) (ev : EvE) : Prop := ∀ (C : Ctx) (σ : L2.St) (δ : List Sl) (H : Hp) (Q : VK) (Qd : Dt → Prop), C.K = K → Sok C H σ δ → ev δ Qd → (∀ v d H', Stp C.S H H' → Rep K (Zz z C δ) H' v d → Qd d → Q v H') → te σ H Q
def DE {ι : Type} (z : Bool) (K : PySem.W.Frag) (X : ι → Cx) (e : Expr) (ev : EvE) : Prop := ∃ te, (∀ i, PE (X i) e te) ∧ VE z K te ev
def VT (K : PySem.W.Frag) (te : TT) (ev : EvT) : Prop := ∀ (C : Ctx) (σ : L2.St) (δ : List Sl) (H : Hp) (Q : Bool → Hp → Prop) (Qd : Bool → Prop), C.K = K → Sok C H σ δ → ev δ Qd → (∀ b H', Stp C.S H H' → Qd b → Q b H') → te σ H Q
def DT {ι : Type} (K : PySem.W.Frag) (X : ι → Cx) (e : Expr) (ev : EvT) : Prop := ∃ te, (∀ i, PT (X i) e te) ∧ VT K te ev
def DW {ι : Type} (K : PySem.W.Frag) (X : ι → Cx) (e : Expr) (ev : EvT) : Prop := ∃ te, (∀ i, PW (X i) e te) ∧ VT K te ev
def VA (z : Bool) (K : PySem.W.Frag) (te : TA) (ev : EvA) : Prop := ∀ (C : Ctx) (σ : L2.St) (δ : List Sl) (H : Hp) (Q : List V → Hp → Prop) (Qd : List Dt → Prop), C.K = K → Sok C H σ δ → ev δ Qd → (∀ vs ds H', Stp C.S H H' → RepL K (Zz z C δ) H' vs ds → Qd ds → Q vs H') → te σ H Q
def DA {ι : Type} (z : Bool) (K : PySem.W.Frag) (X : ι → Cx) (es : List Expr) (ev : EvA) : Prop := ∃ te, (∀ i, PA (X i) es te) ∧ VA z K te ev
section
variable {C : Ctx} {H H' : Hp} {σ : L2.St} {δ : List Sl} {z : Bool}
theorem Sok.al (s : Sok C H σ δ) : Al (Zz z C δ) H := by
  cases z
  · exact s.al0
  · exact s.alz
theorem rep_st (s : Sok C H σ δ) (e : Stp C.S H H') {v : V} {d : Dt} (r : Rep C.K (Zz z C δ) H v d) : Rep C.K (Zz z C δ) H' v d := by
  cases z
  · exact rep_step0 s e r
  · exact rep_step s e r
theorem repl_st (s : Sok C H σ δ) (e : Stp C.S H H') {v : List V} {d : List Dt} (r : RepL C.K (Zz z C δ) H v d) : RepL C.K (Zz z C δ) H' v d := ⟨r.l, fun i x d h1 h2 => rep_st s e (r.f i x d h1 h2)⟩
end
section
variable {ι : Type} {K : PySem.W.Frag} {X : ι → Cx} {z : Bool} {pos : Pos} {a b c e : Expr} {es : List Expr} {ea eb ec : EvE}
/-- less is avoided -/
theorem de_low (h : DE true K X a ea) : DE false K X a ea := by
  obtain ⟨t, p, v⟩ := h
  exact ⟨t, p, fun C σ δ H Q Qd k s e q => v C σ δ H Q Qd k s e fun v d H' e r q2 => q v d H' e (r.mono fun b z => .inl z) q2⟩
/-- what is flat avoids all -/
theorem de_flat (h : DE false K X a ea) : DE true K X a (fun δ Q => ea δ fun d => d.flat = true ∧ Q d) := by
  obtain ⟨t, p, v⟩ := h
  exact ⟨t, p, fun C σ δ H Q Qd k s e q => v C σ δ H Q _ k s e fun v d H' e r q2 => q v d H' e (r.flat q2.1) q2.2⟩
def dVar (i : Nat) : EvE := fun δ Q => match δ[i]? with
  | some (.val d) => Q d
  | _ => False
theorem de_var {i : Nat} {x : Str} (p : ∀ j, PE (X j) (.Name x pos) (tVar i)) : DE z K X (.Name x pos) (dVar i) := by
  refine ⟨_, p, fun C σ δ H Q Qd k s e q => ?_⟩
  subst k
  unfold dVar at e
  split at e
  · rename_i d h
    obtain ⟨v, h1, h2⟩ := s.sl i _ h
    refine ⟨v, h1, q v d H (Stp.refl H) ?_ e⟩
    cases z
    · exact h2.mono fun b z => .inl z
    · exact h2
  · exact e.elim
/-- a name of an own list or a thing, read and let go -/
def dVarO (i : Nat) : EvE := fun δ Q => match δ[i]? with
  | some (.val d) => Q d
  | some (.own _ (.l ds)) => Q (.lst ds)
  | _ => False
theorem de_varO {i : Nat} {x : Str} (p : ∀ j, PE (X j) (.Name x pos) (tVar i)) : DE false K X (.Name x pos) (dVarO i) := by
  refine ⟨_, p, fun C σ δ H Q Qd k s e q => ?_⟩
  subst k
  unfold dVarO at e
  split at e
  · rename_i d h
    obtain ⟨v, h1, h2⟩ := s.sl i _ h
    exact ⟨v, h1, q v d H (Stp.refl H) (h2.mono fun b z => .inl z) e⟩
  · rename_i a ds h
    obtain ⟨h1, _, h3, xs, h5, h6⟩ := s.lstAt h
    exact ⟨.ref a, h1, q _ _ H (Stp.refl H) (.lst ⟨h3, h5⟩ h6.l fun i x d hx hd => (h6.f i x d hx hd).mono fun b z => .inl z) e⟩
  · exact e.elim
def dC (d : Dt) : EvE := fun _ Q => Q d
theorem de_c {v : V} {d : Dt} (p : ∀ j, PE (X j) a (tC v)) (r : ∀ (K : PySem.W.Frag) (av : Addr → Prop) (H : Hp), Rep K av H v d) : DE z K X a (dC d) :=
  ⟨_, p, fun C σ δ H Q Qd k s e q => q v d H (Stp.refl H) (r _ _ _) e⟩
theorem de_int {i : Int} {j pos} : DE z K X (.Constant (.int i) j pos) (dC (.int i)) := de_c (fun _ => pe_int) fun _ _ _ => .int i
theorem de_bl {i : Bool} {j pos} : DE z K X (.Constant (.bool i) j pos) (dC (.bl i)) := de_c (fun _ => pe_bl) fun _ _ _ => .bl i
theorem de_non {j pos} : DE z K X (.Constant .none j pos) (dC .non) := de_c (fun _ => pe_non) fun _ _ _ => .non
theorem de_str {x : Str} {j pos} : DE z K X (.Constant (.str x) j pos) (dC (.str x)) := de_c (fun _ => pe_str) fun _ _ _ => .str x
/-! ### operators, by values -/
def ROk (K : PySem.W.Frag) (r : R2) (dr : Dt → Dt → (Dt → Prop) → Prop) : Prop := ∀ (av : Addr → Prop) (H : Hp) (x y : V) (dx dy : Dt) (Q : VK) (Qd : Dt → Prop), Al av H → Rep K av H x dx → Rep K av H y dy → dr dx dy Qd → (∀ v d H', Same H H' → Rep K av H' v d → Qd d → Q v H') → r x y H Q
theorem ROk.or {r r' : R2} {dr dr' : Dt → Dt → (Dt → Prop) → Prop} (h : ROk K r dr) (h' : ROk K r' dr') : ROk K (fun x y H Q => r x y H Q ∨ r' x y H Q) (fun x y Q => dr x y Q ∨ dr' x y Q) :=
  fun av H x y dx dy Q Qd al rx ry d q => d.imp (fun d => h av H x y dx dy Q Qd al rx ry d q) fun d => h' av H x y dx dy Q Qd al rx ry d q
theorem OpR.or {X : Cx} {f : Value → Value → Sem Value} {r r' : R2} (h : OpR X f r) (h' : OpR X f r') : OpR X f (fun x y H Q => r x y H Q ∨ r' x y H Q) := fun pins s σ H x y v u Q I rx ry q => q.elim (h pins s σ H x y v u Q I rx ry) (h' pins s σ H x y v u Q I rx ry)
theorem ROk.imp {r : R2} {dr dr' : Dt → Dt → (Dt → Prop) → Prop} (h : ROk K r dr) (i : ∀ x y Q, dr' x y Q → dr x y Q) : ROk K r dr' := fun av H x y dx dy Q Qd al rx ry d q => h av H x y dx dy Q Qd al rx ry (i _ _ _ d) q
def dOp (dr : Dt → Dt → (Dt → Prop) → Prop) (ea eb : EvE) : EvE := fun δ Q => ea δ fun x => eb δ fun y => dr x y Q
theorem ve_op {ta tb : TE} {r : R2} {dr : Dt → Dt → (Dt → Prop) → Prop} (ro : ROk K r dr) (va : VE z K ta ea) (vb : VE z K tb eb) : VE z K (tOp r ta tb) (dOp dr ea eb) := by
  intro C σ δ H Q Qd k s e q
  refine va C σ δ H _ _ k s e fun x dx H1 e1 r1 e => ?_
  refine vb C σ δ H1 _ _ k (s.step e1) e fun y dy H2 e2 r2 e => ?_
  have s2 := (s.step e1).step e2
  refine ro (Zz z C δ) H2 x y dx dy Q Qd s2.al ?_ r2 e fun v d H3 e3 r3 qd => q v d H3 ((e1.trans e2).trans (Stp.of e3)) r3 qd
  subst k
  exact rep_st (s.step e1) e2 r1
theorem de_op {op : Operator} {r : R2} {dr : Dt → Dt → (Dt → Prop) → Prop} (ho : ∀ i, OpR (X i) (binaryOp op) r) (ro : ROk K r dr) (ha : DE z K X a ea) (hb : DE z K X b eb) : DE z K X (.BinOp a op b pos) (dOp dr ea eb) := by
  obtain ⟨ta, pa, va⟩ := ha
  obtain ⟨tb, pb, vb⟩ := hb
  exact ⟨_, fun i => pe_op (ho i) (pa i) (pb i), ve_op ro va vb⟩
theorem de_cmp {op : CmpOp} {r : R2} {dr : Dt → Dt → (Dt → Prop) → Prop} (ho : ∀ i, OpR (X i) (compareOp op) r) (ro : ROk K r dr) (ha : DE z K X a ea) (hb : DE z K X b eb) (hm : behindInMarks op b = false) : DE z K X (.Compare a [op] [b] pos) (dOp dr ea eb) := by
  obtain ⟨ta, pa, va⟩ := ha
  obtain ⟨tb, pb, vb⟩ := hb
  exact ⟨_, fun i => pe_cmpR (ho i) (pa i) (pb i) hm, ve_op ro va vb⟩
def dTst (ea : EvE) : EvT := fun δ Q => ea δ fun d => ∃ b, d = .bl b ∧ Q b
theorem vt_tst {ta : TE} (va : VE z K ta ea) : VT K (tTest ta) (dTst ea) := by
  intro C σ δ H Q Qd k s e q
  refine va C σ δ H _ _ k s e fun x dx H1 e1 r1 e => ?_
  obtain ⟨b, rfl, e⟩ := e
  exact ⟨b, r1.bl_inv, q b H1 e1 e⟩
theorem vt_b {ta : TE} (va : VE z K ta ea) : VT K (tB ta) (dTst ea) := by
  intro C σ δ H Q Qd k s e q
  refine va C σ δ H _ _ k s e fun x dx H1 e1 r1 e => ?_
  obtain ⟨b, rfl, e⟩ := e
  exact ⟨b, r1.bl_inv, q b H1 e1 e⟩
theorem dt_cmp {op : CmpOp} {r : R2} {dr : Dt → Dt → (Dt → Prop) → Prop} (ho : ∀ i, OpR (X i) (compareOp op) r) (ro : ROk K r dr) (ha : DE false K X a ea) (hb : DE false K X b eb) (hm : behindInMarks op b = false) : DT K X (.Compare a [op] [b] pos) (dTst (dOp dr ea eb)) := by
  obtain ⟨ta, pa, va⟩ := ha
  obtain ⟨tb, pb, vb⟩ := hb
  exact ⟨_, fun i => pt_cmpR (ho i) (pa i) (pb i) hm, vt_tst (ve_op ro va vb)⟩
theorem dt_val (ha : DE false K X a ea) (he : ∀ i, ∀ whole, isTrue a (X i).env whole = (do let v ← whole; standAt a.pos; holding [v] (truthy v)) := by intro _ _; rfl) : DT K X a (dTst ea) := by
  obtain ⟨ta, pa, va⟩ := ha
  exact ⟨_, fun i => pt_val (pa i) (he i), vt_b va⟩
/-- truth of any thing -/
def truD : Dt → Option Bool
  | .non => some false
  | .bl b => some b
  | .int i => some (i != 0)
  | .str y => some ((y.length : Int) != 0)
  | .lst xs => some (!xs.isEmpty)
  | .tup xs => some (!xs.isEmpty)
  | .ins _ _ => none
def dTru (ea : EvE) : EvT := fun δ Q => ea δ fun d => (match d with
  | .str y => y.length ≤ sizeLine
  | _ => True) ∧ ∃ b, truD d = some b ∧ Q b
theorem repl_empty {av : Addr → Prop} {H : Hp} {xs : List V} {ds : List Dt} (r : RepL K av H xs ds) : (!ds.isEmpty) = !xs.isEmpty := by
  have := r.l
  cases xs <;> cases ds <;> simp_all
theorem dt_tru (ha : DE false K X a ea) (he : ∀ i, ∀ whole, isTrue a (X i).env whole = (do let v ← whole; standAt a.pos; holding [v] (truthy v)) := by intro _ _; rfl) (hK : ∀ i, (X i).K = K := by intro _; rfl) : DT K X a (dTru ea) := by
  obtain ⟨ta, pa, va⟩ := ha
  refine ⟨fun σ H Q => ta σ H fun x H' => ∃ k, TruV K x H' k ∧ Q k H', fun i => hK i ▸ pt_truth (pa i) (he i), fun C σ δ H Q Qd k s e q => ?_⟩
  refine va C σ δ H _ _ k s e fun x dx H1 e1 r1 e => ?_
  obtain ⟨g, b, tb, e⟩ := e
  refine ⟨b, ?_, q b H1 e1 e⟩
  cases r1 with
  | non => exact (Option.some.inj tb).symm
  | bl b => exact (Option.some.inj tb).symm
  | int i => exact (Option.some.inj tb).symm
  | str y => exact ⟨g, (Option.some.inj tb).symm⟩
  | lst h l f => exact .inl ⟨_, h.sq, (Option.some.inj tb).symm.trans (repl_empty (K := K) ⟨l, f⟩)⟩
  | tup h l f => exact .inr (.inl ⟨_, h.sq, (Option.some.inj tb).symm.trans (repl_empty (K := K) ⟨l, f⟩)⟩)
  | ins => cases tb
/-! ### and, or, not, if -/
variable {ta' tb' : EvT} {rest : List Expr}
def dAndT (t u : EvT) : EvT := fun δ Q => t δ fun c => if c = true then u δ Q else Q false
def dOrT (t u : EvT) : EvT := fun δ Q => t δ fun c => if c = true then Q true else u δ Q
def dNotT (t : EvT) : EvT := fun δ Q => t δ fun c => Q (!c)
theorem dw_and1 (h : DT K X a ta') : DW K X (.BoolOp .And [a] pos) ta' := by
  obtain ⟨t, p, v⟩ := h
  exact ⟨t, fun i => pw_and1 (p i), v⟩
theorem dw_or1 (h : DT K X a ta') : DW K X (.BoolOp .Or [a] pos) ta' := by
  obtain ⟨t, p, v⟩ := h
  exact ⟨t, fun i => pw_or1 (p i), v⟩
theorem dw_and (h : DT K X a ta') (h2 : DW K X (.BoolOp .And (b :: rest) pos) tb') : DW K X (.BoolOp .And (a :: b :: rest) pos) (dAndT ta' tb') := by
  obtain ⟨t, p, v⟩ := h
  obtain ⟨t2, p2, v2⟩ := h2
  refine ⟨_, fun i => pw_and (p i) (p2 i), fun C σ δ H Q Qd k s e q => ?_⟩
  refine v C σ δ H _ _ k s e fun c H1 e1 e => ?_
  cases c
  · exact q false H1 e1 e
  · exact v2 C σ δ H1 Q Qd k (s.step e1) e fun c H2 e2 e => q c H2 (e1.trans e2) e
theorem dw_or (h : DT K X a ta') (h2 : DW K X (.BoolOp .Or (b :: rest) pos) tb') : DW K X (.BoolOp .Or (a :: b :: rest) pos) (dOrT ta' tb') := by
  obtain ⟨t, p, v⟩ := h
  obtain ⟨t2, p2, v2⟩ := h2
  refine ⟨_, fun i => pw_or (p i) (p2 i), fun C σ δ H Q Qd k s e q => ?_⟩
  refine v C σ δ H _ _ k s e fun c H1 e1 e => ?_
  cases c
  · exact v2 C σ δ H1 Q Qd k (s.step e1) e fun c H2 e2 e => q c H2 (e1.trans e2) e
  · exact q true H1 e1 e
theorem dt_w (h : DW K X a ta') : DT K X a ta' := by
  obtain ⟨t, p, v⟩ := h
  exact ⟨t, fun i => (p i).pt, v⟩
theorem dt_not (h : DT K X a ta') : DT K X (.UnaryOp .Not a pos) (dNotT ta') := by
  obtain ⟨t, p, v⟩ := h
  refine ⟨_, fun i => pt_not (p i), fun C σ δ H Q Qd k s e q => ?_⟩
  exact v C σ δ H _ _ k s e fun c H1 e1 e => q _ H1 e1 e
/-- .. as values, where all are True or False -/
def dAndV (ea eb : EvE) : EvE := fun δ Q => ea δ fun d => ∃ c, d = .bl c ∧ if c = true then eb δ Q else Q (.bl false)
def dOrV (ea eb : EvE) : EvE := fun δ Q => ea δ fun d => ∃ c, d = .bl c ∧ if c = true then Q (.bl true) else eb δ Q
def dNotV (ea : EvE) : EvE := fun δ Q => ea δ fun d => ∃ c, d = .bl c ∧ Q (.bl (!c))
theorem de_one {op} (h : DE z K X a ea) : DE z K X (.BoolOp op [a] pos) ea := by
  obtain ⟨t, p, v⟩ := h
  exact ⟨t, fun i => pe_one (p i), v⟩
theorem de_and (h : DE z K X a ea) (h2 : DE z K X (.BoolOp .And (b :: rest) pos) eb) : DE z K X (.BoolOp .And (a :: b :: rest) pos) (dAndV ea eb) := by
  obtain ⟨t, p, v⟩ := h
  obtain ⟨t2, p2, v2⟩ := h2
  refine ⟨_, fun i => pe_and (p i) (p2 i), fun C σ δ H Q Qd k s e q => ?_⟩
  refine v C σ δ H _ _ k s e fun x d H1 e1 r1 e => ?_
  obtain ⟨c, rfl, e⟩ := e
  refine ⟨c, r1.bl_inv, ?_⟩
  cases c
  · exact q _ _ H1 e1 (.bl false) e
  · exact v2 C σ δ H1 Q Qd k (s.step e1) e fun v d H2 e2 r e => q v d H2 (e1.trans e2) r e
theorem de_or (h : DE z K X a ea) (h2 : DE z K X (.BoolOp .Or (b :: rest) pos) eb) : DE z K X (.BoolOp .Or (a :: b :: rest) pos) (dOrV ea eb) := by
  obtain ⟨t, p, v⟩ := h
  obtain ⟨t2, p2, v2⟩ := h2
  refine ⟨_, fun i => pe_or (p i) (p2 i), fun C σ δ H Q Qd k s e q => ?_⟩
  refine v C σ δ H _ _ k s e fun x d H1 e1 r1 e => ?_
  obtain ⟨c, rfl, e⟩ := e
  refine ⟨c, r1.bl_inv, ?_⟩
  cases c
  · exact v2 C σ δ H1 Q Qd k (s.step e1) e fun v d H2 e2 r e => q v d H2 (e1.trans e2) r e
  · exact q _ _ H1 e1 (.bl true) e
theorem de_not (h : DE z K X a ea) : DE z K X (.UnaryOp .Not a pos) (dNotV ea) := by
  obtain ⟨t, p, v⟩ := h
  refine ⟨_, fun i => pe_not (p i), fun C σ δ H Q Qd k s e q => ?_⟩
  refine v C σ δ H _ _ k s e fun x d H1 e1 r1 e => ?_
  obtain ⟨c, rfl, e⟩ := e
  exact ⟨c, r1.bl_inv, q _ _ H1 e1 (.bl _) e⟩
def dIfE (t : EvT) (ea eb : EvE) : EvE := fun δ Q => t δ fun c => if c = true then ea δ Q else eb δ Q
theorem de_if (h : DT K X c ta') (h1 : DE z K X a ea) (h2 : DE z K X b eb) : DE z K X (.IfExp c a b pos) (dIfE ta' ea eb) := by
  obtain ⟨t, p, v⟩ := h
  obtain ⟨t1, p1, v1⟩ := h1
  obtain ⟨t2, p2, v2⟩ := h2
  refine ⟨_, fun i => pe_ifExp (p i) (p1 i) (p2 i), fun C σ δ H Q Qd k s e q => ?_⟩
  refine v C σ δ H _ _ k s e fun c H1 e1 e => ?_
  cases c
  · exact v2 C σ δ H1 Q Qd k (s.step e1) e fun v d H2 e2 r e => q v d H2 (e1.trans e2) r e
  · exact v1 C σ δ H1 Q Qd k (s.step e1) e fun v d H2 e2 r e => q v d H2 (e1.trans e2) r e
/-! ### one-place operators -/
def dNeg (ea : EvE) : EvE := fun δ Q => ea δ fun d => ∃ i, d = .int i ∧ Q (.int (-i))
theorem de_neg (h : DE z K X a ea) : DE z K X (.UnaryOp .USub a pos) (dNeg ea) := by
  obtain ⟨t, p, v⟩ := h
  refine ⟨_, fun i => pe_un un_neg (p i), fun C σ δ H Q Qd k s e q => ?_⟩
  refine v C σ δ H _ _ k s e fun x d H1 e1 r1 e => ?_
  obtain ⟨i, rfl, e⟩ := e
  exact ⟨i, r1.int_inv, q _ _ H1 e1 (.int _) e⟩
/-! ### argument lists, displays -/
def dNilA : EvA := fun _ Q => Q []
def dConsA (ea : EvE) (t : EvA) : EvA := fun δ Q => ea δ fun d => t δ fun ds => Q (d :: ds)
variable {et : EvA}
theorem da_nil : DA z K X [] dNilA := ⟨_, fun _ => pa_nil, fun C σ δ H Q Qd k s e q => q [] [] H (Stp.refl H) .nil e⟩
theorem da_cons (ha : DE z K X e ea) (hr : DA z K X es et) (hs : ∀ i, starEach (e :: es) (X i).env = (false, eval e (X i).env) :: starEach es (X i).env := by intro _; rfl) : DA z K X (e :: es) (dConsA ea et) := by
  obtain ⟨t, p, v⟩ := ha
  obtain ⟨t2, p2, v2⟩ := hr
  refine ⟨_, fun i => pa_cons (p i) (p2 i) (hs i), fun C σ δ H Q Qd k s e q => ?_⟩
  refine v C σ δ H _ _ k s e fun x d H1 e1 r1 e => ?_
  refine v2 C σ δ H1 _ _ k (s.step e1) e fun vs ds H2 e2 r2 e => q _ _ H2 (e1.trans e2) (.cons ?_ r2) e
  subst k
  exact rep_st (s.step e1) e2 r1
def dTup (et : EvA) : EvE := fun δ Q => et δ fun ds => ds.length ≤ sizeLine ∧ Q (.tup ds)
def dLst (et : EvA) : EvE := fun δ Q => et δ fun ds => ds.length ≤ sizeLine ∧ Q (.lst ds)
theorem de_tup {x1} (h : DA z K X es et) : DE z K X (.Tuple es x1 pos) (dTup et) := by
  obtain ⟨t, p, v⟩ := h
  refine ⟨_, fun i => pe_tup (p i), fun C σ δ H Q Qd k s e q => ?_⟩
  refine v C σ δ H _ _ k s e fun xs ds H1 e1 r1 e => ⟨by rw [r1.l]; exact e.1, fun p hp => q _ _ _ (e1.trans (Stp.new hp)) (rep_newT (s.step e1).al hp r1) e.2⟩
theorem de_lst (h : DA z K X es et) : DE z K X (.List es pos) (dLst et) := by
  obtain ⟨t, p, v⟩ := h
  refine ⟨_, fun i => pe_lst (p i), fun C σ δ H Q Qd k s e q => ?_⟩
  refine v C σ δ H _ _ k s e fun xs ds H1 e1 r1 e => ⟨by rw [r1.l]; exact e.1, fun p hp => q _ _ _ (e1.trans (Stp.new hp)) (rep_newL (s.step e1).al hp r1) e.2⟩
/-! ### calls of built-ins, by values -/
def RcOk (K : PySem.W.Frag) (r : List V → Hp → VK → Prop) (dr : List Dt → (Dt → Prop) → Prop) : Prop := ∀ (av : Addr → Prop) (H : Hp) (xs : List V) (ds : List Dt) (Q : VK) (Qd : Dt → Prop), Al av H → RepL K av H xs ds → dr ds Qd → (∀ v d H', Same H H' → Rep K av H' v d → Qd d → Q v H') → r xs H Q
def dCall (dr : List Dt → (Dt → Prop) → Prop) (et : EvA) : EvE := fun δ Q => et δ fun ds => dr ds Q
theorem ve_cb {t : TA} {r : List V → Hp → VK → Prop} {dr : List Dt → (Dt → Prop) → Prop} (ro : RcOk K r dr) (v : VA z K t et) : VE z K (tCB r t) (dCall dr et) := by
  intro C σ δ H Q Qd k s e q
  refine v C σ δ H _ _ k s e fun xs ds H1 e1 r1 e => ?_
  exact ro _ H1 xs ds Q Qd (s.step e1).al r1 e fun v d H2 e2 r2 e => q v d H2 (e1.trans (Stp.of e2)) r2 e
theorem de_callB {id : String} {x : Str} {p : Pos} {r : List V → Hp → VK → Prop} {dr : List Dt → (Dt → Prop) → Prop} (hc : ∀ i, CallR (X i) (.builtin id) r) (ro : RcOk K r dr) (hg : ∀ i, Gl (X i) x) (hm : ∀ i, (X i).mg x = none) (hv : bootBuiltins x = some (.builtin id)) (ha : DA z K X (e :: es) et) (hn : x ≠ "__name__" := by decide) (hdb : (x == ("__debug__" : Str)) = false := by decide)
    (he : ∀ i, starEach (e :: es) (X i).env = (false, eval e (X i).env) :: starEach es (X i).env := by intro _; rfl) (hpl : ∀ i, (backTo pos (starEach es (X i).env)).any (·.1) = false := by intro _; rfl) : DE z K X (.Call (.Name x p) (e :: es) [] pos) (dCall dr et) := by
  obtain ⟨t, pa, v⟩ := ha
  exact ⟨_, fun i => pe_callB (hc i) (hg i) (hm i) hv (pa i) hn hdb (he i) (hpl i), ve_cb ro v⟩
theorem de_callTy {T : String} {x : Str} {p : Pos} {r : List V → Hp → VK → Prop} {dr : List Dt → (Dt → Prop) → Prop} (hc : ∀ i, CallR (X i) (.type T) r) (ro : RcOk K r dr) (hg : ∀ i, Gl (X i) x) (hm : ∀ i, (X i).mg x = none) (hv : bootBuiltins x = some (.type T)) (ha : DA z K X (e :: es) et) (hn : x ≠ "__name__" := by decide) (hdb : (x == ("__debug__" : Str)) = false := by decide)
    (he : ∀ i, starEach (e :: es) (X i).env = (false, eval e (X i).env) :: starEach es (X i).env := by intro _; rfl) (hpl : ∀ i, (backTo pos (starEach es (X i).env)).any (·.1) = false := by intro _; rfl) : DE z K X (.Call (.Name x p) (e :: es) [] pos) (dCall dr et) := by
  obtain ⟨t, pa, v⟩ := ha
  exact ⟨_, fun i => pe_callTy (hc i) (hg i) (hm i) hv (pa i) hn hdb (he i) (hpl i), ve_cb ro v⟩
/-! ### subscripts, slices -/
theorem de_ix {r : R2} {dr : Dt → Dt → (Dt → Prop) → Prop} (hr : ∀ i, IxR (X i) r) (ro : ROk K r dr) (ha : DE z K X a ea) (hb : DE z K X b eb) (hs : PlainIx b) : DE z K X (.Subscript a b pos) (dOp dr ea eb) := by
  obtain ⟨ta, pa, va⟩ := ha
  obtain ⟨tb, pb, vb⟩ := hb
  exact ⟨_, fun i => pe_ix (hr i) (pa i) (pb i) hs, ve_op ro va vb⟩
end
end Dl
set_option maxHeartbeats 1000000
namespace Dl
open PySem PySem.Spec PyProof.Rows L2 Lcn Sq
/-! ### values: arithmetic -/
section
variable {K : PySem.W.Frag} {X : Cx}
theorem ro_I0 {g : Int → Int → V} {dg : Int → Int → Dt} (h : ∀ (av : Addr → Prop) (H : Hp) i j, Rep K av H (g i j) (dg i j)) : ROk K (rI0 g) (fun x y Q => ∃ i j, x = .int i ∧ y = .int j ∧ Q (dg i j)) := by
  intro av H x y dx dy Q Qd al rx ry d q
  obtain ⟨i, j, rfl, rfl, d⟩ := d
  exact ⟨i, j, rx.int_inv, ry.int_inv, q _ _ H (Same.refl H) (h av H i j) d⟩
theorem ro_I {c : Int → Int → Prop} {g : Int → Int → V} {dg : Int → Int → Dt} (h : ∀ (av : Addr → Prop) (H : Hp) i j, Rep K av H (g i j) (dg i j)) : ROk K (rI c g) (fun x y Q => ∃ i j, x = .int i ∧ y = .int j ∧ c i j ∧ Q (dg i j)) := by
  intro av H x y dx dy Q Qd al rx ry d q
  obtain ⟨i, j, rfl, rfl, hc, d⟩ := d
  exact ⟨i, j, rx.int_inv, ry.int_inv, hc, q _ _ H (Same.refl H) (h av H i j) d⟩
/-- a + b -/
def dAdd (x y : Dt) (Q : Dt → Prop) : Prop := match x, y with
  | .int i, .int j => Q (.int (i + j))
  | .str s, .str t => s.length + t.length ≤ sizeLine ∧ Q (.str (s ++ t))
  | .tup a, .tup b => a.length + b.length ≤ sizeLine ∧ Q (.tup (a ++ b))
  | .lst a, .lst b => a.length + b.length ≤ sizeLine ∧ Q (.lst (a ++ b))
  | _, _ => False
def rAddAll (K : PySem.W.Frag) : R2 := fun x y H Q => (rI0 (fun i j => .int (i + j)) x y H Q ∨ (fun x y H Q => ∃ i j, x = .str i ∧ y = .str j ∧ i.length + j.length ≤ sizeLine ∧ Q (.str (i ++ j)) H : R2) x y H Q) ∨ (rCatA K x y H Q ∨ rCat x y H Q)
theorem op_addAll (hK : X.K = K) : OpR X (binaryOp .Add) (rAddAll K) := by
  subst hK
  exact (op_add.or op_add_str).or (op_catA.or op_cat)
theorem ro_add : ROk K (rAddAll K) dAdd := by
  intro av H x y dx dy Q Qd al rx ry d q
  unfold dAdd at d
  split at d
  · exact .inl (.inl ⟨_, _, rx.int_inv, ry.int_inv, q _ _ H (Same.refl H) (.int _) d⟩)
  · exact .inl (.inr ⟨_, _, rx.str_inv, ry.str_inv, d.1, q _ _ H (Same.refl H) (.str _) d.2⟩)
  · obtain ⟨a, xs, rfl, hx, lx⟩ := rx.tup_inv
    obtain ⟨b, ys, rfl, hy, ly⟩ := ry.tup_inv
    refine .inr (.inl ⟨a, b, xs, ys, rfl, rfl, hx.sq, hy.sq, by rw [lx.l, ly.l]; exact d.1, fun e => ?_, fun _ e => ?_, fun _ _ p hp => q _ _ _ (same_new hp) (rep_newT al hp (lx.append ly)) d.2⟩)
    · have := (lx.append ly)
      refine q _ _ H (Same.refl H) ?_ d.2
      subst e
      exact .tup hy this.l this.f
    · have := (lx.append ly)
      refine q _ _ H (Same.refl H) ?_ d.2
      subst e
      rw [List.append_nil] at this
      exact .tup hx this.l this.f
  · obtain ⟨a, xs, rfl, hx, lx⟩ := rx.lst_inv
    obtain ⟨b, ys, rfl, hy, ly⟩ := ry.lst_inv
    exact .inr (.inr ⟨a, b, xs, ys, rfl, rfl, hx.2, hy.2, by rw [lx.l, ly.l]; exact d.1, fun p hp => q _ _ _ (same_new hp) (rep_newL al hp (lx.append ly)) d.2⟩)
  · exact d.elim
/-- ints alone -/
def dI (c : Int → Int → Prop) (g : Int → Int → Dt) (x y : Dt) (Q : Dt → Prop) : Prop := match x, y with
  | .int i, .int j => c i j ∧ Q (g i j)
  | _, _ => False
theorem ro_dI {c : Int → Int → Prop} {g : Int → Int → V} {dg : Int → Int → Dt} (h : ∀ (av : Addr → Prop) (H : Hp) i j, Rep K av H (g i j) (dg i j)) : ROk K (rI c g) (dI c dg) := (ro_I h).imp fun x y Q d => by
  unfold dI at d
  split at d
  · exact ⟨_, _, rfl, rfl, d.1, d.2⟩
  · exact d.elim
def dI0 (g : Int → Int → Dt) (x y : Dt) (Q : Dt → Prop) : Prop := match x, y with
  | .int i, .int j => Q (g i j)
  | _, _ => False
theorem ro_dI0 {g : Int → Int → V} {dg : Int → Int → Dt} (h : ∀ (av : Addr → Prop) (H : Hp) i j, Rep K av H (g i j) (dg i j)) : ROk K (rI0 g) (dI0 dg) := (ro_I0 h).imp fun x y Q d => by
  unfold dI0 at d
  split at d
  · exact ⟨_, _, rfl, rfl, d⟩
  · exact d.elim
/-- a * b: ints, a list or a tuple so many times -/
def dMul (x y : Dt) (Q : Dt → Prop) : Prop := match x, y with
  | .int i, .int j => CMulW i j ∧ Q (.int (i * j))
  | .lst a, .int k => -(2 ^ 63) ≤ k ∧ k < 2 ^ 63 ∧ a.length * k.toNat ≤ sizeLine ∧ Q (.lst (List.replicate k.toNat a).flatten)
  | _, _ => False
def rMulAll : R2 := fun x y H Q => rI CMulW (fun i j => .int (i * j)) x y H Q ∨ rRep x y H Q
theorem op_mulAll : OpR X (binaryOp .Mult) rMulAll := op_mulW.or op_rep
theorem repl_flat {av : Addr → Prop} {H : Hp} {xs : List V} {ds : List Dt} (h : RepL K av H xs ds) : ∀ n : Nat, RepL K av H (List.replicate n xs).flatten (List.replicate n ds).flatten
  | 0 => .nil
  | n + 1 => by
    rw [List.replicate_succ, List.replicate_succ, List.flatten_cons, List.flatten_cons]
    exact h.append (repl_flat h n)
theorem ro_mul : ROk K rMulAll dMul := by
  intro av H x y dx dy Q Qd al rx ry d q
  unfold dMul at d
  split at d
  · exact .inl ⟨_, _, rx.int_inv, ry.int_inv, d.1, q _ _ H (Same.refl H) (.int _) d.2⟩
  · obtain ⟨a, xs, rfl, hx, lx⟩ := rx.lst_inv
    exact .inr ⟨a, _, xs, rfl, ry.int_inv, hx.2, d.1, d.2.1, by rw [lx.l]; exact d.2.2.1, fun p hp => q _ _ _ (same_new hp) (rep_newL al hp (repl_flat lx _)) d.2.2.2⟩
  · exact d.elim
end
/-! ### equality of data -/
mutual
def py : Dt → PyData
  | .non => .none
  | .bl b => .bool b
  | .int i => .int i
  | .str s => .str s
  | .lst xs => .list (pyL xs)
  | .tup xs => .tuple (pyL xs)
  | .ins _ _ => .none
def pyL : List Dt → List PyData
  | [] => []
  | x :: r => py x :: pyL r
end
mutual
/-- data that == tells by value: no instances -/
def okD : Dt → Bool
  | .ins _ _ => false
  | .lst xs => okL xs
  | .tup xs => okL xs
  | .str s => PyData.strOk s
  | _ => true
def okL : List Dt → Bool
  | [] => true
  | x :: r => okD x && okL r
end
mutual
theorem lay_py : ∀ d : Dt, okD d = true → (py d).canLay0 = true
  | .non, _ => by simp [py, PyData.canLay0]
  | .bl b, _ => by simp [py, PyData.canLay0]
  | .int i, _ => by simp [py, PyData.canLay0]
  | .str s, h => by simpa [py, PyData.canLay0, okD] using h
  | .lst xs, h => by
    rw [py, PyData.canLay0]
    exact lay_pyL xs (by simpa [okD] using h)
  | .tup xs, h => by
    rw [py, PyData.canLay0]
    exact lay_pyL xs (by simpa [okD] using h)
  | .ins _ _, h => by simp [okD] at h
theorem lay_pyL : ∀ ds : List Dt, okL ds = true → PyData.canLayAll0 (pyL ds) = true
  | [], _ => by simp [pyL, PyData.canLayAll0]
  | d :: r, h => by
    rw [okL, Bool.and_eq_true] at h
    rw [pyL, PyData.canLayAll0, lay_py d h.1, lay_pyL r h.2]
    rfl
end
section
variable {K : PySem.W.Frag} {av : Addr → Prop} {H : Hp}
mutual
theorem dp_of : ∀ (d : Dt) (v : V), okD d = true → Rep K av H v d → Dp K H v (py d)
  | .non, v, _, r => by cases r; exact .non
  | .bl b, v, _, r => by cases r; exact .bl b
  | .int i, v, _, r => by cases r; exact .int i
  | .str s, v, _, r => by cases r; exact .str s
  | .lst ds, v, o, r => by
    obtain ⟨a, xs, rfl, h, l⟩ := r.lst_inv
    rw [py]
    exact .lst h.sq (dp_ofL ds xs (by simpa [okD] using o) l)
  | .tup ds, v, o, r => by
    obtain ⟨a, xs, rfl, h, l⟩ := r.tup_inv
    rw [py]
    exact .tup h.sq (dp_ofL ds xs (by simpa [okD] using o) l)
  | .ins _ _, v, o, _ => by simp [okD] at o
theorem dp_ofL : ∀ (ds : List Dt) (xs : List V), okL ds = true → RepL K av H xs ds → DpAll K H xs (pyL ds)
  | [], xs, _, r => by
    have := r.l
    cases xs with
    | nil => rw [pyL]; exact .nil
    | cons => simp at this
  | d :: ds, xs, o, r => by
    have := r.l
    cases xs with
    | nil => simp at this
    | cons x xs =>
      rw [okL, Bool.and_eq_true] at o
      rw [pyL]
      exact .cons (dp_of d x o.1 r.head.1) (dp_ofL ds xs o.2 r.head.2)
end
end
/-- no data below 64 deep -/
def shD (d : Dt) : Bool := okD d && decide ((py d).depth ≤ 64)
theorem sh_py {d : Dt} (h : shD d = true) : SeqAt.shaped (py d) = true ∧ okD d = true := by
  unfold shD at h
  rw [Bool.and_eq_true] at h
  refine ⟨?_, h.1⟩
  unfold SeqAt.shaped
  rw [lay_py d h.1, h.2]
  rfl
def eqD (x y : Dt) : Bool := PyData.eqv (py x) (py y)
@[irreducible] def dEq (neg : Bool) (x y : Dt) (Q : Dt → Prop) : Prop := shD x = true ∧ shD y = true ∧ Q (.bl (if neg then !eqD x y else eqD x y))
section
variable {K : PySem.W.Frag} {X : Cx}
theorem ro_eq : ROk K (rEqD K) (dEq false) := fun av H x y dx dy Q Qd al rx ry d q => by
  unfold dEq at d
  obtain ⟨h1, h2, d⟩ := d
  exact ⟨_, _, dp_of dx x (sh_py h1).2 rx, dp_of dy y (sh_py h2).2 ry, (sh_py h1).1, (sh_py h2).1, q _ _ H (Same.refl H) (.bl _) d⟩
theorem ro_ne : ROk K (rNeD K) (dEq true) := fun av H x y dx dy Q Qd al rx ry d q => by
  unfold dEq at d
  obtain ⟨h1, h2, d⟩ := d
  exact ⟨_, _, dp_of dx x (sh_py h1).2 rx, dp_of dy y (sh_py h2).2 ry, (sh_py h1).1, (sh_py h2).1, q _ _ H (Same.refl H) (.bl _) d⟩
theorem op_eqK (hK : X.K = K) (hu : X.A.units + 64 < cLine) : OpR X (compareOp .Eq) (rEqD K) := hK ▸ op_eqD hu
theorem op_neK (hK : X.K = K) (hu : X.A.units + 64 < cLine) : OpR X (compareOp .NotEq) (rNeD K) := hK ▸ op_neD hu
/-- is None -/
def dIsN (neg : Bool) (x y : Dt) (Q : Dt → Prop) : Prop := y = .non ∧ Q (.bl (match x with
  | .non => !neg
  | _ => neg))
theorem rep_non {av : Addr → Prop} {H : Hp} {x : V} {d : Dt} (r : Rep K av H x d) : decide (x = .non) = (match d with
  | .non => true
  | _ => false) := by
  cases r <;> simp
theorem ro_isN : ROk K (fun x y H Q => y = .non ∧ Q (.bl (decide (x = .non))) H) (dIsN false) := fun av H x y dx dy Q Qd al rx ry d q => by
  obtain ⟨rfl, d⟩ := d
  refine ⟨ry.non_inv, q _ _ H (Same.refl H) (.bl _) ?_⟩
  rw [rep_non rx]
  cases dx <;> exact d
theorem ro_notN : ROk K (fun x y H Q => y = .non ∧ Q (.bl (!decide (x = .non))) H) (dIsN true) := fun av H x y dx dy Q Qd al rx ry d q => by
  obtain ⟨rfl, d⟩ := d
  refine ⟨ry.non_inv, q _ _ H (Same.refl H) (.bl _) ?_⟩
  rw [rep_non rx]
  cases dx <;> exact d
/-! ### x in xs -/
theorem rep_flatV {av : Addr → Prop} {H : Hp} {x : V} {d : Dt} (r : Rep K av H x d) (h : d.flat = true) : flatV x = true := by
  cases r with
  | non => rfl
  | bl b => rfl
  | int i => rfl
  | str s => rfl
  | lst => cases h
  | tup => cases h
  | ins => cases h
end
end Dl
set_option maxHeartbeats 1000000
namespace Dl
open PySem PySem.Spec PyProof.Rows L2 Lcn Sq
section
variable {K : PySem.W.Frag} {X : Cx}
/-! ### x in xs -/
def flV : Dt → V
  | .bl b => .bl b
  | .int i => .int i
  | .str s => .str s
  | _ => .non
theorem rep_flV {av : Addr → Prop} {H : Hp} {x : V} {d : Dt} (r : Rep K av H x d) (h : d.flat = true) : x = flV d := by
  cases r with
  | non => rfl
  | bl b => rfl
  | int i => rfl
  | str s => rfl
  | lst => cases h
  | tup => cases h
  | ins => cases h
theorem eqV_flat {d e : Dt} (hd : d.flat = true) (he : e.flat = true) : eqV (flV d) (flV e) = eqD d e := by
  cases d <;> cases e <;> first | (simp [Dt.flat] at hd; done) | (simp [Dt.flat] at he; done) | (simp [flV, eqV, eqD, py, PyData.eqv])
theorem repl_flV {av : Addr → Prop} {H : Hp} : ∀ {xs : List V} {ds : List Dt}, RepL K av H xs ds → ds.all Dt.flat = true → xs = ds.map flV
  | [], [], _, _ => rfl
  | [], _ :: _, r, _ => by have := r.l; simp at this
  | _ :: _, [], r, _ => by have := r.l; simp at this
  | x :: xs, d :: ds, r, h => by
    rw [List.all_cons, Bool.and_eq_true] at h
    rw [List.map_cons, ← rep_flV r.head.1 h.1, ← repl_flV r.head.2 h.2]
def anyEq (d : Dt) (ds : List Dt) : Bool := ds.any fun z => eqD z d
theorem anyEq_flat {d : Dt} (hd : d.flat = true) : ∀ ds : List Dt, ds.all Dt.flat = true → inV (flV d) (ds.map flV) = anyEq d ds
  | [], _ => rfl
  | e :: ds, h => by
    rw [List.all_cons, Bool.and_eq_true] at h
    have ih := anyEq_flat hd ds h.2
    unfold inV anyEq at *
    rw [List.map_cons, List.any_cons, List.any_cons, ih, eqV_flat h.1 hd]
theorem all_flatV : ∀ ds : List Dt, ds.all Dt.flat = true → (ds.map flV).all flatV = true
  | [], _ => rfl
  | e :: ds, h => by
    rw [List.all_cons, Bool.and_eq_true] at h
    rw [List.map_cons, List.all_cons, all_flatV ds h.2, Bool.and_true]
    cases e <;> first | rfl | cases h.1
theorem anyEq_py (d : Dt) (ds : List Dt) : ((pyL ds).any fun z => PyData.eqv z (py d)) = anyEq d ds := by
  induction ds with
  | nil => rfl
  | cons e r ih =>
    unfold anyEq at *
    rw [pyL, List.any_cons, List.any_cons, ih]
    rfl
@[irreducible] def dIn (neg : Bool) (x y : Dt) (Q : Dt → Prop) : Prop := match y with
  | .lst ds => shD x = true ∧ shD (.lst ds) = true ∧ Q (.bl (if neg then !anyEq x ds else anyEq x ds))
  | .tup ds => x.flat = true ∧ ds.all Dt.flat = true ∧ Q (.bl (if neg then !anyEq x ds else anyEq x ds))
  | .str z => ∃ c, x = .str ⟨#[c]⟩ ∧ Q (.bl (if neg then !decide (c ∈ z.cps.toList) else decide (c ∈ z.cps.toList)))
  | _ => False
def rInAll (K : PySem.W.Frag) : R2 := fun x y H Q => (rInD K x y H Q ∨ rIn K false x y H Q) ∨ (fun x y H Q => ∃ (c : Nat) (z : Str), x = .str ⟨#[c]⟩ ∧ y = .str z ∧ Q (.bl (decide (c ∈ z.cps.toList))) H : R2) x y H Q
def rNotInAll (K : PySem.W.Frag) : R2 := fun x y H Q => (rNotInD K x y H Q ∨ rIn K true x y H Q) ∨ (fun x y H Q => ∃ (c : Nat) (z : Str), x = .str ⟨#[c]⟩ ∧ y = .str z ∧ Q (.bl (!decide (c ∈ z.cps.toList))) H : R2) x y H Q
theorem op_inAll (hK : X.K = K) (hu : X.A.units + 65 < cLine) : OpR X (compareOp .In) (rInAll K) := by
  subst hK
  exact ((op_inD hu).or op_in_seq).or op_in_sign
theorem op_notInAll (hK : X.K = K) (hu : X.A.units + 65 < cLine) : OpR X (compareOp .NotIn) (rNotInAll K) := by
  subst hK
  exact ((op_notInD hu).or op_notIn_seq).or op_notIn_sign
theorem ro_in : ROk K (rInAll K) (dIn false) := fun av H x y dx dy Q Qd al rx ry d q => by
  unfold dIn at d
  split at d
  · obtain ⟨h1, h2, d⟩ := d
    have e := dp_of _ y (sh_py h2).2 ry
    have s := (sh_py h2).1
    rw [py] at e s
    refine .inl (.inl ⟨_, _, dp_of dx x (sh_py h1).2 rx, e, (sh_py h1).1, s, q _ _ H (Same.refl H) (.bl _) ?_⟩)
    rw [anyEq_py]
    exact d
  · obtain ⟨h1, h2, d⟩ := d
    obtain ⟨a, xs, rfl, hx, lx⟩ := ry.tup_inv
    refine .inl (.inr ⟨a, xs, rfl, .inr hx.sq, rep_flatV rx h1, by rw [repl_flV lx h2]; exact all_flatV _ h2, ?_⟩)
    rw [rep_flV rx h1, repl_flV lx h2, anyEq_flat h1 _ h2]
    exact q _ _ H (Same.refl H) (.bl _) d
  · obtain ⟨c, rfl, d⟩ := d
    exact .inr ⟨c, _, rx.str_inv, ry.str_inv, q _ _ H (Same.refl H) (.bl _) d⟩
  · exact d.elim
theorem ro_notIn : ROk K (rNotInAll K) (dIn true) := fun av H x y dx dy Q Qd al rx ry d q => by
  unfold dIn at d
  split at d
  · obtain ⟨h1, h2, d⟩ := d
    have e := dp_of _ y (sh_py h2).2 ry
    have s := (sh_py h2).1
    rw [py] at e s
    refine .inl (.inl ⟨_, _, dp_of dx x (sh_py h1).2 rx, e, (sh_py h1).1, s, q _ _ H (Same.refl H) (.bl _) ?_⟩)
    rw [anyEq_py]
    exact d
  · obtain ⟨h1, h2, d⟩ := d
    obtain ⟨a, xs, rfl, hx, lx⟩ := ry.tup_inv
    refine .inl (.inr ⟨a, xs, rfl, .inr hx.sq, rep_flatV rx h1, by rw [repl_flV lx h2]; exact all_flatV _ h2, ?_⟩)
    rw [rep_flV rx h1, repl_flV lx h2, anyEq_flat h1 _ h2]
    exact q _ _ H (Same.refl H) (.bl _) d
  · obtain ⟨c, rfl, d⟩ := d
    exact .inr ⟨c, _, rx.str_inv, ry.str_inv, q _ _ H (Same.refl H) (.bl _) d⟩
  · exact d.elim
/-! ### xs[i] -/
def dIx (x y : Dt) (Q : Dt → Prop) : Prop := match x, y with
  | .lst ds, .int i => ∃ d, atI ds i = some d ∧ Q d
  | .tup ds, .int i => ∃ d, atI ds i = some d ∧ Q d
  | .str z, .int i => z.length ≤ sizeLine ∧ ∃ c, atI z.cps.toList i = some c ∧ Q (.str ⟨#[c]⟩)
  | _, _ => False
theorem repl_at {av : Addr → Prop} {H : Hp} {xs : List V} {ds : List Dt} (r : RepL K av H xs ds) {i : Int} {d : Dt} (h : atI ds i = some d) : ∃ x, atI xs i = some x ∧ Rep K av H x d := by
  unfold atI at h ⊢
  rw [r.l]
  cases e : ixN ds.length i with
  | none => rw [e] at h; cases h
  | some j =>
    rw [e] at h
    exact r.get h
theorem ro_ix : ROk K (rIx K) dIx := fun av H x y dx dy Q Qd al rx ry d q => by
  unfold dIx at d
  split at d
  · obtain ⟨e, h, d⟩ := d
    obtain ⟨a, xs, rfl, hx, lx⟩ := rx.lst_inv
    obtain ⟨v, hv, rv⟩ := repl_at lx h
    exact .inl ⟨a, xs, _, v, rfl, ry.int_inv, hx.sq, hv, q _ _ H (Same.refl H) rv d⟩
  · obtain ⟨e, h, d⟩ := d
    obtain ⟨a, xs, rfl, hx, lx⟩ := rx.tup_inv
    obtain ⟨v, hv, rv⟩ := repl_at lx h
    exact .inr (.inl ⟨a, xs, _, v, rfl, ry.int_inv, hx.sq, hv, q _ _ H (Same.refl H) rv d⟩)
  · obtain ⟨hz, c, h, d⟩ := d
    exact .inr (.inr ⟨_, _, c, rx.str_inv, ry.int_inv, hz, h, q _ _ H (Same.refl H) (.str _) d⟩)
  · exact d.elim
theorem ix_all (hK : X.K = K) : IxR X (rIx K) := hK ▸ ix_seq
/-! ### slices -/
def cutD (xs : List Dt) (lo hi : Option Int) : List Dt := (xs.drop (HT.sIx xs.length 0 lo)).take (HT.sIx xs.length xs.length hi - HT.sIx xs.length 0 lo)
theorem repl_cut {av : Addr → Prop} {H : Hp} {xs : List V} {ds : List Dt} (r : RepL K av H xs ds) (lo hi : Option Int) : RepL K av H (cutV xs lo hi) (cutD ds lo hi) := by
  unfold cutV cutD
  rw [r.l]
  exact (r.drop _).take _
def dSl (x : Dt) (lo hi : Option Int) (Q : Dt → Prop) : Prop := match x with
  | .lst ds => Q (.lst (cutD ds lo hi))
  | .tup ds => Q (.tup (cutD ds lo hi))
  | .str z => z.length ≤ sizeLine ∧ Q (.str (cutS z lo hi))
  | _ => False
def rSlAll (K : PySem.W.Frag) : V → Option Int → Option Int → Hp → VK → Prop := fun x lo hi H Q => (rSlL K x lo hi H Q ∨ rSlA K x lo hi H Q) ∨ rSlS x lo hi H Q
theorem sl_all (hK : X.K = K) : SlR X (rSlAll K) := by
  subst hK
  exact (sl_list.or sl_tupA).or sl_str
theorem rs_all {av : Addr → Prop} {H : Hp} {x : V} {dx : Dt} {lo hi : Option Int} {Q : VK} {Qd : Dt → Prop} (al : Al av H) (rx : Rep K av H x dx) (d : dSl dx lo hi Qd) (q : ∀ v d H', Same H H' → Rep K av H' v d → Qd d → Q v H') : rSlAll K x lo hi H Q := by
  unfold dSl at d
  split at d
  · obtain ⟨a, xs, rfl, hx, lx⟩ := rx.lst_inv
    exact .inl (.inl ⟨a, xs, rfl, hx.sq, fun p hp => q _ _ _ (same_new hp) (rep_newL al hp (repl_cut lx lo hi)) d⟩)
  · obtain ⟨a, xs, rfl, hx, lx⟩ := rx.tup_inv
    refine .inl (.inr ⟨a, xs, rfl, hx.sq, fun e => q _ _ H (Same.refl H) ?_ d, fun _ p hp => q _ _ _ (same_new hp) (rep_newT al hp (repl_cut lx lo hi)) d⟩)
    have e2 : cutV xs lo hi = xs := by
      unfold cutV
      rw [e.1, e.2]
      simp
    have r := repl_cut lx lo hi
    rw [e2] at r
    exact .tup hx r.l r.f
  · exact .inr ⟨_, rx.str_inv, d.1, q _ _ H (Same.refl H) (.str _) d.2⟩
  · exact d.elim
end
abbrev EvO := List Sl → (Option Int → Prop) → Prop
def VO (K : PySem.W.Frag) (te : TO) (ev : EvO) : Prop := ∀ (C : Ctx) (σ : L2.St) (δ : List Sl) (H : Hp) (Q : Option Int → Hp → Prop) (Qd : Option Int → Prop), C.K = K → Sok C H σ δ → ev δ Qd → (∀ o H', Stp C.S H H' → Qd o → Q o H') → te σ H Q
def DO {ι : Type} (K : PySem.W.Frag) (X : ι → Cx) (e : Option Expr) (ev : EvO) : Prop := ∃ te, (∀ i, PO (X i) e te) ∧ VO K te ev
section
variable {ι : Type} {K : PySem.W.Frag} {X : ι → Cx} {z : Bool} {pos p2 : Pos} {a b c e : Expr} {es : List Expr} {ea eb ec : EvE} {et : EvA} {lo hi : Option Expr} {el eh : EvO}
def dNoO : EvO := fun _ Q => Q none
def dSoO (ea : EvE) : EvO := fun δ Q => ea δ fun d => ∃ i, d = .int i ∧ Q (some i)
theorem do_none : DO K X none dNoO := ⟨_, fun _ => po_none, fun C σ δ H Q Qd k s e q => q none H (Stp.refl H) e⟩
theorem do_some (h : DE false K X a ea) : DO K X (some a) (dSoO ea) := by
  obtain ⟨t, p, v⟩ := h
  refine ⟨_, fun i => po_some (p i), fun C σ δ H Q Qd k s e q => ?_⟩
  refine v C σ δ H _ _ k s e fun x d H1 e1 r1 e => ?_
  obtain ⟨i, rfl, e⟩ := e
  exact ⟨i, r1.int_inv, q _ H1 e1 e⟩
def dSlE (ea : EvE) (el eh : EvO) : EvE := fun δ Q => ea δ fun x => el δ fun l => eh δ fun h => dSl x l h Q
theorem de_slice (ha : DE z K X a ea) (hl : DO K X lo el) (hh : DO K X hi eh) (hK : ∀ i, (X i).K = K := by intro _; rfl) : DE z K X (.Subscript a (.Slice lo hi none p2) pos) (dSlE ea el eh) := by
  obtain ⟨ta, pa, va⟩ := ha
  obtain ⟨tl, pl, vl⟩ := hl
  obtain ⟨th, ph, vh⟩ := hh
  refine ⟨_, fun i => pe_slice (sl_all (hK i)) (pa i) (pl i) (ph i), fun C σ δ H Q Qd k s e q => ?_⟩
  refine va C σ δ H _ _ k s e fun x dx H1 e1 r1 e => ?_
  refine vl C σ δ H1 _ _ k (s.step e1) e fun l H2 e2 e => ?_
  refine vh C σ δ H2 _ _ k ((s.step e1).step e2) e fun h H3 e3 e => ?_
  have s3 := ((s.step e1).step e2).step e3
  refine rs_all s3.al ?_ e fun v d H4 e4 r4 qd => q v d H4 (((e1.trans e2).trans e3).trans (Stp.of e4)) r4 qd
  subst k
  exact rep_st ((s.step e1).step e2) e3 (rep_st (s.step e1) e2 r1)
/-- an item of a list that may be an own one -/
def dIxO (i : Nat) (eb : EvE) : EvE := fun δ Q => match δ[i]? with
  | some (.own _ (.l ds)) => eb δ fun d => ∃ j x, d = .int j ∧ atI ds j = some x ∧ Q x
  | some (.val x) => eb δ fun y => dIx x y Q
  | _ => False
theorem de_ixO {i : Nat} {x : Str} {pos2 : Pos} (p : ∀ j, PE (X j) (.Name x pos2) (tVar i)) (hb : DE true K X b eb) (hs : PlainIx b) (hK : ∀ i, (X i).K = K := by intro _; rfl) : DE true K X (.Subscript (.Name x pos2) b pos) (dIxO i eb) := by
  obtain ⟨tb, pb, vb⟩ := hb
  refine ⟨_, fun j => pe_ix (ix_all (hK j)) (p j) (pb j) hs, fun C σ δ H Q Qd k s e q => ?_⟩
  subst k
  unfold dIxO at e
  split at e
  · rename_i a ds h
    obtain ⟨h1, _, h3, xs, h5, h6⟩ := s.lstAt h
    refine ⟨.ref a, h1, vb C σ δ H _ _ rfl s e fun y dy H1 e1 r1 e => ?_⟩
    obtain ⟨j, x, rfl, hx, e⟩ := e
    obtain ⟨_, _, _, ys, h7, h8⟩ := (s.step e1).lstAt h
    obtain ⟨v, hv, rv⟩ := repl_at h8 hx
    exact .inl ⟨a, ys, j, v, rfl, r1.int_inv, SqL.of h7, hv, q v x H1 e1 rv e⟩
  · rename_i d h
    obtain ⟨v, h1, h2⟩ := s.sl i _ h
    refine ⟨v, h1, vb C σ δ H _ _ rfl s e fun y dy H1 e1 r1 e => ?_⟩
    exact ro_ix (Zd C δ) H1 v y d dy Q Qd (s.step e1).alz (rep_step s e1 h2) r1 e fun v d H2 e2 r2 qd => q v d H2 (e1.trans (Stp.of e2)) r2 qd
  · exact e.elim
theorem de_ixA (ha : DE z K X a ea) (hb : DE z K X b eb) (hs : PlainIx b) (hK : ∀ i, (X i).K = K := by intro _; rfl) : DE z K X (.Subscript a b pos) (dOp dIx ea eb) := de_ix (fun i => ix_all (hK i)) ro_ix ha hb hs
theorem de_add (ha : DE z K X a ea) (hb : DE z K X b eb) (hK : ∀ i, (X i).K = K := by intro _; rfl) : DE z K X (.BinOp a .Add b pos) (dOp dAdd ea eb) := de_op (fun i => op_addAll (hK i)) ro_add ha hb
theorem de_mul (ha : DE z K X a ea) (hb : DE z K X b eb) : DE z K X (.BinOp a .Mult b pos) (dOp dMul ea eb) := de_op (fun i => op_mulAll) ro_mul ha hb
theorem de_sub (ha : DE z K X a ea) (hb : DE z K X b eb) : DE z K X (.BinOp a .Sub b pos) (dOp (dI0 fun i j => .int (i - j)) ea eb) := de_op (fun i => op_sub) (ro_dI0 fun _ _ _ _ => .int _) ha hb
theorem de_fdiv (ha : DE z K X a ea) (hb : DE z K X b eb) : DE z K X (.BinOp a .FloorDiv b pos) (dOp (dI CDivW fun i j => .int (i / j)) ea eb) := de_op (fun i => op_fdivW) (ro_dI fun _ _ _ _ => .int _) ha hb
theorem de_mod (ha : DE z K X a ea) (hb : DE z K X b eb) : DE z K X (.BinOp a .Mod b pos) (dOp (dI (fun _ j => 0 < j) fun i j => .int (i % j)) ea eb) := de_op (fun i => op_mod) (ro_dI fun _ _ _ _ => .int _) ha hb
theorem de_pow (ha : DE z K X a ea) (hb : DE z K X b eb) : DE z K X (.BinOp a .Pow b pos) (dOp (dI CPow fun i j => .int (i ^ j.toNat)) ea eb) := de_op (fun i => op_pow) (ro_dI fun _ _ _ _ => .int _) ha hb
/-! comparisons: the rules of an operator -/
structure CmpD {ι : Type} (K : PySem.W.Frag) (X : ι → Cx) (op : CmpOp) (dr : Dt → Dt → (Dt → Prop) → Prop) : Prop where
  ex : ∃ r, (∀ i, OpR (X i) (compareOp op) r) ∧ ROk K r dr
theorem cd_lt : CmpD K X .Lt (dI0 fun i j => .bl (decide (i < j))) := ⟨_, fun _ => op_lt, ro_dI0 fun _ _ _ _ => .bl _⟩
theorem cd_le : CmpD K X .LtE (dI0 fun i j => .bl (decide (i ≤ j))) := ⟨_, fun _ => op_le, ro_dI0 fun _ _ _ _ => .bl _⟩
theorem cd_gt : CmpD K X .Gt (dI0 fun i j => .bl (decide (j < i))) := ⟨_, fun _ => op_gt, ro_dI0 fun _ _ _ _ => .bl _⟩
theorem cd_ge : CmpD K X .GtE (dI0 fun i j => .bl (decide (j ≤ i))) := ⟨_, fun _ => op_ge, ro_dI0 fun _ _ _ _ => .bl _⟩
theorem cd_isN : CmpD K X .Is (dIsN false) := ⟨_, fun _ => op_isN, ro_isN⟩
theorem cd_notN : CmpD K X .IsNot (dIsN true) := ⟨_, fun _ => op_notN, ro_notN⟩
theorem cd_eq (hu : ∀ i, (X i).A.units + 64 < cLine) (hK : ∀ i, (X i).K = K := by intro _; rfl) : CmpD K X .Eq (dEq false) := ⟨_, fun i => op_eqK (hK i) (hu i), ro_eq⟩
theorem cd_ne (hu : ∀ i, (X i).A.units + 64 < cLine) (hK : ∀ i, (X i).K = K := by intro _; rfl) : CmpD K X .NotEq (dEq true) := ⟨_, fun i => op_neK (hK i) (hu i), ro_ne⟩
theorem cd_in (hu : ∀ i, (X i).A.units + 65 < cLine) (hK : ∀ i, (X i).K = K := by intro _; rfl) : CmpD K X .In (dIn false) := ⟨_, fun i => op_inAll (hK i) (hu i), ro_in⟩
theorem cd_notIn (hu : ∀ i, (X i).A.units + 65 < cLine) (hK : ∀ i, (X i).K = K := by intro _; rfl) : CmpD K X .NotIn (dIn true) := ⟨_, fun i => op_notInAll (hK i) (hu i), ro_notIn⟩
theorem de_cmpC {op : CmpOp} {dr : Dt → Dt → (Dt → Prop) → Prop} (c : CmpD K X op dr) (ha : DE z K X a ea) (hb : DE z K X b eb) (hm : behindInMarks op b = false) : DE z K X (.Compare a [op] [b] pos) (dOp dr ea eb) := by
  obtain ⟨r, h1, h2⟩ := c.ex
  exact de_cmp h1 h2 ha hb hm
theorem dt_cmpC {op : CmpOp} {dr : Dt → Dt → (Dt → Prop) → Prop} (c : CmpD K X op dr) (ha : DE false K X a ea) (hb : DE false K X b eb) (hm : behindInMarks op b = false) : DT K X (.Compare a [op] [b] pos) (dTst (dOp dr ea eb)) := by
  obtain ⟨r, h1, h2⟩ := c.ex
  exact dt_cmp h1 h2 ha hb hm
/-- a comparison of things, some of them own, as a value: a bool avoids all -/
theorem de_cmpF {op : CmpOp} {dr : Dt → Dt → (Dt → Prop) → Prop} (c : CmpD K X op dr) (ha : DE false K X a ea) (hb : DE false K X b eb) (hm : behindInMarks op b = false) : DE true K X (.Compare a [op] [b] pos) (fun δ Q => dOp dr ea eb δ fun d => d.flat = true ∧ Q d) := de_flat (de_cmpC c ha hb hm)
/-- a < b < c -/
def dChain (dr dr' : Dt → Dt → (Dt → Prop) → Prop) (ea eb ec : EvE) : EvE := fun δ Q => ea δ fun x => eb δ fun y => dr x y fun w => ∃ k, w = .bl k ∧ if k = true then ec δ fun u => dr' y u Q else Q (.bl false)
theorem ve_chain {r r' : R2} {dr dr' : Dt → Dt → (Dt → Prop) → Prop} {ta tb tc : TE} (h2 : ROk K r dr) (h2' : ROk K r' dr') (va : VE z K ta ea) (vb : VE z K tb eb) (vc : VE z K tc ec) : VE z K (tChain r r' ta tb tc) (dChain dr dr' ea eb ec) := by
  intro C σ δ H Q Qd k s e q
  subst k
  refine va C σ δ H _ _ rfl s e fun x dx H1 e1 r1 e => ?_
  refine vb C σ δ H1 _ _ rfl (s.step e1) e fun y dy H2 e2 r2 e => ?_
  have s2 := (s.step e1).step e2
  refine h2 (Zz z C δ) H2 x y dx dy _ _ s2.al (rep_st (s.step e1) e2 r1) r2 e fun w dw H3 e3 r3 e => ?_
  obtain ⟨k, rfl, e⟩ := e
  have e3' : Stp C.S H2 H3 := Stp.of e3
  have s3 := s2.step e3'
  refine ⟨k, r3.bl_inv, ?_⟩
  cases k
  · exact q _ _ H3 ((e1.trans e2).trans e3') (.bl false) e
  · refine vc C σ δ H3 _ _ rfl s3 e fun u du H4 e4 r4 e => ?_
    have s4 := s3.step e4
    exact h2' (Zz z C δ) H4 y u dy du Q Qd s4.al (rep_st s3 e4 (rep_st s2 e3' r2)) r4 e fun v d H5 e5 r5 qd => q v d H5 ((((e1.trans e2).trans e3').trans e4).trans (Stp.of e5)) r5 qd
theorem de_chainC {op op' : CmpOp} {dr dr' : Dt → Dt → (Dt → Prop) → Prop} (h : CmpD K X op dr) (h' : CmpD K X op' dr') (ha : DE z K X a ea) (hb : DE z K X b eb) (hc : DE z K X c ec) (hm : lastMarks [op, op'] [b, c] = false := by with_unfolding_all rfl) : DE z K X (.Compare a [op, op'] [b, c] pos) (dChain dr dr' ea eb ec) := by
  obtain ⟨r, h1, h2⟩ := h.ex
  obtain ⟨r', h1', h2'⟩ := h'.ex
  obtain ⟨ta, pa, va⟩ := ha
  obtain ⟨tb, pb, vb⟩ := hb
  obtain ⟨tc, pc, vc⟩ := hc
  exact ⟨_, fun i => pe_chain (h1 i) (h1' i) (pa i) (pb i) (pc i) hm, ve_chain h2 h2' va vb vc⟩
theorem dt_chainC {op op' : CmpOp} {dr dr' : Dt → Dt → (Dt → Prop) → Prop} (h : CmpD K X op dr) (h' : CmpD K X op' dr') (ha : DE false K X a ea) (hb : DE false K X b eb) (hc : DE false K X c ec) (hm : lastMarks [op, op'] [b, c] = false := by with_unfolding_all rfl) : DT K X (.Compare a [op, op'] [b, c] pos) (dTst (dChain dr dr' ea eb ec)) := by
  obtain ⟨r, h1, h2⟩ := h.ex
  obtain ⟨r', h1', h2'⟩ := h'.ex
  obtain ⟨ta, pa, va⟩ := ha
  obtain ⟨tb, pb, vb⟩ := hb
  obtain ⟨tc, pc, vc⟩ := hc
  exact ⟨_, fun i => pt_chain (h1 i) (h1' i) (pa i) (pb i) (pc i) hm, vt_tst (ve_chain h2 h2' va vb vc)⟩
end
end Dl
set_option maxHeartbeats 1000000
namespace Dl
open PySem PySem.Spec PyProof.Rows L2 Lcn Sq
section
variable {K : PySem.W.Frag} {X : Cx}
/-! ### built-ins by values -/
def dLen (ds : List Dt) (Q : Dt → Prop) : Prop := match ds with
  | [.lst xs] => Q (.int xs.length)
  | [.tup xs] => Q (.int xs.length)
  | [.str z] => z.length ≤ sizeLine ∧ Q (.int z.length)
  | _ => False
def rLenAll (K : PySem.W.Frag) : List V → Hp → VK → Prop := fun xs H Q => (fun xs H Q => ∃ p ys, xs = [V.ref p] ∧ (SqL K H p ys ∨ SqT K H p ys) ∧ Q (.int ys.length) H : List V → Hp → VK → Prop) xs H Q ∨ (fun xs H Q => ∃ z, xs = [V.str z] ∧ z.length ≤ sizeLine ∧ Q (.int z.length) H : List V → Hp → VK → Prop) xs H Q
theorem cr_len (hK : X.K = K) : CallR X (.builtin "len") (rLenAll K) := by
  subst hK
  exact call_len_seq.or call_len_str
theorem repl1 {av : Addr → Prop} {H : Hp} {xs : List V} {d : Dt} (r : RepL K av H xs [d]) : ∃ x, xs = [x] ∧ Rep K av H x d := by
  have := r.l
  match xs, this, r with
  | [x], _, r => exact ⟨x, rfl, r.head.1⟩
theorem rc_len : RcOk K (rLenAll K) dLen := fun av H xs ds Q Qd al r d q => by
  unfold dLen at d
  split at d
  · obtain ⟨x, rfl, rr⟩ := repl1 r
    obtain ⟨a, xs, rfl, hx, lx⟩ := rr.lst_inv
    exact .inl ⟨a, xs, rfl, .inl hx.sq, by rw [lx.l]; exact q _ _ H (Same.refl H) (.int _) d⟩
  · obtain ⟨x, rfl, rr⟩ := repl1 r
    obtain ⟨a, xs, rfl, hx, lx⟩ := rr.tup_inv
    exact .inl ⟨a, xs, rfl, .inr hx.sq, by rw [lx.l]; exact q _ _ H (Same.refl H) (.int _) d⟩
  · obtain ⟨x, rfl, rr⟩ := repl1 r
    exact .inr ⟨_, by rw [rr.str_inv], d.1, q _ _ H (Same.refl H) (.int _) d.2⟩
  · exact d.elim
def dList (ds : List Dt) (Q : Dt → Prop) : Prop := match ds with
  | [.lst xs] => Q (.lst xs)
  | [.tup xs] => Q (.lst xs)
  | _ => False
theorem cr_list (hK : X.K = K) : CallR X (.type "list") (fun xs H Q => ∃ p ys, xs = [.ref p] ∧ (SqL K H p ys ∨ SqT K H p ys) ∧ ∀ l, H l = none → Q (.ref l) (upd H l (.lst ys))) := hK ▸ call_list_of
theorem rc_list : RcOk K (fun xs H Q => ∃ p ys, xs = [.ref p] ∧ (SqL K H p ys ∨ SqT K H p ys) ∧ ∀ l, H l = none → Q (.ref l) (upd H l (.lst ys))) dList := fun av H xs ds Q Qd al r d q => by
  unfold dList at d
  split at d
  · obtain ⟨x, rfl, rr⟩ := repl1 r
    obtain ⟨a, xs, rfl, hx, lx⟩ := rr.lst_inv
    exact ⟨a, xs, rfl, .inl hx.sq, fun l hl => q _ _ _ (same_new hl) (rep_newL al hl lx) d⟩
  · obtain ⟨x, rfl, rr⟩ := repl1 r
    obtain ⟨a, xs, rfl, hx, lx⟩ := rr.tup_inv
    exact ⟨a, xs, rfl, .inr hx.sq, fun l hl => q _ _ _ (same_new hl) (rep_newL al hl lx) d⟩
  · exact d.elim
def dTuple (ds : List Dt) (Q : Dt → Prop) : Prop := match ds with
  | [.lst xs] => Q (.tup xs)
  | [.tup xs] => Q (.tup xs)
  | _ => False
theorem cr_tuple (hK : X.K = K) : CallR X (.type "tuple") (fun xs H Q => ∃ p ys, xs = [.ref p] ∧ ((SqL K H p ys ∧ ∀ l, H l = none → Q (.ref l) (upd H l (.tup ys))) ∨ (SqT K H p ys ∧ Q (.ref p) H))) := hK ▸ call_tuple_of
theorem rc_tuple : RcOk K (fun xs H Q => ∃ p ys, xs = [.ref p] ∧ ((SqL K H p ys ∧ ∀ l, H l = none → Q (.ref l) (upd H l (.tup ys))) ∨ (SqT K H p ys ∧ Q (.ref p) H))) dTuple := fun av H xs ds Q Qd al r d q => by
  unfold dTuple at d
  split at d
  · obtain ⟨x, rfl, rr⟩ := repl1 r
    obtain ⟨a, xs, rfl, hx, lx⟩ := rr.lst_inv
    exact ⟨a, xs, rfl, .inl ⟨hx.sq, fun l hl => q _ _ _ (same_new hl) (rep_newT al hl lx) d⟩⟩
  · obtain ⟨x, rfl, rr⟩ := repl1 r
    have r' := rr
    obtain ⟨a, xs, rfl, hx, lx⟩ := rr.tup_inv
    exact ⟨a, xs, rfl, .inr ⟨hx.sq, q _ _ H (Same.refl H) r' d⟩⟩
  · exact d.elim
def dInt (ds : List Dt) (Q : Dt → Prop) : Prop := match ds with
  | [.int i] => Q (.int i)
  | [.bl b] => Q (.int (if b then 1 else 0))
  | _ => False
theorem rc_int : RcOk K (fun xs H Q => (∃ i, xs = [.int i] ∧ Q (.int i) H) ∨ ∃ k, xs = [.bl k] ∧ Q (.int (if k then 1 else 0)) H) dInt := fun av H xs ds Q Qd al r d q => by
  unfold dInt at d
  split at d
  · obtain ⟨x, rfl, rr⟩ := repl1 r
    exact .inl ⟨_, by rw [rr.int_inv], q _ _ H (Same.refl H) (.int _) d⟩
  · obtain ⟨x, rfl, rr⟩ := repl1 r
    exact .inr ⟨_, by rw [rr.bl_inv], q _ _ H (Same.refl H) (.int _) d⟩
  · exact d.elim
theorem repl_ints {av : Addr → Prop} {H : Hp} : ∀ {xs : List V} {ns : List Int}, RepL K av H xs (ns.map .int) → xs = ns.map V.int
  | [], [], _ => rfl
  | [], _ :: _, r => by have := r.l; simp at this
  | _ :: _, [], r => by have := r.l; simp at this
  | x :: xs, n :: ns, r => by
    rw [List.map_cons] at r
    rw [List.map_cons, r.head.1.int_inv, repl_ints r.head.2]
theorem repl_of_ints {av : Addr → Prop} {H : Hp} : ∀ ns : List Int, RepL K av H (ns.map V.int) (ns.map .int)
  | [] => .nil
  | n :: ns => .cons (.int n) (repl_of_ints ns)
theorem repl_bls {av : Addr → Prop} {H : Hp} : ∀ {xs : List V} {ns : List Bool}, RepL K av H xs (ns.map .bl) → xs = ns.map V.bl
  | [], [], _ => rfl
  | [], _ :: _, r => by have := r.l; simp at this
  | _ :: _, [], r => by have := r.l; simp at this
  | x :: xs, n :: ns, r => by
    rw [List.map_cons] at r
    rw [List.map_cons, r.head.1.bl_inv, repl_bls r.head.2]
def dSum (ds : List Dt) (Q : Dt → Prop) : Prop := ∃ ns : List Int, ds = [.lst (ns.map .int)] ∧ Q (.int ns.sum)
theorem cr_sumK (hc : X.calm = true) (hK : X.K = K) : CallR X (.builtin "sum") (rSum K) := hK ▸ cr_sum hc
theorem rc_sum : RcOk K (rSum K) dSum := fun av H xs ds Q Qd al r d q => by
  obtain ⟨ns, rfl, d⟩ := d
  obtain ⟨x, rfl, rr⟩ := repl1 r
  obtain ⟨a, xs, rfl, hx, lx⟩ := rr.lst_inv
  rw [repl_ints lx] at hx
  exact ⟨a, ns, rfl, hx.sq, q _ _ H (Same.refl H) (.int _) d⟩
def dAny (ds : List Dt) (Q : Dt → Prop) : Prop := ∃ ns : List Bool, ds = [.lst (ns.map .bl)] ∧ Q (.bl (ns.any id))
def dAll (ds : List Dt) (Q : Dt → Prop) : Prop := ∃ ns : List Bool, ds = [.lst (ns.map .bl)] ∧ Q (.bl (ns.all id))
theorem cr_anyK (hc : X.calm = true) (hK : X.K = K) : CallR X (.builtin "any") (rAny K) := hK ▸ cr_any hc
theorem cr_allK2 (hc : X.calm = true) (hK : X.K = K) : CallR X (.builtin "all") (rAll K) := hK ▸ cr_all hc
theorem rc_any : RcOk K (rAny K) dAny := fun av H xs ds Q Qd al r d q => by
  obtain ⟨ns, rfl, d⟩ := d
  obtain ⟨x, rfl, rr⟩ := repl1 r
  obtain ⟨a, xs, rfl, hx, lx⟩ := rr.lst_inv
  rw [repl_bls lx] at hx
  exact ⟨a, ns, rfl, hx.sq, q _ _ H (Same.refl H) (.bl _) d⟩
theorem rc_all : RcOk K (rAll K) dAll := fun av H xs ds Q Qd al r d q => by
  obtain ⟨ns, rfl, d⟩ := d
  obtain ⟨x, rfl, rr⟩ := repl1 r
  obtain ⟨a, xs, rfl, hx, lx⟩ := rr.lst_inv
  rw [repl_bls lx] at hx
  exact ⟨a, ns, rfl, hx.sq, q _ _ H (Same.refl H) (.bl _) d⟩
def dMax (ds : List Dt) (Q : Dt → Prop) : Prop := ∃ ns : List Int, ds = [.lst (ns.map .int)] ∧ 0 < ns.length ∧ ∀ m, m ∈ ns → (∀ y, y ∈ ns → y ≤ m) → Q (.int m)
def dMin (ds : List Dt) (Q : Dt → Prop) : Prop := ∃ ns : List Int, ds = [.lst (ns.map .int)] ∧ 0 < ns.length ∧ ∀ m, m ∈ ns → (∀ y, y ∈ ns → m ≤ y) → Q (.int m)
theorem cr_maxK (hc : X.calm = true) (hK : X.K = K) : CallR X (.builtin "max") (rMax K) := hK ▸ cr_max hc
theorem cr_minK (hc : X.calm = true) (hK : X.K = K) : CallR X (.builtin "min") (rMin K) := hK ▸ cr_min hc
theorem rc_max : RcOk K (rMax K) dMax := fun av H xs ds Q Qd al r d q => by
  obtain ⟨ns, rfl, h, d⟩ := d
  obtain ⟨x, rfl, rr⟩ := repl1 r
  obtain ⟨a, xs, rfl, hx, lx⟩ := rr.lst_inv
  rw [repl_ints lx] at hx
  exact ⟨a, ns, rfl, hx.sq, h, fun m h1 h2 => q _ _ H (Same.refl H) (.int _) (d m h1 h2)⟩
theorem rc_min : RcOk K (rMin K) dMin := fun av H xs ds Q Qd al r d q => by
  obtain ⟨ns, rfl, h, d⟩ := d
  obtain ⟨x, rfl, rr⟩ := repl1 r
  obtain ⟨a, xs, rfl, hx, lx⟩ := rr.lst_inv
  rw [repl_ints lx] at hx
  exact ⟨a, ns, rfl, hx.sq, h, fun m h1 h2 => q _ _ H (Same.refl H) (.int _) (d m h1 h2)⟩
def dMax2 (ds : List Dt) (Q : Dt → Prop) : Prop := match ds with
  | [.int i, .int j] => Q (.int (if j > i then j else i))
  | _ => False
def dMin2 (ds : List Dt) (Q : Dt → Prop) : Prop := match ds with
  | [.int i, .int j] => Q (.int (if j < i then j else i))
  | _ => False
theorem repl2 {av : Addr → Prop} {H : Hp} {xs : List V} {d e : Dt} (r : RepL K av H xs [d, e]) : ∃ x y, xs = [x, y] ∧ Rep K av H x d ∧ Rep K av H y e := by
  have := r.l
  match xs, this, r with
  | [x, y], _, r => exact ⟨x, y, rfl, r.head.1, r.head.2.head.1⟩
theorem rc_max2 : RcOk K (fun xs H Q => ∃ i j, xs = [.int i, .int j] ∧ Q (.int (if j > i then j else i)) H) dMax2 := fun av H xs ds Q Qd al r d q => by
  unfold dMax2 at d
  split at d
  · obtain ⟨x, y, rfl, r1, r2⟩ := repl2 r
    exact ⟨_, _, by rw [r1.int_inv, r2.int_inv], q _ _ H (Same.refl H) (.int _) d⟩
  · exact d.elim
theorem rc_min2 : RcOk K (fun xs H Q => ∃ i j, xs = [.int i, .int j] ∧ Q (.int (if j < i then j else i)) H) dMin2 := fun av H xs ds Q Qd al r d q => by
  unfold dMin2 at d
  split at d
  · obtain ⟨x, y, rfl, r1, r2⟩ := repl2 r
    exact ⟨_, _, by rw [r1.int_inv, r2.int_inv], q _ _ H (Same.refl H) (.int _) d⟩
  · exact d.elim
/-- sorted, of ints -/
def dSortI (ds : List Dt) (Q : Dt → Prop) : Prop := ∃ ns : List Int, ds = [.lst (ns.map .int)] ∧ ∀ ms : List Int, ms.Perm ns → ms.Pairwise (· ≤ ·) → Q (.lst (ms.map .int))
theorem cr_sortI (hK : X.K = K) : CallR X (.builtin "sorted") (rSortedI K) := hK ▸ cr_sortedI
theorem rc_sortI : RcOk K (rSortedI K) dSortI := fun av H xs ds Q Qd al r d q => by
  obtain ⟨ns, rfl, d⟩ := d
  obtain ⟨x, rfl, rr⟩ := repl1 r
  obtain ⟨a, xs, rfl, hx, lx⟩ := rr.lst_inv
  rw [repl_ints lx] at hx
  exact ⟨a, ns, rfl, hx.sq, fun ms p h1 h2 hp => q _ _ _ (same_new hp) (rep_newL al hp (repl_of_ints ms)) (d ms h1 h2)⟩
/-! ### isinstance -/
def tyD : Dt → Option String
  | .non => some "NoneType"
  | .bl _ => some "bool"
  | .int _ => some "int"
  | .str _ => some "str"
  | .lst _ => some "list"
  | .tup _ => some "tuple"
  | .ins _ _ => none
theorem ty_rep {av : Addr → Prop} {H : Hp} {x : V} {d : Dt} {t : String} (r : Rep K av H x d) (h : tyD d = some t) : TyX K H x (.type t) := by
  cases r with
  | non => cases h; exact .base .non
  | bl b => cases h; exact .base (.bl b)
  | int i => cases h; exact .base (.int i)
  | str s => cases h; exact .base (.str s)
  | lst hx l f => cases h; exact .base (.lst hx.2)
  | tup hx l f =>
    cases h
    exact .base (.tup hx.2)
  | ins => cases h
end
section
variable {ι : Type} {K : PySem.W.Frag} {X : ι → Cx} {z : Bool} {pos p2 : Pos} {a b c e : Expr} {es : List Expr} {ea eb ec : EvE} {et : EvA}
/-- d's kind is one of Ts, by t -/
def isiB (ts : List String) (d : Dt) : Option Bool := (tyD d).bind fun t => ts.foldr (fun T r => (kitB t T).bind fun b => if b = true then some true else r) (some false)
def dIsi (ts : List String) (ea : EvE) : EvE := fun δ Q => ea δ fun d => ∃ b, isiB ts d = some b ∧ Q (.bl b)
theorem de_isi1 {T : Str} {Ts : String} {p q2 : Pos} (ha : DE false K X a ea) (hT : ∀ i, PE (X i) (.Name T q2) (tC (.ty Ts))) (hg : ∀ i, Gl (X i) "isinstance") (hm : ∀ i, (X i).mg "isinstance" = none)
    (hs : ∀ i, starEach [a, .Name T q2] (X i).env = (false, eval a (X i).env) :: starEach [.Name T q2] (X i).env := by intro _; rfl) (hs2 : ∀ i, starEach [.Name T q2] (X i).env = [(false, eval (.Name T q2) (X i).env)] := by intro _; rfl)
    (hpl : ∀ i, (backTo pos (starEach [.Name T q2] (X i).env)).any (·.1) = false := by intro _; rfl) (hK : ∀ i, (X i).K = K := by intro _; rfl) : DE z K X (.Call (.Name "isinstance" p) [a, .Name T q2] [] pos) (dIsi [Ts] ea) := by
  obtain ⟨ta, pa, va⟩ := ha
  refine ⟨_, fun i => pe_callB (call_isiK (hK i)) (hg i) (hm i) (by decide +kernel) (pa_cons (pa i) (pa_cons (hT i) pa_nil (hs2 i)) (hs i)) (he := hs i) (hpl := hpl i), fun C σ δ H Q Qd k s e q => ?_⟩
  subst k
  refine va C σ δ H _ _ rfl s e fun x d H1 e1 r1 e => ?_
  obtain ⟨b, hb, e⟩ := e
  unfold isiB at hb
  cases ht : tyD d with
  | none => rw [ht] at hb; cases hb
  | some t =>
    rw [ht] at hb
    have hb : ((kitB t Ts).bind fun b => if b = true then some true else some false) = some b := hb
    cases hk : kitB t Ts with
    | none => rw [hk] at hb; cases hb
    | some b' =>
      rw [hk] at hb
      have : b' = b := by cases b' <;> simpa using hb
      subst this
      exact ⟨x, .ty Ts, .type t, .type Ts, b', rfl, .ty Ts, ty_rep r1 ht, kit_ty hk, q _ _ H1 e1 (.bl _) e⟩
/-! ### targets -/
/-- what own lists stay: all but those at is; none is new -/
structure Ow (is : List Nat) (δ δ' : List Sl) : Prop where
  keep : ∀ (j : Nat) (a : Addr) (ds : Oc), j ∉ is → δ[j]? = some (.own a ds) → δ'[j]? = some (.own a ds)
  old : ∀ (j : Nat) (a : Addr) (ds : Oc), δ'[j]? = some (.own a ds) → δ[j]? = some (.own a ds)
theorem Ow.refl (δ : List Sl) : Ow [] δ δ := ⟨fun _ _ _ _ h => h, fun _ _ _ h => h⟩
theorem Ow.trans {is js : List Nat} {δ δ1 δ2 : List Sl} (a : Ow is δ δ1) (b : Ow js δ1 δ2) : Ow (is ++ js) δ δ2 := ⟨fun j x ds n h => b.keep j x ds (fun z => n (List.mem_append_right _ z)) (a.keep j x ds (fun z => n (List.mem_append_left _ z)) h), fun j x ds h => a.old j x ds (b.old j x ds h)⟩
theorem Ow.set {i : Nat} {δ : List Sl} {u : Sl} (hu : ∀ b, ¬ u.at b) : Ow [i] δ (δ.set i u) := ⟨fun j a ds n h => by
  rw [List.getElem?_set_ne (fun z => n (by simp [z]))]
  exact h, fun j a ds h => by
  by_cases hj : i = j
  · subst hj
    rw [List.getElem?_set] at h
    simp at h
    exact absurd rfl (h.2 ▸ hu a)
  · rwa [List.getElem?_set_ne hj] at h⟩
/-- no own list at is -/
def noOwn (is : List Nat) (δ : List Sl) : Bool := is.all fun i => match δ[i]? with
  | some (.own _ _) => false
  | _ => true
theorem Ow.ge {C : Ctx} {is : List Nat} {δ δ' : List Sl} (o : Ow is δ δ') (n : noOwn is δ = true) {b : Addr} (h : Zd C δ b) : Zd C δ' b := by
  rcases h with h | ⟨s, m, e⟩
  · exact .inl h
  · cases s with
    | own a ds =>
      obtain ⟨j, hj⟩ := List.mem_iff_getElem?.mp m
      have nj : j ∉ is := fun z => by
        have := List.all_eq_true.mp n j z
        rw [hj] at this
        cases this
      exact .inr ⟨_, List.mem_iff_getElem?.mpr ⟨j, o.keep j a ds nj hj⟩, e⟩
    | _ => exact e.elim
def VG (K : PySem.W.Frag) (g : TG) (gv : Dt → List Sl → (List Sl → Prop) → Prop) (is : List Nat) : Prop := ∀ (C : Ctx) (σ : L2.St) (δ : List Sl) (H : Hp) (v : V) (d : Dt) (Q : L2.St → Hp → Prop) (Qd : List Sl → Prop), C.K = K → Sok C H σ δ → Rep K (Zd C δ) H v d → gv d δ Qd →
  (∀ σ' δ', Sok C H σ' δ' → (∀ vs, (∀ i, i ∈ is → i ∈ vs) → wipe σ' vs = wipe σ vs) → (∀ b, Zd C δ' b → Zd C δ b) → Ow is δ δ' → Qd δ' → Q σ' H) → g v σ H Q
def DG {ι : Type} (K : PySem.W.Frag) (X : ι → Cx) (tg : Expr) (gv : Dt → List Sl → (List Sl → Prop) → Prop) (is : List Nat) : Prop := ∃ g, (∀ i, PG (X i) tg g) ∧ VG K g gv is
def VGs (K : PySem.W.Frag) (g : TGs) (gv : List Dt → List Sl → (List Sl → Prop) → Prop) (is : List Nat) : Prop := ∀ (C : Ctx) (σ : L2.St) (δ : List Sl) (H : Hp) (vs : List V) (ds : List Dt) (Q : L2.St → Hp → Prop) (Qd : List Sl → Prop), C.K = K → Sok C H σ δ → RepL K (Zd C δ) H vs ds → gv ds δ Qd →
  (∀ σ' δ', Sok C H σ' δ' → (∀ vs, (∀ i, i ∈ is → i ∈ vs) → wipe σ' vs = wipe σ vs) → (∀ b, Zd C δ' b → Zd C δ b) → Ow is δ δ' → Qd δ' → Q σ' H) → g vs σ H Q
def DGs {ι : Type} (K : PySem.W.Frag) (X : ι → Cx) (tg : List Expr) (gv : List Dt → List Sl → (List Sl → Prop) → Prop) (is : List Nat) : Prop := ∃ g, (∀ i, PGs (X i) tg g) ∧ VGs K g gv is
theorem wipe_set {σ : L2.St} {i : Nat} {x : Option V} : ∀ {vs : List Nat}, i ∈ vs → wipe (σ.set i x) vs = wipe σ vs
  | v :: vs, h => by
    unfold wipe
    by_cases hv : i ∈ vs
    · rw [wipe_set hv]
    · rcases List.mem_cons.mp h with rfl | h
      · have key : ∀ (ws : List Nat), (wipe (σ.set i x) ws).set i none = (wipe σ ws).set i none := by
          intro ws
          induction ws with
          | nil => unfold wipe; rw [List.set_set]
          | cons w ws ih =>
            unfold wipe
            by_cases hw : i = w
            · subst hw
              rw [ih]
            · rw [List.set_comm _ _ (Ne.symm hw), ih, List.set_comm _ _ hw]
        exact key vs
      · exact absurd h hv
def gvName (i : Nat) : Dt → List Sl → (List Sl → Prop) → Prop := fun d δ Q => Q (δ.set i (.val d))
theorem dg_name {i : Nat} {x : Str} (p : ∀ j, PG (X j) (.Name x pos) (gName i)) : DG K X (.Name x pos) (gvName i) [i] := by
  refine ⟨_, p, fun C σ δ H v d Q Qd k s r e q => ?_⟩
  subst k
  exact q _ _ (s.setV r) (fun vs h => wipe_set (h i (by simp))) (fun b z => (zd_set z).resolve_right fun z => z) (Ow.set fun _ z => z) e
def gvNil : List Dt → List Sl → (List Sl → Prop) → Prop := fun ds δ Q => ds = [] ∧ Q δ
def gvCons (g : Dt → List Sl → (List Sl → Prop) → Prop) (gs : List Dt → List Sl → (List Sl → Prop) → Prop) : List Dt → List Sl → (List Sl → Prop) → Prop := fun ds δ Q => match ds with
  | d :: r => g d δ fun δ' => gs r δ' Q
  | [] => False
theorem dgs_nil : DGs K X [] gvNil [] := by
  refine ⟨_, fun _ => pgs_nil, fun C σ δ H vs ds Q Qd k s r e q => ?_⟩
  obtain ⟨rfl, e⟩ := e
  refine ⟨?_, q σ δ s (fun _ _ => rfl) (fun _ z => z) (Ow.refl δ) e⟩
  have := r.l
  cases vs with
  | nil => rfl
  | cons => simp at this
theorem dgs_cons {g : Dt → List Sl → (List Sl → Prop) → Prop} {gs : List Dt → List Sl → (List Sl → Prop) → Prop} {is js : List Nat} (h1 : DG K X e g is) (h2 : DGs K X es gs js) (hp : ∀ {g : TG} {gs : TGs} i, PG (X i) e g → PGs (X i) es gs → PGs (X i) (e :: es) (gCons g gs) := by intro _ _ _ h1 h2; exact pgs_cons h1 h2) : DGs K X (e :: es) (gvCons g gs) (is ++ js) := by
  obtain ⟨t, p, v⟩ := h1
  obtain ⟨t2, p2, v2⟩ := h2
  refine ⟨_, fun i => hp i (p i) (p2 i), fun C σ δ H vs ds Q Qd k s r e q => ?_⟩
  subst k
  unfold gvCons at e
  match ds, e with
  | d :: ds, e =>
    match vs, r with
    | [], r => have := r.l; simp at this
    | x :: xs, r =>
      refine ⟨x, xs, rfl, v C σ δ H x d _ _ rfl s r.head.1 e fun σ1 δ1 s1 w1 z1 o1 e => ?_⟩
      refine v2 C σ1 δ1 H xs ds _ _ rfl s1 (r.head.2.mono z1) e fun σ2 δ2 s2 w2 z2 o2 e => ?_
      exact q σ2 δ2 s2 (fun vs h => (w2 vs fun i m => h i (List.mem_append_right _ m)).trans (w1 vs fun i m => h i (List.mem_append_left _ m))) (fun b z => z1 b (z2 b z)) (o1.trans o2) e
def gvTup (gs : List Dt → List Sl → (List Sl → Prop) → Prop) (n : Nat) : Dt → List Sl → (List Sl → Prop) → Prop := fun d δ Q => match d with
  | .tup ds => ds.length = n ∧ gs ds δ Q
  | .lst ds => ds.length = n ∧ gs ds δ Q
  | _ => False
theorem dg_tup {gs : List Dt → List Sl → (List Sl → Prop) → Prop} {is : List Nat} {k : Nat} {n : Nat} (h : DGs K X es gs is) (hc : ∀ i, (X i).calm = true := by intro _; rfl) (hn : ∀ i, (assignEach es (X i).env).length = n := by intro _; rfl) (hst : ∀ i, (assignEach es (X i).env).findIdx? (·.1) = none := by intro _; rfl) (hK : ∀ i, (X i).K = K := by intro _; rfl) : DG K X (.Tuple es k pos) (gvTup gs n) is := by
  obtain ⟨t, p, v⟩ := h
  refine ⟨_, fun i => pg_seqK (hK i) (hc i) (p i) (hn i) (hst i), fun C σ δ H x d Q Qd k s r e q => ?_⟩
  subst k
  unfold gvTup at e
  split at e
  · obtain ⟨a, xs, rfl, hx, lx⟩ := r.tup_inv
    exact ⟨a, xs, rfl, .inr hx.sq, by rw [lx.l]; exact e.1, v C σ δ H xs _ _ _ rfl s lx e.2 q⟩
  · obtain ⟨a, xs, rfl, hx, lx⟩ := r.lst_inv
    exact ⟨a, xs, rfl, .inl hx.sq, by rw [lx.l]; exact e.1, v C σ δ H xs _ _ _ rfl s lx e.2 q⟩
  · exact e.elim
end
end Dl
set_option maxHeartbeats 1000000
namespace Dl
open PySem PySem.Spec PyProof.Rows L2 Lcn Sq
/-! ### what is walked -/
structure ItOk (K : PySem.W.Frag) (base : Hp → Prop) (gs : List (V × Dt)) (G : Hp → Prop) (Y : Nat → Hp → V → Hp → Prop) (ds : List Dt) : Prop where
  g : ∀ (av : Addr → Prop) (H : Hp), Al av H → base H → (∀ g, g ∈ gs → Rep K av H g.1 g.2) → G H
  y : ∀ (i : Nat) (d : Dt) (av : Addr → Prop) (H : Hp) (x : V) (H' : Hp), ds[i]? = some d → Al av H → base H → (∀ g, g ∈ gs → Rep K av H g.1 g.2) → Y i H x H' → Same H H' ∧ Rep K av H' x d
def VI (o : Bool) (K : PySem.W.Frag) (wi : TI) (iv : EvA) : Prop := ∀ (C : Ctx) (σ : L2.St) (δ : List Sl) (H : Hp) (R : It → Hp → Prop) (Qd : List Dt → Prop), C.K = K → Sok C H σ δ → iv δ Qd →
  (∀ (J : It) (n : Nat) (G : Hp → Prop) (Y : Nat → Hp → V → Hp → Prop) (ds : List Dt) (H1 : Hp) (base : Hp → Prop) (gs : List (V × Dt)), Walk J n G Y → ds.length = n → Stp C.S H H1 → (o = false → ∀ H, base H) → (∀ H', (∀ b u, ¬ ch C.S b → H1 b = some u → H' b = some u) → base H') → (∀ g, g ∈ gs → Rep K (Zd C δ) H1 g.1 g.2) → ItOk K base gs G Y ds → Qd ds → R J H1) → wi σ H R
def DI {ι : Type} (o : Bool) (K : PySem.W.Frag) (X : ι → Cx) (tg iter : Expr) (iv : EvA) : Prop := ∃ wi, (∀ i, PI (X i) tg iter wi) ∧ VI o K wi iv
section
variable {K : PySem.W.Frag} {a : Addr}
theorem walkL {n : Nat} : Walk (Itl K a) n (fun H => ∃ xs, xs.length = n ∧ SqL K H a xs) (fun i H x H' => H' = H ∧ ∀ xs, SqL K H a xs → xs[i]? = some x) :=
  ⟨fun i _ hi ⟨xs, l, q⟩ => ⟨xs, xs[i], q, by simp [l, hi]⟩, fun _ ⟨xs, l, q⟩ => ⟨xs, q, Nat.le_of_eq l⟩, fun _ _ _ _ _ _ y => ⟨y.1, y.2⟩⟩
theorem walkT {n : Nat} : Walk (Itt K a) n (fun H => ∃ xs, xs.length = n ∧ SqT K H a xs) (fun i H x H' => H' = H ∧ ∀ xs, SqT K H a xs → xs[i]? = some x) :=
  ⟨fun i _ hi ⟨xs, l, q⟩ => ⟨xs, xs[i], q, by simp [l, hi]⟩, fun _ ⟨xs, l, q⟩ => ⟨xs, q, Nat.le_of_eq l⟩, fun _ _ _ _ _ _ y => ⟨y.1, y.2⟩⟩
end
def ivSeq (ea : EvE) : EvA := fun δ Q => ea δ fun d => match d with
  | .lst ds => Q ds
  | .tup ds => Q ds
  | _ => False
section
variable {ι : Type} {K : PySem.W.Frag} {X : ι → Cx} {z o : Bool} {pos p2 : Pos} {a b c e tg iter : Expr} {es : List Expr} {ea eb ec : EvE} {et : EvA}
theorem di_seq (ha : DE true K X a ea) (hK : ∀ i, (X i).K = K := by intro _; rfl) : DI o K X tg a (ivSeq ea) := by
  obtain ⟨t, p, v⟩ := ha
  refine ⟨_, fun i => pi_seqK (hK i) (p i), fun C σ δ H R Qd k s e q => ?_⟩
  subst k
  unfold iSeq
  refine v C σ δ H _ _ rfl s e fun x d H1 e1 r e => ?_
  split at e
  · rename_i ds
    have r' := r
    obtain ⟨p, xs, rfl, hx, lx⟩ := r.lst_inv
    refine ⟨p, xs, rfl, .inl ⟨hx.sq, q _ _ _ _ ds H1 (fun _ => True) [(.ref p, .lst ds)] walkL rfl e1 (fun _ _ => trivial) (fun _ _ => trivial) (fun g m => ?_) ⟨fun av H al _ h => ?_, fun i d av H x H' hd al _ h y => ?_⟩ e⟩⟩
    · rw [List.mem_singleton] at m
      rw [m]
      exact r'
    · obtain ⟨p', ys, e', hy, ly⟩ := (h _ (List.mem_singleton.mpr rfl)).lst_inv
      cases e'
      exact ⟨ys, ly.l, hy.sq⟩
    · obtain ⟨p', ys, e', hy, ly⟩ := (h _ (List.mem_singleton.mpr rfl)).lst_inv
      cases e'
      obtain ⟨rfl, y⟩ := y
      exact ⟨Same.refl _, ly.f i x d (y ys hy.sq) hd⟩
  · rename_i ds
    have r' := r
    obtain ⟨p, xs, rfl, hx, lx⟩ := r.tup_inv
    refine ⟨p, xs, rfl, .inr ⟨hx.sq, q _ _ _ _ ds H1 (fun _ => True) [(.ref p, .tup ds)] walkT rfl e1 (fun _ _ => trivial) (fun _ _ => trivial) (fun g m => ?_) ⟨fun av H al _ h => ?_, fun i d av H x H' hd al _ h y => ?_⟩ e⟩⟩
    · rw [List.mem_singleton] at m
      rw [m]
      exact r'
    · obtain ⟨p', ys, e', hy, ly⟩ := (h _ (List.mem_singleton.mpr rfl)).tup_inv
      cases e'
      exact ⟨ys, ly.l, hy.sq⟩
    · obtain ⟨p', ys, e', hy, ly⟩ := (h _ (List.mem_singleton.mpr rfl)).tup_inv
      cases e'
      obtain ⟨rfl, y⟩ := y
      exact ⟨Same.refl _, ly.f i x d (y ys hy.sq) hd⟩
  · exact e.elim
/-- an own list, or a thing, walked by a comprehension -/
def ivOwn (i : Nat) : EvA := fun δ Q => match δ[i]? with
  | some (.own _ (.l ds)) => Q ds
  | some (.val (.lst ds)) => Q ds
  | some (.val (.tup ds)) => Q ds
  | _ => False
theorem repl_ghost {C : Ctx} {H : Hp} {xs : List V} {ds : List Dt} {Z : Addr → Prop} (r : RepL K Z H xs ds) : ∀ g, g ∈ xs.zip ds → Rep K Z H g.1 g.2 := fun g m => by
  obtain ⟨i, hi⟩ := List.mem_iff_getElem?.mp m
  rw [List.getElem?_zip_eq_some] at hi
  exact r.f i _ _ hi.1 hi.2
theorem di_own {i : Nat} {x : Str} (p : ∀ j, PE (X j) (.Name x pos) (tVar i)) (hK : ∀ i, (X i).K = K := by intro _; rfl) : DI true K X tg (.Name x pos) (ivOwn i) := by
  obtain ⟨w1, p1, v1⟩ := di_seq (o := true) (tg := tg) (de_var (z := true) p) hK
  refine ⟨_, fun i => pi_seqK (hK i) (p i), fun C σ δ H R Qd k s e q => ?_⟩
  subst k
  have ev := e
  unfold ivOwn at e
  unfold iSeq
  split at e
  · rename_i a ds h
    obtain ⟨h1, _, h3, xs, h5, h6⟩ := s.lstAt h
    refine ⟨.ref a, h1, a, xs, rfl, .inl ⟨SqL.of h5, q _ _ _ _ ds H (fun H => H a = some (.lst xs)) (xs.zip ds) (walkL (n := ds.length)) rfl (Stp.refl H) (fun z => nomatch z) (fun H' k => k a _ (fun c => h3 (s.avs a (ch_sa c))) h5) (repl_ghost (C := C) h6) ⟨fun av H al hb h => ⟨xs, h6.l, SqL.of hb⟩, fun j d av H x H' hd al hb h y => ?_⟩ e⟩⟩
    obtain ⟨rfl, y⟩ := y
    have hx := y xs (SqL.of hb)
    refine ⟨Same.refl _, h (x, d) (List.mem_iff_getElem?.mpr ⟨j, ?_⟩)⟩
    rw [List.getElem?_zip_eq_some]
    exact ⟨hx, hd⟩
  · rename_i ds h
    obtain ⟨v, h1, h2⟩ := s.sl i _ h
    obtain ⟨p, xs, rfl, hx, lx⟩ := h2.lst_inv
    refine ⟨.ref p, h1, p, xs, rfl, .inl ⟨hx.sq, q _ _ _ _ ds H (fun _ => True) [(.ref p, .lst ds)] walkL rfl (Stp.refl H) (fun _ _ => trivial) (fun _ _ => trivial) (fun g m => ?_) ⟨fun av H al _ h => ?_, fun i d av H x H' hd al _ h y => ?_⟩ e⟩⟩
    · rw [List.mem_singleton] at m
      rw [m]
      exact h2
    · obtain ⟨p', ys, e', hy, ly⟩ := (h _ (List.mem_singleton.mpr rfl)).lst_inv
      cases e'
      exact ⟨ys, ly.l, hy.sq⟩
    · obtain ⟨p', ys, e', hy, ly⟩ := (h _ (List.mem_singleton.mpr rfl)).lst_inv
      cases e'
      obtain ⟨rfl, y⟩ := y
      exact ⟨Same.refl _, ly.f i x d (y ys hy.sq) hd⟩
  · rename_i ds h
    obtain ⟨v, h1, h2⟩ := s.sl i _ h
    obtain ⟨p, xs, rfl, hx, lx⟩ := h2.tup_inv
    refine ⟨.ref p, h1, p, xs, rfl, .inr ⟨hx.sq, q _ _ _ _ ds H (fun _ => True) [(.ref p, .tup ds)] walkT rfl (Stp.refl H) (fun _ _ => trivial) (fun _ _ => trivial) (fun g m => ?_) ⟨fun av H al _ h => ?_, fun i d av H x H' hd al _ h y => ?_⟩ e⟩⟩
    · rw [List.mem_singleton] at m
      rw [m]
      exact h2
    · obtain ⟨p', ys, e', hy, ly⟩ := (h _ (List.mem_singleton.mpr rfl)).tup_inv
      cases e'
      exact ⟨ys, ly.l, hy.sq⟩
    · obtain ⟨p', ys, e', hy, ly⟩ := (h _ (List.mem_singleton.mpr rfl)).tup_inv
      cases e'
      obtain ⟨rfl, y⟩ := y
      exact ⟨Same.refl _, ly.f i x d (y ys hy.sq) hd⟩
  · exact e.elim
/-- lo, lo + 1, .. n of them -/
def rngD (lo : Int) (n : Nat) : List Dt := (List.range n).map fun (i : Nat) => Dt.int (lo + (i : Int))
theorem it_rng {lo : Int} {n : Nat} : ItOk K (fun _ => True) [] (fun _ => True) (YFn fun i => .int (lo + i)) (rngD lo n) := by
  refine ⟨fun _ _ _ _ _ => trivial, fun i d av H x H' hd _ _ _ y => ?_⟩
  have e2 : H' = H ∧ x = .int (lo + (i : Int)) := y
  obtain ⟨rfl, rfl⟩ := e2
  unfold rngD at hd
  rw [List.getElem?_map] at hd
  obtain ⟨j, h1, h2⟩ := Option.map_eq_some_iff.mp hd
  have : j = i := by
    have := (List.getElem?_eq_some_iff.mp h1).2
    simpa using this.symm
  subst this
  subst h2
  exact ⟨Same.refl _, .int _⟩
def ivR1 (et : EvA) : EvA := fun δ Q => et δ fun ds => match ds with
  | [.int j] => -(2 ^ 62) ≤ j ∧ j < 2 ^ 62 ∧ Q (rngD 0 j.toNat)
  | _ => False
def ivR2 (et : EvA) : EvA := fun δ Q => et δ fun ds => match ds with
  | [.int i, .int j] => (-(2 ^ 62) ≤ i ∧ i < 2 ^ 62 ∧ -(2 ^ 62) ≤ j ∧ j < 2 ^ 62) ∧ Q (rngD i (j - i).toNat)
  | _ => False
theorem di_range1 {p : Pos} (hg : ∀ i, Gl (X i) "range") (hm : ∀ i, (X i).mg "range" = none) (ha : DA false K X [a] et) (hs : ∀ i, starEach [a] (X i).env = [(false, eval a (X i).env)] := by intro _; rfl) : DI o K X tg (.Call (.Name "range" p) [a] [] pos) (ivR1 et) := by
  obtain ⟨t, pa, v⟩ := ha
  refine ⟨_, fun i => pi_range1 (hg i) (hm i) (pa i) (hs i), fun C σ δ H R Qd k s e q => ?_⟩
  refine v C σ δ H _ _ k s e fun vs ds H1 e1 r e => ?_
  split at e
  · rename_i j
    obtain ⟨x, rfl, rr⟩ := repl1 r
    refine ⟨j, by rw [rr.int_inv], e.1, e.2.1, q _ _ _ _ _ H1 (fun _ => True) [] walk_range (by simp [rngD]) e1 (fun _ _ => trivial) (fun _ _ => trivial) (fun g m => nomatch m) it_rng e.2.2⟩
  · exact e.elim
theorem di_range2 {p : Pos} (hg : ∀ i, Gl (X i) "range") (hm : ∀ i, (X i).mg "range" = none) (ha : DA false K X [a, b] et) (hs : ∀ i, starEach [a, b] (X i).env = [(false, eval a (X i).env), (false, eval b (X i).env)] := by intro _; rfl) (hs2 : ∀ i, starEach [b] (X i).env = [(false, eval b (X i).env)] := by intro _; rfl) : DI o K X tg (.Call (.Name "range" p) [a, b] [] pos) (ivR2 et) := by
  obtain ⟨t, pa, v⟩ := ha
  refine ⟨_, fun i => pi_range2 (hg i) (hm i) (pa i) (hs i) (hs2 i), fun C σ δ H R Qd k s e q => ?_⟩
  refine v C σ δ H _ _ k s e fun vs ds H1 e1 r e => ?_
  split at e
  · rename_i i j
    obtain ⟨x, y, rfl, r1, r2⟩ := repl2 r
    refine ⟨i, j, by rw [r1.int_inv, r2.int_inv], e.1, q _ _ _ _ _ H1 (fun _ => True) [] walk_range (by simp [rngD]) e1 (fun _ _ => trivial) (fun _ _ => trivial) (fun g m => nomatch m) it_rng e.2⟩
  · exact e.elim
/-- a text, sign by sign -/
def chD (z : Str) : List Dt := z.cps.toList.map fun c => .str ⟨#[c]⟩
def ivStr (ea : EvE) : EvA := fun δ Q => ea δ fun d => match d with
  | .str z => Q (chD z)
  | _ => False
theorem di_str (ha : DE false K X a ea) : DI o K X tg a (ivStr ea) := by
  obtain ⟨t, p, v⟩ := ha
  refine ⟨_, fun i => pi_str (p i), fun C σ δ H R Qd k s e q => ?_⟩
  refine v C σ δ H _ _ k s e fun x d H1 e1 r e => ?_
  split at e
  · rename_i z
    refine ⟨z, r.str_inv, q _ _ _ _ (chD z) H1 (fun _ => True) [] walk_str (by simp [chD]) e1 (fun _ _ => trivial) (fun _ _ => trivial) (fun g m => nomatch m) ⟨fun _ _ _ _ _ => trivial, fun i d av H x H' hd _ _ _ y => ?_⟩ e⟩
    have e2 : H' = H ∧ ∃ c, z.cps[i]? = some c ∧ x = .str ⟨#[c]⟩ := y
    obtain ⟨rfl, c, hc, rfl⟩ := e2
    unfold chD at hd
    rw [List.getElem?_map] at hd
    obtain ⟨j, h1, h2⟩ := Option.map_eq_some_iff.mp hd
    have : j = c := by
      rw [Array.getElem?_toList, hc] at h1
      exact (Option.some.inj h1).symm
    subst this
    subst h2
    exact ⟨Same.refl _, .str _⟩
  · exact e.elim
/-! ### pairs: zip of two lists or two tuples, enumerate of a list -/
theorem pair_get {xs ys : List Dt} {i : Nat} {d : Dt} (h : ((xs.zip ys).map fun p => Dt.tup [p.1, p.2])[i]? = some d) : ∃ x y, xs[i]? = some x ∧ ys[i]? = some y ∧ d = .tup [x, y] := by
  rw [List.getElem?_map] at h
  obtain ⟨p, h1, h2⟩ := Option.map_eq_some_iff.mp h
  rw [List.getElem?_zip_eq_some] at h1
  exact ⟨p.1, p.2, h1.1, h1.2, h2.symm⟩
def zipD (xs ys : List Dt) : List Dt := (xs.zip ys).map fun p => .tup [p.1, p.2]
end
end Dl
set_option maxHeartbeats 1000000
namespace Dl
open PySem PySem.Spec PyProof.Rows L2 Lcn Sq
/-! ### new lists -/
abbrev EvN := EvA
def VN (K : PySem.W.Frag) (te : TE) (nv : EvN) : Prop := ∀ (C : Ctx) (σ : L2.St) (δ : List Sl) (H : Hp) (Q : VK) (Qd : List Dt → Prop), C.K = K → Sok C H σ δ → nv δ Qd →
  (∀ (p : Addr) (xs : List V) (ds : List Dt) (H' : Hp), H p = none → Stp C.S H H' → H' p = some (.lst xs) → RepL K (fun b => Zd C δ b ∨ b = p) H' xs ds → Qd ds → Q (.ref p) H') → te σ H Q
def DN {ι : Type} (K : PySem.W.Frag) (X : ι → Cx) (e : Expr) (nv : EvN) : Prop := ∃ te, (∀ i, PE (X i) e te) ∧ VN K te nv
def wipeS (δ : List Sl) : List Nat → List Sl
  | [] => δ
  | v :: vs => (wipeS δ vs).set v .any
section
variable {C : Ctx} {H H' : Hp} {σ : L2.St} {δ : List Sl}
theorem Sok.unset (s : Sok C H σ δ) (i : Nat) : Sok C H (σ.set i none) (δ.set i .any) := by
  have t := s.drop i
  refine ⟨by simp [s.len], fun j u h => ?_, t.uq, t.g, t.st, t.avs, t.ava, t.gh⟩
  by_cases hj : i = j
  · subst hj
    rw [List.getElem?_set] at h
    simp at h
    rw [← h.2]
    trivial
  · rw [List.getElem?_set_ne hj]
    exact t.sl j u h
theorem Sok.wipe (s : Sok C H σ δ) : ∀ vs : List Nat, Sok C H (L2.wipe σ vs) (wipeS δ vs)
  | [] => s
  | v :: vs => (s.wipe vs).unset v
theorem wipe_idem (σ : L2.St) (vs : List Nat) : ∀ ws : List Nat, (∀ w, w ∈ ws → w ∈ vs) → L2.wipe (L2.wipe σ ws) vs = L2.wipe σ vs
  | [], _ => rfl
  | w :: ws, h => by
    show L2.wipe ((L2.wipe σ ws).set w none) vs = _
    rw [wipe_set (h w (by simp)), wipe_idem σ vs ws fun x m => h x (List.mem_cons_of_mem _ m)]
theorem ow_wipe (δ : List Sl) : ∀ vs : List Nat, Ow vs δ (wipeS δ vs)
  | [] => Ow.refl δ
  | v :: vs => ⟨fun j a ds n h => (Ow.set (i := v) (u := .any) fun _ z => z).keep j a ds (fun z => n (by simp at z; simp [z])) ((ow_wipe δ vs).keep j a ds (fun z => n (List.mem_cons_of_mem _ z)) h), fun j a ds h => (ow_wipe δ vs).old j a ds ((Ow.set (i := v) (u := .any) fun _ z => z).old j a ds h)⟩
theorem zd_ow {is : List Nat} {δ δ' : List Sl} (o : Ow is δ δ') {b : Addr} (h : Zd C δ' b) : Zd C δ b := by
  rcases h with h | ⟨s, m, e⟩
  · exact .inl h
  · cases s with
    | own a ds =>
      obtain ⟨j, hj⟩ := List.mem_iff_getElem?.mp m
      exact .inr ⟨_, List.mem_iff_getElem?.mpr ⟨j, o.old j a ds hj⟩, e⟩
    | _ => exact e.elim
theorem Sok.h0 (s : Sok C H σ δ) {D : Addr} (n : H D = none) : C.H0 D = none := by
  cases q : C.H0 D with
  | none => rfl
  | some o =>
    by_cases c : ch C.S D
    · exact absurd (s.avs D (ch_sa c)) (s.ava.na n)
    · rw [s.st.keep D o c q] at n
      cases n
end
/-- the items one by one -/
def dLc (gv : Dt → List Sl → (List Sl → Prop) → Prop) (tv : EvT) (ev : EvE) (vs : List Nat) : List Dt → List Dt → List Sl → (List Dt → Prop) → Prop
  | [], acc, _, Q => Q acc
  | d :: r, acc, δ, Q => gv d (wipeS δ vs) fun δ2 => tv δ2 fun b => if b = true then ev δ2 fun y => dLc gv tv ev vs r (acc ++ [y]) δ Q else dLc gv tv ev vs r acc δ Q
def dLcN (iv : EvA) (gv : Dt → List Sl → (List Sl → Prop) → Prop) (tv : EvT) (ev : EvE) (vs : List Nat) : EvN := fun δ Q => iv δ fun ds => noOwn vs δ = true ∧ ds.length < sizeLine ∧ dLc gv tv ev vs ds [] δ Q
def DTs {ι : Type} (K : PySem.W.Frag) (X : ι → Cx) (es : List Expr) (ev : EvT) : Prop := ∃ te, (∀ i, PTs (X i) es te) ∧ VT K te ev
section
variable {ι : Type} {K : PySem.W.Frag} {X : ι → Cx} {z o : Bool} {pos p2 : Pos} {a b c e tg iter : Expr} {es : List Expr} {ea eb ec : EvE} {et : EvA} {iv : EvA} {gv : Dt → List Sl → (List Sl → Prop) → Prop} {tv : EvT} {ev : EvE}
def dYes : EvT := fun _ Q => Q true
theorem dts_nil : DTs K X [] dYes := ⟨_, fun _ => pts_nil, fun C σ δ H Q Qd k s e q => q true H (Stp.refl H) e⟩
theorem dts_one (h : DT K X c tv) : DTs K X [c] tv := by
  obtain ⟨t, p, v⟩ := h
  exact ⟨t, fun i => pts_one (p i), v⟩
theorem vn_lc {wi : TI} {g : TG} {tt : TT} {te : TE} {is vs : List Nat} (hi : VI o K wi iv) (hg : VG K g gv is) (hv : ∀ i, i ∈ is → i ∈ vs) (ht : VT K tt tv) (he : VE true K te ev) : VN K (tLc wi g tt te vs) (dLcN iv gv tv ev vs) := by
  intro C σ δ H Q Qd k s e q
  subst k
  refine hi C σ δ H _ _ rfl s e fun J n G Y ds H1 base gs w hn e1 hb0 hb hgs it e => ?_
  obtain ⟨no, hz, e⟩ := e
  intro D hD
  have s1 := s.step e1
  have nch : ¬ ch C.S D := fun c => (s1.ava.na hD) (s1.avs D (ch_sa c))
  have hD0 : H D = none := by
    cases x : H D with
    | none => rfl
    | some u =>
      rw [e1.keep D u nch x] at hD
      cases hD
  have sP : Sok (C.plus D) (upd H1 D (.lst [])) σ δ := s1.plus hD
  refine lc_it w (fun i Hc => (∀ b u, ¬ ch C.S b → H1 b = some u → Hc b = some u) ∧ Gs C.S Hc ∧ ∃ acc accd, Hc D = some (.lst acc) ∧ RepL C.K (fun b => Zd C δ b ∨ b = D) Hc acc accd ∧ acc.length ≤ i ∧ dLc gv tv ev vs (ds.drop i) accd δ Qd) ?_ ?_ ?_ ?_
  · exact ⟨fun b u _ h => same_new hD b u h, s1.g.dep fun b u _ h => same_new hD b u h, [], [], upd_same, .nil, Nat.le_refl _, by rw [List.drop_zero]; exact e⟩
  · rintro i Hc _ ⟨kp, gs', acc, accd, hDl, ra, hl, e⟩
    have al : Al (Zd C δ) Hc := fun b zb => by
      by_cases c : ch C.S b
      · exact gs'.dom (ch_sa c)
      · obtain ⟨u, hu⟩ := s1.alz b zb
        exact ⟨u, kp b u c hu⟩
    exact it.g (Zd C δ) Hc al (hb Hc kp) fun g m => (hgs g m).move (fun b u n h => kp b u (fun c => n (zch s1 c)) h) fun _ z => .inl z
  · rintro i x Hc H' hi2 ⟨kp, gs', acc, accd, hDl, ra, hl, e⟩ y
    have hid : i < ds.length := by omega
    have hdr : ds.drop i = ds[i] :: ds.drop (i + 1) := List.drop_eq_getElem_cons hid
    rw [hdr] at e
    have sC : Sok (C.plus D) Hc σ δ := sP.plusStep (fun b u c n h => kp b u c (by rw [upd_ne n] at h; exact h)) gs' (s.h0 hD0) ⟨_, hDl⟩
    have al : Al (fun b => Zd C δ b ∨ b = D) Hc := fun b zb => sC.alz b (zd_plus.mpr zb)
    obtain ⟨sm, rx⟩ := it.y i ds[i] (fun b => Zd C δ b ∨ b = D) Hc x H' (List.getElem?_eq_getElem hid) al (hb Hc kp) (fun g m => (hgs g m).move (fun b u n h => kp b u (fun c => n (zch s1 c)) h) fun b zb => zb.imp id fun (zb : b = D) => by rw [zb]; exact hD) y
    have sB : Sok (C.plus D) H' (L2.wipe σ vs) (wipeS δ vs) := (sC.step (Stp.of sm)).wipe vs
    have oz : ∀ b, Zd (C.plus D) (wipeS δ vs) b → Zd C δ b ∨ b = D := fun b zb => zd_plus.mp (zd_ow (ow_wipe δ vs) zb)
    refine hg (C.plus D) _ _ H' x ds[i] _ _ rfl sB (rx.mono oz) e fun σ2 δ2 s2 w2 z2 o2 e => ⟨?_, ?_⟩
    · rw [w2 vs hv, wipe_idem σ vs vs fun _ m => m]
    · refine ht (C.plus D) σ2 δ2 H' _ _ rfl s2 e fun b H3 e3 e => ?_
      cases b
      · rw [if_neg Bool.false_ne_true] at e ⊢
        have k3 : ∀ b u, ¬ ch C.S b → Hc b = some u → H3 b = some u := fun b u c h => e3.keep b u c (sm b u h)
        exact ⟨fun b u c h => k3 b u c (kp b u c h), (s2.step e3).g, acc, accd, k3 D _ nch hDl, ra.move (fun b u n h => k3 b u (fun c => n (.inl (zch s1 c))) h) fun _ z => .inl z, Nat.le_succ_of_le hl, e⟩
      · rw [if_pos rfl] at e ⊢
        refine he (C.plus D) σ2 δ2 H3 _ _ rfl (s2.step e3) e fun yv yd H4 e4 ry e => ?_
        have k4 : ∀ b u, ¬ ch C.S b → Hc b = some u → H4 b = some u := fun b u c h => e4.keep b u c (e3.keep b u c (sm b u h))
        have d4 := k4 D _ nch hDl
        have ge : ∀ b, Zd C δ b ∨ b = D → Zd (C.plus D) δ2 b := fun b zb => by
          have z1 : Zd (C.plus D) (wipeS δ vs) b := (ow_wipe δ vs).ge no (zd_plus.mpr zb)
          refine o2.ge ?_ z1
          refine List.all_eq_true.mpr fun j mj => ?_
          cases hq : (wipeS δ vs)[j]? with
          | none => rfl
          | some u =>
            cases u with
            | own a es =>
              have h1 := (ow_wipe δ vs).old j a es hq
              have h2 := List.all_eq_true.mp no j (hv j mj)
              rw [h1] at h2
              cases h2
            | _ => rfl
        refine ⟨acc, d4, by omega, fun b u c h => ?_, ?_, acc ++ [yv], accd ++ [yd], upd_same, ?_, by rw [List.length_append]; exact Nat.succ_le_succ hl, e⟩
        · rw [upd_ne (fun (zz : b = D) => by rw [zz, hD] at h; cases h)]
          exact k4 b u c (kp b u c h)
        · have g4 := ((s2.step e3).step e4).g
          refine g4.dep fun b u c h => ?_
          rw [upd_ne (fun (zz : b = D) => (s1.ava.na hD) (s1.avs D (by rw [← zz]; exact c)))]
          exact h
        · have r1 : RepL C.K (fun b => Zd C δ b ∨ b = D) H4 (acc ++ [yv]) (accd ++ [yd]) := (ra.move (fun b u n h => k4 b u (fun c => n (.inl (zch s1 c))) h) fun _ z => .inl z).append (.cons (ry.mono ge) .nil)
          exact r1.move (fun b u n h => by rw [upd_ne (fun (zz : b = D) => n (.inr zz))]; exact h) fun _ z => .inl z
  · rintro Hc ⟨kp, gs', acc, accd, hDl, ra, hl, e⟩
    rw [List.drop_eq_nil_of_le (by omega)] at e
    exact q D acc accd Hc hD0 ⟨fun b u c h => kp b u c (e1.keep b u c h), fun _ => gs'⟩ hDl ra e
/-- the family of a comprehension's blocks -/
abbrev Bk (ι : Type) := ι × Shared × Hp × Addr × List (Str × Addr) × List Addr
def bk {ι : Type} (X : ι → Cx) (scope : Scope) : Bk ι → Cx := fun j => (X j.1).blk j.2.1 j.2.2.1 scope (compEnvC scope j.2.2.2.2.1 j.2.2.2.1 (X j.1).env) j.2.2.2.2.2
theorem dn_lc {elt : Expr} {ifs : List Expr} {scope : Scope} {own : List (Str × Nat)} {is : List Nat} (hc : ∀ i, (X i).calm = true) (hN : ∀ i, (X i).N.Nodup) (hi : DI o K X tg iter iv) (ok : ∀ i, BlkOk (X i).N (X i).env.scope scope own)
    (hg : DG K (bk X scope) tg gv is) (ht : DTs K (bk X scope) ifs tv) (he : DE true K (bk X scope) elt ev) (hv : ∀ i, i ∈ is → i ∈ own.map (·.2)) (hs : ∀ i, ∀ x, foldedSetIterable iter (X i).env x = pure x := by intro _ _; rfl) :
    DN K X (.ListComp elt [⟨tg, iter, ifs, 0⟩] scope pos) (dLcN iv gv tv ev (own.map (·.2))) := by
  obtain ⟨wi, pi, vi⟩ := hi
  obtain ⟨g, pg, vg⟩ := hg
  obtain ⟨tt, pt, vt⟩ := ht
  obtain ⟨te, pe, ve⟩ := he
  exact ⟨_, fun i => pe_lc (hc i) (hN i) (pi i) (ok i) (fun s H C cl fp => pg (i, s, H, C, cl, fp)) (fun s H C cl fp => pt (i, s, H, C, cl, fp)) (fun s H C cl fp => pe (i, s, H, C, cl, fp)) (hs i), vn_lc vi vg hv vt ve⟩
theorem ve_n {te : TE} {nv : EvN} (v : VN K te nv) : VE z K te (fun δ Q => nv δ fun ds => Q (.lst ds)) := fun C σ δ H Q Qd k s e q => by
  subst k
  refine v C σ δ H _ _ rfl s e fun p xs ds H' n e1 hp r e => q _ _ H' e1 ?_ e
  have n1 : ¬ Zz z C δ p := s.al.na n
  have m : ∀ b, Zz z C δ b → Zd C δ b ∨ b = p := fun b h => .inl (by cases z; exact .inl h; exact h)
  have r2 := r.mono m
  exact .lst ⟨n1, hp⟩ r2.l r2.f
theorem de_n {nv : EvN} (h : DN K X e nv) : DE z K X e (fun δ Q => nv δ fun ds => Q (.lst ds)) := by
  obtain ⟨te, p, v⟩ := h
  exact ⟨te, p, ve_n v⟩
/-- [a, b, ..] as a new list -/
theorem dn_lst (h : DA true K X es et) : DN K X (.List es pos) (fun δ Q => et δ fun ds => ds.length ≤ sizeLine ∧ Q ds) := by
  obtain ⟨t, p, v⟩ := h
  refine ⟨_, fun i => pe_lst (p i), fun C σ δ H Q Qd k s e q => ?_⟩
  subst k
  refine v C σ δ H _ _ rfl s e fun xs ds H1 e1 r1 e => ⟨by rw [r1.l]; exact e.1, fun p hp => ?_⟩
  have n0 : H p = none := by
    cases x : H p with
    | none => rfl
    | some u =>
      by_cases c : ch C.S p
      · exact absurd (s.avs p (ch_sa c)) ((s.step e1).ava.na hp)
      · rw [e1.keep p u c x] at hp
        cases hp
  refine q p xs ds _ n0 (e1.trans (Stp.new hp)) upd_same (r1.move (fun b u _ h => same_new hp b u h) fun b zb => zb.imp id fun (zb : b = p) => by rw [zb]; exact hp) e.2
end
end Dl
set_option maxHeartbeats 1000000
namespace Dl
open PySem PySem.Spec PyProof.Rows L2 Lcn Sq
/-! ### statements -/
structure DEnds where
  nx : List Sl → Prop
  rt : Dt → Prop
  bk : List Sl → Prop := fun _ => False
  ct : List Sl → Prop := fun _ => False
structure EndsR (C : Ctx) (D : Ends) (Dd : DEnds) : Prop where
  nx : ∀ σ δ H, Sok C H σ δ → Dd.nx δ → D.nx σ H
  rt : ∀ v d H, Stp C.S C.H0 H → Rep C.K C.av H v d → (∀ g, g ∈ C.gh → Rep C.K C.av H g.1 g.2) → Dd.rt d → D.rt v H
  bk : ∀ σ δ H, Sok C H σ δ → Dd.bk δ → D.bk σ H
  ct : ∀ σ δ H, Sok C H σ δ → Dd.ct δ → D.ct σ H
abbrev EvS := DEnds → List Sl → Prop
def VS (K : PySem.W.Frag) (ts : TS) (sv : EvS) : Prop := ∀ (C : Ctx) (σ : L2.St) (δ : List Sl) (H : Hp) (D : Ends) (Dd : DEnds), C.K = K → Sok C H σ δ → sv Dd δ → EndsR C D Dd → ts D σ H
def DS {ι : Type} (K : PySem.W.Frag) (X : ι → Cx) (st : Stmt) (sv : EvS) : Prop := ∃ ts, (∀ i, PS (X i) st ts) ∧ VS K ts sv
def DSs {ι : Type} (K : PySem.W.Frag) (X : ι → Cx) (st : List Stmt) (sv : EvS) : Prop := ∃ ts, (∀ i, PSs (X i) st ts) ∧ VS K ts sv
section
variable {ι : Type} {K : PySem.W.Frag} {X : ι → Cx} {z o : Bool} {pos p2 pos' : Pos} {a b c e tg iter : Expr} {es : List Expr} {ea eb ec : EvE} {et : EvA} {iv : EvA} {gv : Dt → List Sl → (List Sl → Prop) → Prop} {tv : EvT} {ev : EvE} {nv : EvN} {st : Stmt} {rest body els : List Stmt} {sv sw : EvS}
def dSeq (sv sw : EvS) : EvS := fun D δ => sv { D with nx := sw D } δ
theorem dss_nil : DSs K X [] (fun D δ => D.nx δ) := ⟨_, fun _ => pss_nil, fun C σ δ H D Dd k s e q => q.nx σ δ H s e⟩
theorem dss_cons (h1 : DS K X st sv) (h2 : DSs K X rest sw) : DSs K X (st :: rest) (dSeq sv sw) := by
  obtain ⟨t, p, v⟩ := h1
  obtain ⟨t2, p2, v2⟩ := h2
  refine ⟨_, fun i => pss_cons (p i) (p2 i), fun C σ δ H D Dd k s e q => ?_⟩
  exact v C σ δ H _ _ k s e ⟨fun σ δ H s e => v2 C σ δ H D Dd k s e q, q.rt, q.bk, q.ct⟩
theorem dss_one (h1 : DS K X st sv) : DSs K X [st] sv := by
  obtain ⟨t, p, v⟩ := h1
  exact ⟨_, fun i => pss_one (p i), v⟩
/-- an own list is a thing like others from here on -/
def frz (i : Nat) (δ : List Sl) : List Sl := match δ[i]? with
  | some (.own _ (.l ds)) => δ.set i (.val (.lst ds))
  | _ => δ
theorem Sok.frz {C : Ctx} {H : Hp} {σ : L2.St} {δ : List Sl} (s : Sok C H σ δ) (i : Nat) : Sok C H σ (frz i δ) := by
  unfold Dl.frz
  split
  · rename_i h
    exact s.freeze h
  · exact s
theorem dss_frz (i : Nat) (h : DSs K X body sv) : DSs K X body (fun D δ => sv D (frz i δ)) := by
  obtain ⟨t, p, v⟩ := h
  exact ⟨t, p, fun C σ δ H D Dd k s e q => v C σ _ H D Dd k (s.frz i) e q⟩
theorem vs_asgV {te : TE} {i : Nat} (v : VE true K te ev) : VS K (tAsg te (gName i)) (fun D δ => ev δ fun d => D.nx (δ.set i (.val d))) := by
  intro C σ δ H D Dd k s e q
  subst k
  exact v C σ δ H _ _ rfl s e fun x d H1 e1 r e => q.nx _ _ H1 ((s.step e1).setV r) e
theorem vs_asgN {te : TE} {i : Nat} (v : VN K te nv) : VS K (tAsg te (gName i)) (fun D δ => nv δ fun ds => ∀ a, D.nx (δ.set i (.own a (.l ds)))) := by
  intro C σ δ H D Dd k s e q
  subst k
  exact v C σ δ H _ _ rfl s e fun p xs ds H1 n e1 hp r e => q.nx _ _ H1 (s.setO (xs := .lst xs) (ds := .l ds) n e1 hp r) (e p)
theorem ds_set {i : Nat} {x : Str} (hp : ∀ {te : TE} j, PE (X j) e te → PS (X j) (.Assign [.Name x pos'] e pos) (tAsg te (gName i))) (h : DE true K X e ev) : DS K X (.Assign [.Name x pos'] e pos) (fun D δ => ev δ fun d => D.nx (δ.set i (.val d))) := by
  obtain ⟨t, p, v⟩ := h
  exact ⟨_, fun j => hp j (p j), vs_asgV v⟩
theorem ds_own {i : Nat} {x : Str} (hp : ∀ {te : TE} j, PE (X j) e te → PS (X j) (.Assign [.Name x pos'] e pos) (tAsg te (gName i))) (h : DN K X e nv) : DS K X (.Assign [.Name x pos'] e pos) (fun D δ => nv δ fun ds => ∀ a, D.nx (δ.set i (.own a (.l ds)))) := by
  obtain ⟨t, p, v⟩ := h
  exact ⟨_, fun j => hp j (p j), vs_asgN v⟩
/-- name = [..] on one line -/
theorem ds_lcN {i : Nat} {y : Str} {py spos : Pos} {elt : Expr} {ifs : List Expr} {scope : Scope} {own : List (Str × Nat)} {is : List Nat} (hc : ∀ i, (X i).calm = true) (hN : ∀ i, (X i).N.Nodup) (hy : ∀ j, (X j).N[i]? = some y) (hyl : ∀ j, (X j).env.scope.names.lookup y = some .local)
    (hsw : ∀ j, swapsWith (.ListComp elt [⟨tg, iter, ifs, 0⟩] scope pos) (some (.Name y py)) spos.line (X j).env = pure true) (hi : DI o K X tg iter iv) (ok : ∀ i, BlkOk (X i).N (X i).env.scope scope own)
    (hg : DG K (bk X scope) tg gv is) (ht : DTs K (bk X scope) es tv) (he : DE true K (bk X scope) elt ev) (hv : ∀ i, i ∈ is → i ∈ own.map (·.2)) (hes : es = ifs) (hs : ∀ i, ∀ x, foldedSetIterable iter (X i).env x = pure x := by intro _ _; rfl) :
    ∃ te, (∀ j, PS (X j) (.Assign [.Name y py] (.ListComp elt [⟨tg, iter, ifs, 0⟩] scope pos) spos) (tAsg te (gName i))) ∧ VN K te (dLcN iv gv tv ev (own.map (·.2))) := by
  subst hes
  obtain ⟨wi, pi, vi⟩ := hi
  obtain ⟨g, pg, vg⟩ := hg
  obtain ⟨tt, pt, vt⟩ := ht
  obtain ⟨te, pe, ve⟩ := he
  exact ⟨_, fun i => ps_setLc (hc i) (hN i) (hy i) (hyl i) (hsw i) (pi i) (ok i) (fun s H C cl fp => pg (i, s, H, C, cl, fp)) (fun s H C cl fp => pt (i, s, H, C, cl, fp)) (fun s H C cl fp => pe (i, s, H, C, cl, fp)) (hs i), vn_lc vi vg hv vt ve⟩
theorem ds_ofN {i : Nat} (h : ∃ te, (∀ j, PS (X j) st (tAsg te (gName i))) ∧ VN K te nv) : DS K X st (fun D δ => nv δ fun ds => ∀ a, D.nx (δ.set i (.own a (.l ds)))) := by
  obtain ⟨t, p, v⟩ := h
  exact ⟨_, p, vs_asgN v⟩
theorem ds_ofV {i : Nat} (h : ∃ te, (∀ j, PS (X j) st (tAsg te (gName i))) ∧ VN K te nv) : DS K X st (fun D δ => nv δ fun ds => D.nx (δ.set i (.val (.lst ds)))) := by
  obtain ⟨t, p, v⟩ := h
  exact ⟨_, p, vs_asgV (ve_n v)⟩
theorem ds_asg {is : List Nat} (hp : ∀ {te : TE} {g : TG} j, PE (X j) e te → PG (X j) tg g → PS (X j) (.Assign [tg] e pos) (tAsg te g)) (h : DE true K X e ev) (hg : DG K X tg gv is) : DS K X (.Assign [tg] e pos) (fun D δ => ev δ fun d => gv d δ D.nx) := by
  obtain ⟨t, p, v⟩ := h
  obtain ⟨g, pg, vg⟩ := hg
  refine ⟨_, fun j => hp j (p j) (pg j), fun C σ δ H D Dd k s e q => ?_⟩
  subst k
  exact v C σ δ H _ _ rfl s e fun x d H1 e1 r e => vg C σ δ H1 x d _ _ rfl (s.step e1) r e fun σ' δ' s' _ _ _ e => q.nx _ _ _ s' e
theorem ds_par {i j : Nat} {x y : Str} {px py pt : Pos} {kt : Nat} {k2 : Nat} {pt2 : Pos} (hp : ∀ {ta : TA} l, PA (X l) [a, b] ta → PS (X l) (.Assign [.Tuple [.Name x px, .Name y py] kt pt] (.Tuple [a, b] k2 pt2) pos) (tPar i j ta)) (h : DA true K X [a, b] et) : DS K X (.Assign [.Tuple [.Name x px, .Name y py] kt pt] (.Tuple [a, b] k2 pt2) pos) (fun D δ => et δ fun ds => match ds with
    | [d, d'] => D.nx ((δ.set i (.val d)).set j (.val d'))
    | _ => False) := by
  obtain ⟨t, p, v⟩ := h
  refine ⟨_, fun l => hp l (p l), fun C σ δ H D Dd k s e q => ?_⟩
  subst k
  refine v C σ δ H _ _ rfl s e fun vs ds H1 e1 r e => ?_
  split at e
  · obtain ⟨u, w, rfl, r1, r2⟩ := repl2 r
    have s1 := (s.step e1).setV (i := i) r1
    exact ⟨u, w, rfl, q.nx _ _ H1 (s1.setV (r2.mono fun b zb => (zd_set zb).resolve_right fun z => z)) e⟩
  · exact e.elim
def dAug (i : Nat) (f : Int → Int → Int) (ea : EvE) : EvS := fun D δ => match δ[i]? with
  | some (.val (.int m)) => ea δ fun d => match d with
    | .int n => D.nx (δ.set i (.val (.int (f m n))))
    | _ => False
  | _ => False
theorem ds_aug {i : Nat} {x : Str} {op : Operator} {f : Int → Int → Int} (hp : ∀ {te : TE} j, PE (X j) e te → PS (X j) (.AugAssign (.Name x pos') op e pos) (tAug i te (ipI f))) (h : DE true K X e ev) : DS K X (.AugAssign (.Name x pos') op e pos) (dAug i f ev) := by
  obtain ⟨t, p, v⟩ := h
  refine ⟨_, fun j => hp j (p j), fun C σ δ H D Dd k s e q => ?_⟩
  subst k
  unfold dAug at e
  split at e
  · rename_i m h
    obtain ⟨w, h1, h2⟩ := s.sl i _ h
    refine ⟨w, h1, v C σ δ H _ _ rfl s e fun y d H1 e1 r e => ?_⟩
    split at e
    · exact ⟨m, _, h2.int_inv, r.int_inv, q.nx _ _ H1 ((s.step e1).setV (.int _)) e⟩
    · exact e.elim
  · exact e.elim
/-- own.append(e) -/
def dApp (i : Nat) (ea : EvE) : EvS := fun D δ => match δ[i]? with
  | some (.own a (.l ds)) => ea δ fun d => ds.length < sizeLine ∧ D.nx (δ.set i (.own a (.l (ds ++ [d]))))
  | _ => False
theorem ds_app {i : Nat} {x : Str} {px apos cpos : Pos} (hp : ∀ {te : TE} j, PE (X j) e te → PS (X j) (.Expr (.Call (.Attribute (.Name x px) "append" apos) [e] [] cpos) pos) (tDrop (tBM (X j).K "list" rAppend (tVar i) (tCons te tNil)))) (h : DE true K X e ev) (hK : ∀ i, (X i).K = K := by intro _; rfl) : DS K X (.Expr (.Call (.Attribute (.Name x px) "append" apos) [e] [] cpos) pos) (dApp i ev) := by
  obtain ⟨t, p, v⟩ := h
  refine ⟨tDrop (tBM K "list" rAppend (tVar i) (tCons t tNil)), fun j => hK j ▸ hp j (p j), fun C σ δ H D Dd k s e q => ?_⟩
  subst k
  unfold dApp at e
  split at e
  · rename_i a ds h
    obtain ⟨h1, _, h3, xs, h5, h6⟩ := s.lstAt h
    refine ⟨.ref a, h1, .inl ⟨rfl, xs, SqL.of h5⟩, v C σ δ H _ _ rfl s e fun y d H1 e1 r e => ?_⟩
    have s1 := s.step e1
    obtain ⟨_, _, _, ys, h7, h8⟩ := s1.lstAt h
    exact ⟨a, ys, y, rfl, rfl, h7, by rw [h8.l]; exact e.1, q.nx _ _ _ (s1.upO (ys := .lst (ys ++ [y])) (es := .l (ds ++ [d])) h (h8.append (.cons r .nil))) e.2⟩
  · exact e.elim
/-- own[e] = e2 -/
def dPut (i : Nat) (eb ea : EvE) : EvS := fun D δ => ea δ fun d => match δ[i]? with
  | some (.own a (.l ds)) => eb δ fun y => match y with
    | .int k => ∃ j, ixN ds.length k = some j ∧ D.nx (δ.set i (.own a (.l (ds.set j d))))
    | _ => False
  | _ => False
theorem ds_put {i : Nat} {x : Str} {px tpos : Pos} (hp : ∀ {te tb : TE} j, PE (X j) e te → PE (X j) b tb → PS (X j) (.Assign [.Subscript (.Name x px) b tpos] e pos) (tAsg te (gSub (tVar i) tb rSetL))) (h : DE true K X e ea) (hb : DE true K X b eb) : DS K X (.Assign [.Subscript (.Name x px) b tpos] e pos) (dPut i eb ea) := by
  obtain ⟨t, p, v⟩ := h
  obtain ⟨t2, p2, v2⟩ := hb
  refine ⟨_, fun j => hp j (p j) (p2 j), fun C σ δ H D Dd k s e q => ?_⟩
  subst k
  refine v C σ δ H _ _ rfl s e fun y d H1 e1 r e => ?_
  split at e
  · rename_i a ds h
    have s1 := s.step e1
    obtain ⟨h1, _, _, xs, h5, h6⟩ := s1.lstAt h
    refine ⟨.ref a, h1, v2 C σ δ H1 _ _ rfl s1 e fun w d2 H2 e2 r2 e => ?_⟩
    split at e
    · rename_i kk
      obtain ⟨j, hj, e⟩ := e
      have s2 := s1.step e2
      obtain ⟨_, _, _, ys, h7, h8⟩ := s2.lstAt h
      exact ⟨a, ys, kk, j, rfl, r2.int_inv, h7, by rw [h8.l]; exact hj, q.nx _ _ _ (s2.upO (ys := .lst (ys.set j y)) (es := .l (ds.set j d)) h (h8.set (rep_step s1 e2 r) j)) e⟩
    · exact e.elim
  · exact e.elim
def dIf (tv : EvT) (sv sw : EvS) : EvS := fun D δ => tv δ fun b => if b = true then sv D δ else sw D δ
theorem ds_if (hc : DT K X c tv) (h1 : DSs K X body sv) (h2 : DSs K X els sw) : DS K X (.If c body els pos) (dIf tv sv sw) := by
  obtain ⟨t, p, v⟩ := hc
  obtain ⟨t1, p1, v1⟩ := h1
  obtain ⟨t2, p2, v2⟩ := h2
  refine ⟨_, fun i => ps_if (p i) (p1 i) (p2 i), fun C σ δ H D Dd k s e q => ?_⟩
  refine v C σ δ H _ _ k s e fun b H1 e1 e => ?_
  cases b
  · exact v2 C σ δ H1 D Dd k (s.step e1) e q
  · exact v1 C σ δ H1 D Dd k (s.step e1) e q
theorem ds_ret (h : DE false K X e ev) : DS K X (.Return (some e) pos) (fun D δ => ev δ D.rt) := by
  obtain ⟨t, p, v⟩ := h
  refine ⟨_, fun i => ps_ret (p i), fun C σ δ H D Dd k s e q => ?_⟩
  subst k
  exact v C σ δ H _ _ rfl s e fun x d H1 e1 r e => q.rt x d H1 (s.st.trans e1) r (fun g m => ((s.step e1).gh g m).mono fun b z => .inl z) e
theorem ds_retN : DS K X (.Return none pos) (fun D δ => D.rt .non) := ⟨_, fun i => ps_retN, fun C σ δ H D Dd k s e q => q.rt .non .non H s.st .non (fun g m => (s.gh g m).mono fun b z => .inl z) e⟩
theorem ds_expr (h : DE false K X e ev) (hs : ∀ i, swapsWith e none pos.line (X i).env = pure false := by intro _; rfl) : DS K X (.Expr e pos) (fun D δ => ev δ fun _ => D.nx δ) := by
  obtain ⟨t, p, v⟩ := h
  refine ⟨_, fun i => ps_expr (p i) (hs i), fun C σ δ H D Dd k s e q => ?_⟩
  exact v C σ δ H _ _ k s e fun x d H1 e1 r e => q.nx _ _ H1 (s.step e1) e
theorem ds_pass : DS K X (.Pass pos) (fun D δ => D.nx δ) := ⟨_, fun i => ps_pass, fun C σ δ H D Dd k s e q => q.nx _ _ H s e⟩
theorem ds_break : DS K X (.Break pos) (fun D δ => D.bk δ) := ⟨_, fun i => ps_break, fun C σ δ H D Dd k s e q => q.bk _ _ H s e⟩
theorem ds_continue : DS K X (.Continue pos) (fun D δ => D.ct δ) := ⟨_, fun i => ps_continue, fun C σ δ H D Dd k s e q => q.ct _ _ H s e⟩
theorem ds_never : DS K X st (fun _ _ => False) := ⟨_, fun i => ps_never, fun C σ δ H D Dd k s e q => e.elim⟩
/-! ### loops -/
def dForL (gv : Dt → List Sl → (List Sl → Prop) → Prop) (bv : EvS) (D : DEnds) : List Dt → List Sl → Prop
  | [], δ => D.nx δ
  | d :: r, δ => gv d δ fun δ2 => bv { nx := dForL gv bv D r, rt := D.rt, bk := D.nx, ct := dForL gv bv D r } δ2
def dFor (iv : EvA) (gv : Dt → List Sl → (List Sl → Prop) → Prop) (bv : EvS) : EvS := fun D δ => iv δ fun ds => dForL gv bv D ds δ
theorem ds_for {is : List Nat} (hc : ∀ i, (X i).calm = true) (hi : DI false K X tg iter iv) (hg : DG K X tg gv is) (hb : DSs K X body sv) (hpo : ∀ i, PassesOwn (model (X i).prog (X i).w) (X i).A (X i).env (X i).xe) (hs : ∀ i, ∀ x, foldedSetIterable iter (X i).env x = pure x := by intro _ _; rfl) : DS K X (.For tg iter body [] pos) (dFor iv gv sv) := by
  obtain ⟨wi, pi, vi⟩ := hi
  obtain ⟨g, pg, vg⟩ := hg
  obtain ⟨tb, pb, vb⟩ := hb
  refine ⟨_, fun i => ps_for (hpo i) (hc i) (pi i) (pg i) (pb i) (hs i), fun C σ δ H D Dd k s e q => ?_⟩
  subst k
  refine vi C σ δ H _ _ rfl s e fun J n G Y ds H1 base gs w hn e1 hb0 hbk hgs it e => ?_
  have hb1 := hb0 rfl
  have s1 : Sok { C with gh := gs ++ C.gh } H1 σ δ := (s.step e1).ghost hgs
  refine for_it w (fun i σ H => ∃ δ, Sok { C with gh := gs ++ C.gh } H σ δ ∧ dForL gv sv Dd (ds.drop i) δ) ⟨δ, s1, by rw [List.drop_zero]; exact e⟩ (fun i σ H _ ⟨δ, s, _⟩ => it.g _ H s.alz (hb1 H) s.unghost.2) (fun i x σ2 H2 H3 hi ⟨δ2, s2, e⟩ y => ?_) (fun σ2 H2 ⟨δ2, s2, e⟩ => ?_)
  · have hid : i < ds.length := by omega
    rw [List.drop_eq_getElem_cons hid] at e
    obtain ⟨sm, rx⟩ := it.y i ds[i] _ H2 x H3 (List.getElem?_eq_getElem hid) s2.alz (hb1 H2) s2.unghost.2 y
    have s3 := s2.step (Stp.of sm)
    refine vg { C with gh := gs ++ C.gh } σ2 δ2 H3 x ds[i] _ _ rfl s3 rx e fun σ4 δ4 s4 _ _ _ e => ?_
    exact vb { C with gh := gs ++ C.gh } σ4 δ4 H3 _ _ rfl s4 e ⟨fun σ δ H s e => ⟨δ, s, e⟩, fun v d H e r gh => q.rt v d H e r fun g m => gh g (List.mem_append_right _ m), fun σ δ H s e => q.nx σ δ H s.unghost.1 e, fun σ δ H s e => ⟨δ, s, e⟩⟩
  · rw [List.drop_eq_nil_of_le (by omega)] at e
    exact q.nx σ2 δ2 H2 s2.unghost.1 e
def dWhile (tv : EvT) (bv : EvS) : EvS := fun D δ => ∃ W : Nat → List Sl → Prop, (∃ m, W m δ) ∧ ∀ m δ, W m δ → tv δ fun b => if b = true then bv { nx := fun δ' => ∃ m', m' < m ∧ W m' δ', rt := D.rt, bk := D.nx, ct := fun δ' => ∃ m', m' < m ∧ W m' δ' } δ else D.nx δ
theorem ds_while (hc : DT K X c tv) (hb : DSs K X body sv) (hpo : ∀ i, PassesOwn (model (X i).prog (X i).w) (X i).A (X i).env (X i).xe) : DS K X (.While c body [] pos) (dWhile tv sv) := by
  obtain ⟨t, p, v⟩ := hc
  obtain ⟨tb, pb, vb⟩ := hb
  refine ⟨_, fun i => ps_while (hpo i) (p i) (pb i), fun C σ δ H D Dd k s e q => ?_⟩
  obtain ⟨W, ⟨m0, w0⟩, e⟩ := e
  refine ⟨fun m σ H => ∃ δ, Sok C H σ δ ∧ W m δ, ⟨m0, δ, s, w0⟩, ?_⟩
  rintro m σ H ⟨δ, s, w⟩
  refine v C σ δ H _ _ k s (e m δ w) fun b H1 e1 e => ?_
  cases b
  · exact q.nx σ δ H1 (s.step e1) e
  · refine ⟨fun σ' H' => ∃ m', m' < m ∧ ∃ δ', Sok C H' σ' δ' ∧ W m' δ', fun σ' H' ⟨m', hm, δ', s', w'⟩ => ⟨m', hm, δ', s', w'⟩, ?_⟩
    exact vb C σ δ H1 _ _ k (s.step e1) e ⟨fun σ δ H s ⟨m', hm, w'⟩ => ⟨m', hm, δ, s, w'⟩, q.rt, q.nx, fun σ δ H s ⟨m', hm, w'⟩ => ⟨m', hm, δ, s, w'⟩⟩
end
/-! ### defs: promises over data -/
def ArgOk (S : Sc) (K : PySem.W.Frag) (av : Addr → Prop) (H : Hp) (v : V) : Sl → Prop
  | .val d => Rep K av H v d
  | .src => ∃ z, S = some z ∧ v = .ref z.1
  | _ => False
structure ArgsOk (S : Sc) (K : PySem.W.Frag) (av : Addr → Prop) (H : Hp) (vs : List V) (δ : List Sl) : Prop where
  l : vs.length = δ.length
  f : ∀ (i : Nat) (v : V) (s : Sl), vs[i]? = some v → δ[i]? = some s → ArgOk S K av H v s
abbrev Spc := List Sl → (Dt → Prop) → Prop
def dsp (K : PySem.W.Frag) (n : Nat) (sp : Spc) : Sp := fun vs H Q _ => ∃ (S : Sc) (av : Addr → Prop) (δ : List Sl) (Qd : Dt → Prop), (∀ b, sa S b → av b) ∧ Al av H ∧ Gs S H ∧ ArgsOk S K av H vs δ ∧ δ.length = n ∧ sp δ Qd ∧ ∀ v d H', Stp S H H' → Rep K av H' v d → Qd d → Q v H'
theorem start_at {N : List Str} {vs : List V} {i : Nat} : i < vs.length → (L2.start N vs)[i]? = (vs[i]?).map some := fun h => by
  unfold L2.start
  rw [List.getElem?_append_left (by simpa using h), List.getElem?_map]
/-- the state at a def's entry -/
def st0 (N : List Str) (δ : List Sl) : List Sl := δ ++ List.replicate (N.length - δ.length) .any
theorem sok_start {K : PySem.W.Frag} {S : Sc} {av : Addr → Prop} {H : Hp} {N : List Str} {vs : List V} {δ : List Sl} (h1 : ∀ b, sa S b → av b) (h2 : Al av H) (h3 : Gs S H) (a : ArgsOk S K av H vs δ) : Sok ⟨K, S, av, H, []⟩ H (L2.start N vs) (st0 N δ) := by
  have noo : ∀ (i : Nat) (a' : Addr) (ds : Oc), (st0 N δ)[i]? ≠ some (.own a' ds) := fun i a' ds h => by
    unfold st0 at h
    rcases Nat.lt_or_ge i δ.length with lt | ge
    · rw [List.getElem?_append_left lt] at h
      have hv : vs[i]? = some (vs[i]'(by rw [a.l]; exact lt)) := List.getElem?_eq_getElem _
      exact a.f i _ _ hv h
    · rw [List.getElem?_append_right ge, List.getElem?_replicate] at h
      split at h
      · cases h
      · cases h
  have hz : ∀ b, Zd ⟨K, S, av, H, []⟩ (st0 N δ) b → av b := fun b z => z.elim id fun ⟨s, m, e⟩ => by
    cases s with
    | own a' ds =>
      obtain ⟨i, hi⟩ := List.mem_iff_getElem?.mp m
      exact absurd hi (noo i a' ds)
    | _ => exact e.elim
  refine ⟨?_, fun i s h => ?_, fun i j a' ds es h => absurd h (noo i a' ds), h3, Stp.refl H, h1, h2, fun p m => nomatch m⟩
  · unfold L2.start st0
    rw [List.length_append, List.length_append, List.length_map, List.length_replicate, List.length_replicate, a.l]
  · have h' := h
    unfold st0 at h
    rcases Nat.lt_or_ge i δ.length with lt | ge
    · rw [List.getElem?_append_left lt] at h
      have lv : i < vs.length := by rw [a.l]; exact lt
      have hv : vs[i]? = some vs[i] := List.getElem?_eq_getElem lv
      have q := a.f i _ s hv h
      rw [start_at lv, hv]
      cases s with
      | any => exact q.elim
      | val d => exact ⟨_, rfl, Rep.mono (av := av) q hz⟩
      | own a' ds => exact q.elim
      | src =>
        obtain ⟨z, e1, e2⟩ := q
        exact ⟨z, e1, by rw [Option.map_some, e2]⟩
    · rw [List.getElem?_append_right ge, List.getElem?_replicate] at h
      split at h
      · cases h
        trivial
      · cases h
section
variable {P : Program} {w : World} {K : PySem.W.Frag} {mg : Str → Option Value} {base : Heap}
theorem fn_d {x qual : Str} {params : Arguments} {body : List Stmt} {scope : Scope} {dvs : List V} {kws : List (Str × V)} {f : Addr} {fd : FuncData} {N ps : List Str} {k : Nat} {sp : Spc} {sv : EvS} (F : FunD K x qual params body scope dvs kws f fd) (S : FnScope N ps scope)
    (hbody : ∀ (cdv : Value) (A : Around) (outer : List Env) (s : Shared) (H : Hp) (E : XK), Room k (A.deeper (PyProof.Rows.envOfC qual scope s.heap.objs.size f cdv)) → DSs K (fun _ : Unit => (cxOf CX0 P w K mg base N qual scope f cdv A outer s H E).nox) body sv)
    (hsp : ∀ (δ : List Sl) (Qd : Dt → Prop), δ.length = ps.length → sp δ Qd → sv { nx := fun _ => Qd .non, rt := Qd } (st0 N δ)) : FnOk P w K mg base CX0 (k + 1) f fd ps (dsp K ps.length sp) := by
  refine F.ok S (fun vs H Q E h => ?_) fun cdv A outer s H vs Q E hr h => ?_
  · obtain ⟨S, av, δ, Qd, _, _, _, a, l, _⟩ := h
    rw [a.l, l]
  · obtain ⟨S, av, δ, Qd, h1, h2, h3, a, l, hs, q⟩ := h
    obtain ⟨ts, p, v⟩ := hbody cdv A outer s H E hr
    refine ⟨ts, (p ()).nox, v ⟨K, S, av, H, []⟩ _ _ H _ _ rfl (sok_start h1 h2 h3 a) (hsp δ Qd l hs) ⟨fun σ δ H' s e => q .non .non H' s.st .non e, fun x d H' e r _ qd => q x d H' e r qd, fun _ _ _ _ e => e.elim, fun _ _ _ _ e => e.elim⟩⟩
end
/-! ### calls of defs -/
abbrev EvL := List Sl → (Sl → Prop) → Prop
abbrev EvLs := List Sl → (List Sl → Prop) → Prop
def VLs (z : Bool) (K : PySem.W.Frag) (te : TA) (ev : EvLs) : Prop := ∀ (C : Ctx) (σ : L2.St) (δ : List Sl) (H : Hp) (Q : List V → Hp → Prop) (Qd : List Sl → Prop), C.K = K → Sok C H σ δ → ev δ Qd → (∀ vs ss H', Stp C.S H H' → ArgsOk C.S K (Zz z C δ) H' vs ss → Qd ss → Q vs H') → te σ H Q
def DLs {ι : Type} (z : Bool) (K : PySem.W.Frag) (X : ι → Cx) (es : List Expr) (ev : EvLs) : Prop := ∃ te, (∀ i, PA (X i) es te) ∧ VLs z K te ev
section
variable {ι : Type} {K : PySem.W.Frag} {X : ι → Cx} {z : Bool} {pos : Pos} {e : Expr} {es : List Expr} {ea : EvE} {et : EvLs}
theorem args_cons {S : Sc} {av : Addr → Prop} {H : Hp} {v : V} {s : Sl} {vs : List V} {ss : List Sl} (h : ArgOk S K av H v s) (t : ArgsOk S K av H vs ss) : ArgsOk S K av H (v :: vs) (s :: ss) := ⟨by rw [List.length_cons, List.length_cons, t.l], fun i x u h1 h2 => by
  cases i with
  | zero => cases h1; cases h2; exact h
  | succ j => exact t.f j x u h1 h2⟩
theorem dl_nil : DLs z K X [] (fun _ Q => Q []) := ⟨_, fun _ => pa_nil, fun C σ δ H Q Qd k s e q => q [] [] H (Stp.refl H) ⟨rfl, fun i v s h => by cases i <;> cases h⟩ e⟩
theorem dl_val (ha : DE z K X e ea) (hr : DLs z K X es et) (hs : ∀ i, starEach (e :: es) (X i).env = (false, eval e (X i).env) :: starEach es (X i).env := by intro _; rfl) : DLs z K X (e :: es) (fun δ Q => ea δ fun d => et δ fun ss => Q (.val d :: ss)) := by
  obtain ⟨t, p, v⟩ := ha
  obtain ⟨t2, p2, v2⟩ := hr
  refine ⟨_, fun i => pa_cons (p i) (p2 i) (hs i), fun C σ δ H Q Qd k s e q => ?_⟩
  subst k
  refine v C σ δ H _ _ rfl s e fun x d H1 e1 r1 e => ?_
  refine v2 C σ δ H1 _ _ rfl (s.step e1) e fun vs ds H2 e2 r2 e => q _ _ H2 (e1.trans e2) (args_cons (s := .val d) (rep_st (s.step e1) e2 r1) r2) e
def dSrcA (i : Nat) (et : EvLs) : EvLs := fun δ Q => match δ[i]? with
  | some .src => et δ fun ss => Q (.src :: ss)
  | _ => False
theorem dl_src {i : Nat} {x : Str} {p3 : Pos} (p : ∀ j, PE (X j) (.Name x p3) (tVar i)) (hr : DLs z K X es et) (hs : ∀ i, starEach (.Name x p3 :: es) (X i).env = (false, eval (.Name x p3) (X i).env) :: starEach es (X i).env := by intro _; rfl) : DLs z K X (.Name x p3 :: es) (dSrcA i et) := by
  obtain ⟨t2, p2, v2⟩ := hr
  refine ⟨_, fun j => pa_cons (p j) (p2 j) (hs j), fun C σ δ H Q Qd k s e q => ?_⟩
  subst k
  unfold dSrcA at e
  split at e
  · rename_i h
    obtain ⟨z, h1, h2⟩ := s.sl i _ h
    refine ⟨.ref z.1, h2, v2 C σ δ H _ _ rfl s e fun vs ds H2 e2 r2 e => q _ _ H2 e2 (args_cons (s := .src) ⟨z, h1, rfl⟩ r2) e⟩
  · exact e.elim
theorem de_call {x : Str} {p : Pos} {n : Nat} {sp : Spc} (hp : ∀ {t : TA} i, PA (X i) (e :: es) t → PE (X i) (.Call (.Name x p) (e :: es) [] pos) (tCall (dsp K n sp) [] E0 t)) (ha : DLs z K X (e :: es) et) : DE z K X (.Call (.Name x p) (e :: es) [] pos) (fun δ Q => et δ fun ss => ss.length = n ∧ sp ss Q) := by
  obtain ⟨t, pa, v⟩ := ha
  refine ⟨_, fun i => hp i (pa i), fun C σ δ H Q Qd k s e q => ?_⟩
  subst k
  refine v C σ δ H _ _ rfl s e fun vs ss H1 e1 r e => ?_
  have s1 := s.step e1
  refine ⟨C.S, Zz z C δ, ss, Qd, fun b hb => ?_, s1.al, s1.g, ?_, e.1, e.2, fun v d H2 e2 r2 qd => q v d H2 (e1.trans e2) r2 qd⟩
  · cases z
    · exact s.avs b hb
    · exact .inl (s.avs b hb)
  · rw [List.append_nil]
    exact r
end
end Dl
set_option maxHeartbeats 4000000
/-! zip(x, y), each a list or a tuple -/
namespace Zm
open PySem PySem.Spec PyProof.Rows L2 Sq
/-- k: a list; else a tuple -/
def sqK (k : Bool) (K : PySem.W.Frag) (H : Hp) (a : Addr) (xs : List V) : Prop := match k with
  | true => SqL K H a xs
  | false => SqT K H a xs
def itK (k : Bool) (h : Heap) (it l : Addr) (i : Nat) : Prop := match k with
  | true => h.IsListIter it l i
  | false => h.IsTupleIter it l i
def isK (k : Bool) (h : Heap) (l : Addr) (its : Array Value) : Prop := match k with
  | true => h.IsList l its
  | false => h.IsTuple l its
theorem itK.at' {k : Bool} {h h' : Heap} {it l : Addr} {i : Nat} (x : itK k h it l i) (e : ∀ o, h.get? it = some o → h'.get? it = some o) : itK k h' it l i := by
  cases k
  · exact Heap.IsTupleIter.at x e
  · exact Heap.IsListIter.at x e
theorem itK.obj {k : Bool} {h : Heap} {it l : Addr} {i : Nat} (x : itK k h it l i) : ∃ o, h.get? it = some o ∧ ∀ v, o.data ≠ .cell v := by
  cases k
  · obtain ⟨o, e, _, d⟩ := x
    exact ⟨o, e, fun v q => by rw [d] at q; cases q⟩
  · obtain ⟨o, e, _, d⟩ := x
    exact ⟨o, e, fun v q => by rw [d] at q; cases q⟩
theorem isK.lt {k : Bool} {h : Heap} {l : Addr} {its : Array Value} (x : isK k h l its) : l < h.objs.size := by
  cases k
  · obtain ⟨o, e, _⟩ := x
    exact Heap.lt_size e
  · obtain ⟨o, e, _⟩ := x
    exact Heap.lt_size e
theorem drawK {prog : Program} {w : World} {A : Around} (hh : A.handled = none) (k : Bool) (it l : Addr) (hne : l ≠ it) (its : Array Value) :
    PySem.Draws prog w A it [it, l] its.size (fun i v => its[i]? = some v) (fun i h => itK k h it l i ∧ isK k h l its) := by
  cases k
  · exact PySem.Draws.tuple hh it l hne its
  · exact PySem.Draws.list hh it l hne its
theorem seqK {X : Cx} {pins : List (Addr × Obj)} {σ : L2.St} {H : Hp} {s : Shared} {k : Bool} {a : Addr} {xs : List V} (I : Inv X pins σ H s) (h : sqK k X.K H a xs) : ∃ its : List Value, Vals xs its ∧ isK k s.heap a its.toArray := by
  cases k
  · obtain ⟨its, r, p, _⟩ := I.tuple h
    exact ⟨its, r, p⟩
  · obtain ⟨its, r, p, _⟩ := I.list h
    exact ⟨its, r, p.isList⟩
theorem injK {X : Cx} {pins : List (Addr × Obj)} {σ : L2.St} {H : Hp} {s : Shared} {k : Bool} {a : Addr} {xs ys : List V} (I : Inv X pins σ H s) (h : sqK k X.K H a xs) (h' : sqK k X.K H a ys) : xs = ys := by
  cases k
  · exact I.tuple_inj h h'
  · exact I.list_inj h h'
/-- what is at a and b, side by side in new pairs -/
def Itm (K : PySem.W.Frag) (j k : Bool) (a b : Addr) : It :=
  ⟨fun i H => ∃ (xs ys : List V), sqK j K H a xs ∧ sqK k K H b ys ∧ i < xs.length ∧ i < ys.length,
    fun i H v H' => ∃ T x y, v = .ref T ∧ H T = none ∧ H' = upd H T (.tup [x, y]) ∧ (∀ xs, sqK j K H a xs → xs[i]? = some x) ∧ ∀ ys, sqK k K H b ys → ys[i]? = some y,
    fun i H => ∃ xs ys : List V, sqK j K H a xs ∧ sqK k K H b ys ∧ i ≤ xs.length ∧ i ≤ ys.length ∧ (i = xs.length ∨ i = ys.length)⟩
def Ap (z TI TO i1 i2 : Addr) : Prop := TI ≠ z ∧ TO ≠ z ∧ TI ≠ TO ∧ TI ≠ i1 ∧ TI ≠ i2 ∧ i1 ≠ z ∧ i2 ≠ z ∧ i1 ≠ TO ∧ i2 ≠ TO ∧ i1 ≠ i2
section
variable {P : Program} {w : World} {K : PySem.W.Frag} {elts : List Expr} {kk : Nat} {tpos : Pos} {j k : Bool} {a b z TI TO i1 i2 : Addr}
def Tn (j k : Bool) (a b z TI TO i1 i2 : Addr) (i : Nat) (h : Heap) : Prop := IsZip h z TI TO .none ∧ IsTupOf2 h TI (.ref i1) (.ref i2) ∧ (∃ x y, IsTupOf2 h TO x y) ∧ itK j h i1 a i ∧ itK k h i2 b i
theorem sepOf (D : Ap z TI TO i1 i2) {l1 l2 : Addr} (a1 : l1 ∉ [z, TI, TO, i1, i2]) (a2 : l2 ∉ [z, TI, TO, i1, i2]) : ZipSep2 z TI TO i1 i2 [i1, l1] [i2, l2] := by
  obtain ⟨d1, d2, d3, d4, d5, d6, d7, d8, d9, d10⟩ := D
  simp only [List.mem_cons, List.not_mem_nil, or_false, not_or] at a1 a2
  obtain ⟨b1, b2, b3, b4, b5⟩ := a1
  obtain ⟨c1, c2, c3, c4, c5⟩ := a2
  refine ⟨d1, d2, d3, d4, by simp, ?_, ?_, d5, by simp, ?_, ?_, ?_, ?_⟩ <;> simp only [List.mem_cons, List.not_mem_nil, or_false, not_or]
  · exact ⟨Ne.symm d6, Ne.symm b1⟩
  · exact ⟨Ne.symm d8, Ne.symm b3⟩
  · exact ⟨Ne.symm d7, Ne.symm c1⟩
  · exact ⟨Ne.symm d9, Ne.symm c3⟩
  · exact ⟨d10, Ne.symm c4⟩
  · exact ⟨Ne.symm d10, Ne.symm b5⟩
/-- a tracked or written container is none of the iterator's objects -/
theorem notFp {X : Cx} {pins : List (Addr × Obj)} {σ : L2.St} {H : Hp} {s : Shared} {a : Addr} {xs : List V} (I : Inv X pins σ H s) (h : sqK k X.K H a xs) {fp : List Addr} (hf : ∀ c ∈ fp, FpOk X pins H c) : a ∉ fp := fun m => by
  obtain ⟨n0, _, _, young, _⟩ := hf a m
  have old : ∀ o, X.K.lookup a = some o → False := fun o e => by
    have e1 : X.base.get? a = some o := I.mod.kin a o e
    rcases young with y | y
    · exact I.ok.noex a o e1 y
    · exact absurd (Nat.lt_of_lt_of_le (Heap.lt_size e1) (Nat.le_trans I.ok.bsz y)) (Nat.lt_irrefl _)
  cases k
  · rcases h with (h | ⟨o, h⟩) | ⟨o, _, _, h, _⟩
    · rw [n0] at h; cases h
    · rw [n0] at h; cases h
    · exact old o h
  · rcases h with (h | ⟨o, h⟩) | ⟨o, _, _, h, _⟩
    · rw [n0] at h; cases h
    · rw [n0] at h; cases h
    · exact old o h
theorem turnM (D : Ap z TI TO i1 i2) : Turn P w K (.Tuple elts kk tpos) (Itm K j k a b) [z, TI, TO, i1, i2] z (Tn j k a b z TI TO i1 i2) where
  mem := by simp
  obj := fun i h st c hc => by
    obtain ⟨hz, hTI, ⟨x, y, hTO⟩, h1, h2⟩ := st
    simp only [List.mem_cons, List.not_mem_nil, or_false] at hc
    rcases hc with rfl | rfl | rfl | rfl | rfl
    · exact ⟨_, hz, fun v q => nomatch q⟩
    · exact ⟨_, hTI, fun v q => nomatch q⟩
    · exact ⟨_, hTO, fun v q => nomatch q⟩
    · exact h1.obj
    · exact h2.obj
  keep := fun i h h' st e => by
    obtain ⟨hz, hTI, ⟨x, y, hTO⟩, h1, h2⟩ := st
    exact ⟨e _ (by simp) _ hz, e _ (by simp) _ hTI, ⟨x, y, e _ (by simp) _ hTO⟩, h1.at' fun o q => e _ (by simp) o q, h2.at' fun o q => e _ (by simp) o q⟩
  item := by
    intro X hP hw hK hc i pins s σ H E I hf st hg
    subst hP hw hK
    obtain ⟨hz, hTI, ⟨x0, y0, hTO⟩, h1, h2⟩ := st
    obtain ⟨xs, ys, hqx, hqy, lx, ly⟩ := hg
    obtain ⟨its, rv, p1⟩ := seqK I hqx
    obtain ⟨its2, rv2, p2⟩ := seqK I hqy
    have l1 := rv.length
    have l2 := rv2.length
    have n1 := notFp I hqx hf
    have n2 := notFp I hqy hf
    have D' := D
    obtain ⟨d1, d2, d3, d4, d5, d6, d7, d8, d9, d10⟩ := D
    have hh : X.A.in1.handled = none := I.ok.hd hc
    have hzl : z < s.heap.objs.size := Heap.lt_size hz
    have ne1 : a ≠ i1 := fun e => n1 (by rw [e]; simp)
    have ne2 : b ≠ i2 := fun e => n2 (by rw [e]; simp)
    refine wpAny_pyNext_zipD2_item (sepOf D' n1 n2) (drawK hh j i1 a ne1 its.toArray) (drawK hh k i2 b ne2 its2.toArray) hz hTI hTO ⟨h1, p1⟩ ⟨h2, p2⟩ (by simp; omega) (by simp; omega) fun u u2 h' tk hu hu2 z' TO' s1' s2' hT hsz hk => ?_
    refine ⟨_, rfl, wpAny_letOwnedTupleGo_zip (s := { s with heap := h', toks := tk }) z' fun h'' z'' sb => ?_⟩
    have hx : xs[i]? = some xs[i] := List.getElem?_eq_getElem lx
    have hy : ys[i]? = some ys[i] := List.getElem?_eq_getElem ly
    obtain ⟨v1, e1, r1⟩ := rv.get hx
    obtain ⟨v2, e2, r2⟩ := rv2.get hy
    have q1 : v1 = u := by
      have : its[i]? = some u := by simpa using hu
      rw [e1] at this
      exact Option.some.inj this
    have q2 : v2 = u2 := by
      have : its2[i]? = some u2 := by simpa using hu2
      rw [e2] at this
      exact Option.some.inj this
    subst q1 q2
    have hT2 : h''.get? s.heap.objs.size = some { cls := .type "tuple", data := .seq #[v1, v2] } := (sb.2 _ (Nat.ne_of_gt hzl)).trans hT
    have made : ObjOk X.prog X.w (upd H s.heap.objs.size (.tup [xs[i], ys[i]])) h'' s.heap.objs.size (.tup [xs[i], ys[i]]) := ⟨by show 2 ≤ sizeLine; decide, [v1, v2], .cons r1 (.cons r2 .nil), ⟨_, hT2, rfl, _, rfl⟩⟩
    have stays : ∀ c o, c ∉ [z, TI, TO, i1, i2] → s.heap.get? c = some o → h''.get? c = some o := fun c o m e => by
      simp only [List.mem_cons, List.not_mem_nil, or_false, not_or] at m
      obtain ⟨m1, _, m3, m4, m5⟩ := m
      exact (sb.2 c m1).trans (hk c o m1 m3 m4 m5 e)
    have I1 := I.turnedNew (t' := tk) (ch := [z, TI, TO, i1, i2]) stays hf (Nat.le_refl _) made
    refine ⟨.ref s.heap.objs.size, _, I1, rfl, ⟨_, _, _, rfl, I.hok.fresh (Nat.le_refl _), rfl, fun l hl => ?_, fun l hl => ?_⟩, ⟨z'', (sb.2 _ d1).trans (hk _ _ d1 d3 d4 d5 hTI), ⟨v1, v2, (sb.2 _ d2).trans TO'⟩, s1'.1.at' fun o q => (sb.2 _ d6).trans q, s2'.1.at' fun o q => (sb.2 _ d7).trans q⟩, fun c hcm => ?_⟩
    · rw [injK I hl hqx]
      exact hx
    · rw [injK I hl hqy]
      exact hy
    · have lt : c < s.heap.objs.size := by
        have hcm' := hcm
        simp only [List.mem_cons, List.not_mem_nil, or_false] at hcm'
        rcases hcm' with q | q | q | q | q
        · rw [q]; exact hzl
        · rw [q]; exact Heap.lt_size hTI
        · rw [q]; exact Heap.lt_size hTO
        · rw [q]; obtain ⟨_, e, _⟩ := h1.obj; exact Heap.lt_size e
        · rw [q]; obtain ⟨_, e, _⟩ := h2.obj; exact Heap.lt_size e
      rw [upd_ne (Nat.ne_of_lt lt)]
      exact (hf c hcm).1
  done := by
    intro X hP hw hK hc i pins s σ H E I hf st hg
    subst hP hw hK
    obtain ⟨hz, hTI, ⟨x0, y0, hTO⟩, h1, h2⟩ := st
    obtain ⟨xs, ys, hqx, hqy, lx, ly, le⟩ := hg
    obtain ⟨its, rv, p1⟩ := seqK I hqx
    obtain ⟨its2, rv2, p2⟩ := seqK I hqy
    have l1 := rv.length
    have l2 := rv2.length
    have n1 := notFp I hqx hf
    have n2 := notFp I hqy hf
    have hh : X.A.in1.handled = none := I.ok.hd hc
    have ne1 : a ≠ i1 := fun e => n1 (by rw [e]; simp)
    have ne2 : b ≠ i2 := fun e => n2 (by rw [e]; simp)
    refine wpAny_pyNext_zipD2_end (sepOf D n1 n2) (drawK hh j i1 a ne1 its.toArray) (drawK hh k i2 b ne2 its2.toArray) hz hTI hTO ⟨h1, p1⟩ ⟨h2, p2⟩ (by simp; omega) (by simp; omega) (by simp; omega) fun h' tk hk => ⟨rfl, I.turnedL (t' := tk) (ch := [z, TI, TO, i1, i2]) (fun c o m e => ?_) hf⟩
    simp only [List.mem_cons, List.not_mem_nil, or_false, not_or] at m
    obtain ⟨m1, _, m3, m4, m5⟩ := m
    exact hk c o m1 m3 m4 m5 e
  self := fun A i s Q E st h => wpAny_pyIter_zip st.1 h
end
def iZipM (K : PySem.W.Frag) (ta : TA) : TI := fun σ H R => ta σ H fun vs H1 => ∃ a b j k xs ys, vs = [.ref a, .ref b] ∧ sqK j K H1 a xs ∧ sqK k K H1 b ys ∧ R (Itm K j k a b) H1
theorem beginK (k : Bool) (l : Addr) (its : Array Value) : ∃ o, Begins (.ref l) o (fun h => isK k h l its) ∧ ∀ h it, h.get? it = some o → itK k h it l 0 := by
  cases k
  · exact ⟨_, begins_tuple l its, fun h it e => ⟨_, e, rfl, rfl⟩⟩
  · exact ⟨_, begins_list l its, fun h it e => ⟨_, e, rfl, rfl⟩⟩
theorem pi_zipM {X : Cx} {e e2 : Expr} {ta : TA} {p pos tpos : Pos} {elts : List Expr} {kk : Nat} (hg : Gl X "zip") (hm : X.mg "zip" = none) (ha : PA X [e, e2] ta)
    (hs : starEach [e, e2] X.env = (false, eval e X.env) :: starEach [e2] X.env := by rfl) (hpl : (backTo pos (starEach [e2] X.env)).any (·.1) = false := by rfl) :
    PI X (.Tuple elts kk tpos) (.Call (.Name "zip" p) [e, e2] [] pos) (iZipM X.K ta) := by
  refine ⟨fun pins s σ H R I h => ?_⟩
  refine Call_ (ld_blt I hg hm PyProof.Rows.boot_zip (PyProof.Rows.callWith_type1 (thn (ha.run pos pins s σ H _ I h) fun us s1 ⟨vs, H1, I1, r1, q1⟩ => ?_) hs hpl))
  obtain ⟨a, b, j, k, xs, ys, rfl, hx, hy, q⟩ := q1
  cases r1 with
  | cons r rr =>
    cases rr with
    | cons r' rr =>
      cases rr
      cases r
      cases r'
      obtain ⟨its, _, p1⟩ := seqK I1 hx
      obtain ⟨its2, _, p2⟩ := seqK I1 hy
      obtain ⟨o1, B1, g1⟩ := beginK j a its.toArray
      obtain ⟨o2, B2, g2⟩ := beginK k b its2.toArray
      have N : ∀ n, FpOk X pins H1 (s1.heap.objs.size + n) := fun n => I1.fpOk (Nat.le_add_right _ _) (I1.hok.fresh (Nat.le_add_right _ _))
      refine zip_begins2 B1 B2 p1 p2 fun h' hz hTI hTO e1 e2 hsz hk => wpAny_pyIter_zip hz ?_
      have I2 : Inv X pins σ H1 { s1 with heap := h' } := I1.kept (t' := s1.toks) hk
      have ap : Ap (s1.heap.objs.size + 4) (s1.heap.objs.size + 2) (s1.heap.objs.size + 3) s1.heap.objs.size (s1.heap.objs.size + 1) := by
        unfold Ap
        refine ⟨?_, ?_, ?_, ?_, ?_, ?_, ?_, ?_, ?_, ?_⟩ <;> (intro z; have z' : (_ : Nat) = _ := z; omega)
      refine ⟨s1.heap.objs.size + 4, [s1.heap.objs.size + 4, s1.heap.objs.size + 2, s1.heap.objs.size + 3, s1.heap.objs.size, s1.heap.objs.size + 1], _, _, H1, rfl, I2, turnM (j := j) (k := k) (a := a) (b := b) ap, ⟨hz, hTI, ⟨_, _, hTO⟩, g1 _ _ e1, g2 _ _ e2⟩, fun c m => ?_, q⟩
      simp only [List.mem_cons, List.not_mem_nil, or_false] at m
      rcases m with rfl | rfl | rfl | rfl | rfl
      · exact N 4
      · exact N 2
      · exact N 3
      · exact N 0
      · exact N 1
theorem pi_zipMK {X : Cx} {K : PySem.W.Frag} (hK : X.K = K) {e e2 : Expr} {ta : TA} {p pos tpos : Pos} {elts : List Expr} {kk : Nat} (hg : Gl X "zip") (hm : X.mg "zip" = none) (ha : PA X [e, e2] ta)
    (hs : starEach [e, e2] X.env = (false, eval e X.env) :: starEach [e2] X.env := by rfl) (hpl : (backTo pos (starEach [e2] X.env)).any (·.1) = false := by rfl) :
    PI X (.Tuple elts kk tpos) (.Call (.Name "zip" p) [e, e2] [] pos) (iZipM K ta) := hK ▸ pi_zipM hg hm ha hs hpl
end Zm
set_option maxHeartbeats 1000000
namespace Dl
open PySem PySem.Spec PyProof.Rows L2 Lcn Sq
theorem ru64 {k : Nat} {A : Around} (hr : Room k A) : A.units + 64 < cLine := by have := hr.un; omega
theorem ru65 {k : Nat} {A : Around} (hr : Room k A) : A.units + 65 < cLine := by have := hr.un; omega
section
variable {ι : Type} {K : PySem.W.Frag} {X : ι → Cx} {z o : Bool} {pos p2 : Pos} {a b c e tg iter : Expr} {es : List Expr} {ea eb ec : EvE} {et : EvA}
/-- the things of a list or a tuple -/
def itemsD : Dt → Option (List Dt)
  | .lst ds => some ds
  | .tup ds => some ds
  | _ => none
theorem rep_items {av : Addr → Prop} {H : Hp} {v : V} {d : Dt} {ds : List Dt} (r : Rep K av H v d) (h : itemsD d = some ds) : ∃ k a xs, v = .ref a ∧ Zm.sqK k K H a xs ∧ RepL K av H xs ds ∧ (k = true ↔ d = .lst ds) := by
  cases d with
  | lst es =>
    cases h
    obtain ⟨a, xs, rfl, hx, lx⟩ := r.lst_inv
    exact ⟨true, a, xs, rfl, hx.sq, lx, by simp⟩
  | tup es =>
    cases h
    obtain ⟨a, xs, rfl, hx, lx⟩ := r.tup_inv
    exact ⟨false, a, xs, rfl, hx.sq, lx, by simp⟩
  | _ => cases h
theorem rep_itemsAt {av : Addr → Prop} {H : Hp} {a : Addr} {d : Dt} {ds : List Dt} {k : Bool} (r : Rep K av H (.ref a) d) (h : itemsD d = some ds) (hk : k = true ↔ d = .lst ds) : ∃ xs, Zm.sqK k K H a xs ∧ RepL K av H xs ds := by
  obtain ⟨k', a', xs, e, h1, h2, h3⟩ := rep_items r h
  cases e
  have : k = k' := by
    cases k <;> cases k' <;> simp_all
  subst this
  exact ⟨xs, h1, h2⟩
def pairD (xs ys : List Dt) : List Dt := (xs.zip ys).map fun p => .tup [p.1, p.2]
def ivZip (et : EvA) : EvA := fun δ Q => et δ fun ds => match ds with
  | [x, y] => ∃ xs ys, itemsD x = some xs ∧ itemsD y = some ys ∧ Q (pairD xs ys)
  | _ => False
theorem walkM {j k : Bool} {a b : Addr} {m n : Nat} : Walk (Zm.Itm K j k a b) (min m n) (fun H => ∃ xs ys, xs.length = m ∧ ys.length = n ∧ Zm.sqK j K H a xs ∧ Zm.sqK k K H b ys) (fun i H v H' => ∃ T x y, v = .ref T ∧ H T = none ∧ H' = upd H T (.tup [x, y]) ∧ (∀ xs, Zm.sqK j K H a xs → xs[i]? = some x) ∧ ∀ ys, Zm.sqK k K H b ys → ys[i]? = some y) :=
  ⟨fun i H hi ⟨xs, ys, l1, l2, h1, h2⟩ => ⟨xs, ys, h1, h2, by omega, by omega⟩, fun H ⟨xs, ys, l1, l2, h1, h2⟩ => ⟨xs, ys, h1, h2, by omega, by omega, by omega⟩, fun _ _ _ _ _ _ y => y⟩
theorem di_zip {elts : List Expr} {kk : Nat} {tpos p : Pos} (hg : ∀ i, Gl (X i) "zip") (hm : ∀ i, (X i).mg "zip" = none) (ha : DA true K X [a, b] et) (hs : ∀ i, starEach [a, b] (X i).env = (false, eval a (X i).env) :: starEach [b] (X i).env := by intro _; rfl) (hpl : ∀ i, (backTo pos (starEach [b] (X i).env)).any (·.1) = false := by intro _; rfl) (hK : ∀ i, (X i).K = K := by intro _; rfl) :
    DI o K X (.Tuple elts kk tpos) (.Call (.Name "zip" p) [a, b] [] pos) (ivZip et) := by
  obtain ⟨t, pa, v⟩ := ha
  refine ⟨_, fun i => Zm.pi_zipMK (hK i) (hg i) (hm i) (pa i) (hs i) (hpl i), fun C σ δ H R Qd k s e q => ?_⟩
  subst k
  refine v C σ δ H _ _ rfl s e fun vs ds H1 e1 r e => ?_
  split at e
  · rename_i x y
    obtain ⟨us, ws, hx, hy, e⟩ := e
    obtain ⟨vx, vy, rfl, rx, ry⟩ := repl2 r
    obtain ⟨j, a1, xs, rfl, g1, l1, k1⟩ := rep_items rx hx
    obtain ⟨k, a2, ys, rfl, g2, l2, k2⟩ := rep_items ry hy
    refine ⟨a1, a2, j, k, xs, ys, rfl, g1, g2, q _ _ _ _ (pairD us ws) H1 (fun _ => True) [(.ref a1, x), (.ref a2, y)] (walkM (m := us.length) (n := ws.length)) (by simp [pairD]) e1 (fun _ _ => trivial) (fun _ _ => trivial) (fun g m => ?_) ⟨fun av H al _ h => ?_, fun i d av H x' H' hd al _ h y' => ?_⟩ e⟩
    · rcases List.mem_cons.mp m with rfl | m
      · exact rx
      · rw [List.mem_singleton] at m
        rw [m]
        exact ry
    · obtain ⟨xs', g1', l1'⟩ := rep_itemsAt (h (.ref a1, x) (by simp)) hx k1
      obtain ⟨ys', g2', l2'⟩ := rep_itemsAt (h (.ref a2, y) (by simp)) hy k2
      exact ⟨xs', ys', l1'.l, l2'.l, g1', g2'⟩
    · obtain ⟨xs', g1', l1'⟩ := rep_itemsAt (h (.ref a1, x) (by simp)) hx k1
      obtain ⟨ys', g2', l2'⟩ := rep_itemsAt (h (.ref a2, y) (by simp)) hy k2
      obtain ⟨T, p, q', rfl, hT, rfl, e1', e2'⟩ := y'
      obtain ⟨d1, d2, hd1, hd2, rfl⟩ := pair_get hd
      exact ⟨same_new hT, rep_newT al hT (.cons (l1'.f i p d1 (e1' xs' g1') hd1) (.cons (l2'.f i q' d2 (e2' ys' g2') hd2) .nil))⟩
  · exact e.elim
/-- list(range(..)), tuple(range(..)) -/
def dRg1 (g : List Dt → Dt) (ea : EvE) : EvE := fun δ Q => ea δ fun d => match d with
  | .int n => -(2 ^ 62) ≤ n ∧ n < 2 ^ 62 ∧ n.toNat ≤ sizeLine ∧ Q (g (rngD 0 n.toNat))
  | _ => False
def dRg2 (g : List Dt → Dt) (ea eb : EvE) : EvE := fun δ Q => ea δ fun d => eb δ fun d' => match d, d' with
  | .int m, .int n => (-(2 ^ 62) ≤ m ∧ m < 2 ^ 62 ∧ -(2 ^ 62) ≤ n ∧ n < 2 ^ 62 ∧ (n - m).toNat ≤ sizeLine) ∧ Q (g (rngD m (n - m).toNat))
  | _, _ => False
end
end Dl
set_option maxHeartbeats 1000000
/-! reasoning over data -/
namespace Dl
open PySem PySem.Spec PyProof.Rows L2 Lcn Sq
theorem big1000 : (1000 : Nat) < sizeLine := by decide
theorem k1000 {n : Nat} (h : n < 1000) : n < sizeLine := Nat.lt_trans h big1000
theorem le1000 {n : Nat} (h : n ≤ 1000) : n ≤ sizeLine := Nat.le_trans h (Nat.le_of_lt big1000)
section
variable {α : Type} {gv : Dt → List Sl → (List Sl → Prop) → Prop} {tv : EvT} {ev : EvE} {vs : List Nat} {δ : List Sl} {Q : List Dt → Prop} {g : α → Dt}
/-- a comprehension whose turns are told -/
theorem lc_fm (p : α → Bool) (f : α → Dt) : ∀ (xs : List α) (acc : List Dt), (∀ x, x ∈ xs → ∀ (Q : Dt → Prop) (R : Prop), (p x = true → Q (f x)) → (p x = false → R) → gv (g x) (wipeS δ vs) fun δ2 => tv δ2 fun b => if b = true then ev δ2 Q else R) → Q (acc ++ (xs.filter p).map f) → dLc gv tv ev vs (xs.map g) acc δ Q
  | [], acc, _, q => by
    rw [List.filter_nil, List.map_nil, List.append_nil] at q
    exact q
  | x :: xs, acc, hs, q => by
    rw [List.map_cons]
    refine hs x (List.mem_cons_self ..) _ _ (fun e => ?_) (fun e => ?_)
    · refine lc_fm p f xs _ (fun y m => hs y (List.mem_cons_of_mem _ m)) ?_
      rw [List.filter_cons, if_pos e, List.map_cons] at q
      rw [List.append_assoc]
      exact q
    · refine lc_fm p f xs _ (fun y m => hs y (List.mem_cons_of_mem _ m)) ?_
      rw [List.filter_cons, if_neg (by rw [e]; exact Bool.false_ne_true)] at q
      exact q
theorem lc_map (f : α → Dt) (xs : List α) (hs : ∀ x, x ∈ xs → ∀ (Q : Dt → Prop), Q (f x) → gv (g x) (wipeS δ vs) fun δ2 => ev δ2 Q) (q : Q (xs.map f)) : dLc gv dYes ev vs (xs.map g) [] δ Q :=
  lc_fm (fun _ => true) f xs [] (fun x m Q R h _ => hs x m Q (h rfl)) (by rw [List.filter_eq_self.mpr fun _ _ => rfl]; exact q)
/-- a comprehension whose turns give some thing -/
theorem lc_some {β : Type} (h : β → Dt) (P : α → β → Prop) : ∀ (xs : List α) (acc : List Dt), (∀ x, x ∈ xs → ∀ (Q : Dt → Prop), (∀ z, P x z → Q (h z)) → gv (g x) (wipeS δ vs) fun δ2 => ev δ2 Q) → (∀ zs : List β, zs.length = xs.length → (∀ (i : Nat) (x : α) (z : β), xs[i]? = some x → zs[i]? = some z → P x z) → Q (acc ++ zs.map h)) → dLc gv dYes ev vs (xs.map g) acc δ Q
  | [], acc, _, q => by
    have := q [] rfl (fun i x z h => by cases i <;> cases h)
    rw [List.map_nil, List.append_nil] at this
    exact this
  | x :: xs, acc, hs, q => by
    rw [List.map_cons]
    refine hs x (List.mem_cons_self ..) _ fun z pz => ?_
    refine lc_some h P xs _ (fun y m => hs y (List.mem_cons_of_mem _ m)) fun zs l f => ?_
    have := q (z :: zs) (by rw [List.length_cons, List.length_cons, l]) (fun i y u h1 h2 => by
      cases i with
      | zero => cases h1; cases h2; exact pz
      | succ j => exact f j y u h1 h2)
    rw [List.map_cons] at this
    rw [List.append_assoc]
    exact this
/-- .. each of one kind -/
theorem lc_all {β : Type} (h : β → Dt) (P : β → Prop) (xs : List α) (hs : ∀ x, x ∈ xs → ∀ (Q : Dt → Prop), (∀ z, P z → Q (h z)) → gv (g x) (wipeS δ vs) fun δ2 => ev δ2 Q) (q : ∀ zs : List β, zs.length = xs.length → (∀ z, z ∈ zs → P z) → Q (zs.map h)) : dLc gv dYes ev vs (xs.map g) [] δ Q :=
  lc_some h (fun _ z => P z) xs [] hs fun zs l f => q zs l fun z m => by
    obtain ⟨i, hi⟩ := List.mem_iff_getElem?.mp m
    have : i < xs.length := by
      have := (List.getElem?_eq_some_iff.mp hi).1
      omega
    exact f i xs[i] z (List.getElem?_eq_getElem this) hi
/-! loops -/
variable {bv : EvS} {D : DEnds}
theorem for_inv {ds : List Dt} (I : Nat → List Sl → Prop) (h0 : I 0 δ) (hs : ∀ (i : Nat) (d : Dt) (δ : List Sl) (N : List Sl → Prop), ds[i]? = some d → I i δ → (∀ δ', I (i + 1) δ' → N δ') → gv d δ fun δ2 => bv { nx := N, rt := D.rt, bk := D.nx, ct := N } δ2) (hd : ∀ δ, I ds.length δ → D.nx δ) : dForL gv bv D ds δ := by
  have key : ∀ (r pre : List Dt) (δ : List Sl), pre ++ r = ds → I pre.length δ → dForL gv bv D r δ := by
    intro r
    induction r with
    | nil =>
      intro pre δ e h
      rw [List.append_nil] at e
      rw [← e] at hd
      exact hd δ h
    | cons d r ih =>
      intro pre δ e h
      refine hs pre.length d δ _ ?_ h fun δ' h' => ih (pre ++ [d]) δ' (by rw [List.append_assoc]; exact e) (by rw [List.length_append]; exact h')
      rw [← e, List.getElem?_append_right (Nat.le_refl _), Nat.sub_self]
      rfl
  exact key ds [] δ rfl h0
end
section
variable {α : Type} {gv : Dt → List Sl → (List Sl → Prop) → Prop} {bv : EvS} {D : DEnds} {g : α → Dt}
/-- a loop that leaves the def at the first thing of a kind -/
theorem for_find (I : List Sl → Prop) (p : α → Bool) (r : α → Dt) : ∀ (xs : List α) (δ : List Sl), I δ →
    (∀ x, x ∈ xs → ∀ (δ : List Sl) (N : List Sl → Prop), I δ → (p x = true → D.rt (r x)) → (p x = false → ∀ δ', I δ' → N δ') → gv (g x) δ fun δ2 => bv { nx := N, rt := D.rt, bk := D.nx, ct := N } δ2) →
    (∀ x, xs.find? p = some x → D.rt (r x)) → (xs.find? p = none → ∀ δ, I δ → D.nx δ) → dForL gv bv D (xs.map g) δ
  | [], δ, h, _, _, q => q rfl δ h
  | x :: xs, δ, h, hs, q1, q2 => by
    rw [List.map_cons]
    refine hs x (List.mem_cons_self ..) δ _ h (fun e => q1 x (by rw [List.find?_cons, e])) fun e δ' h' => ?_
    refine for_find I p r xs δ' h' (fun y m => hs y (List.mem_cons_of_mem _ m)) (fun y ey => q1 y ?_) fun en => q2 ?_
    · rw [List.find?_cons, e]
      exact ey
    · rw [List.find?_cons, e]
      exact en
/-- .. at the first thing that gives one -/
theorem for_some {β : Type} (I : List Sl → Prop) (p : α → Option β) (r : β → Dt) : ∀ (xs : List α) (δ : List Sl), I δ →
    (∀ x, x ∈ xs → ∀ (δ : List Sl) (N : List Sl → Prop), I δ → (∀ y, p x = some y → D.rt (r y)) → (p x = none → ∀ δ', I δ' → N δ') → gv (g x) δ fun δ2 => bv { nx := N, rt := D.rt, bk := D.nx, ct := N } δ2) →
    (∀ y, xs.findSome? p = some y → D.rt (r y)) → (xs.findSome? p = none → ∀ δ, I δ → D.nx δ) → dForL gv bv D (xs.map g) δ
  | [], δ, h, _, _, q => q rfl δ h
  | x :: xs, δ, h, hs, q1, q2 => by
    rw [List.map_cons]
    refine hs x (List.mem_cons_self ..) δ _ h (fun y e => q1 y (by rw [List.findSome?_cons, e])) fun e δ' h' => ?_
    refine for_some I p r xs δ' h' (fun y m => hs y (List.mem_cons_of_mem _ m)) (fun y ey => q1 y ?_) fun en => q2 ?_
    · rw [List.findSome?_cons, e]
      exact ey
    · rw [List.findSome?_cons, e]
      exact en
end
theorem rngD_get {lo : Int} {n i : Nat} {d : Dt} (h : (rngD lo n)[i]? = some d) : i < n ∧ d = .int (lo + (i : Int)) := by
  unfold rngD at h
  rw [List.getElem?_map] at h
  obtain ⟨j, h1, h2⟩ := Option.map_eq_some_iff.mp h
  have hi : i < (List.range n).length := (List.getElem?_eq_some_iff.mp h1).1
  have : j = i := by
    have := (List.getElem?_eq_some_iff.mp h1).2
    simpa using this.symm
  subst this
  exact ⟨by simpa using hi, h2.symm⟩
theorem rngD_len {lo : Int} {n : Nat} : (rngD lo n).length = n := by simp [rngD]
theorem atI_map {α β : Type} {f : α → β} {xs : List α} {i : Int} {x : α} (h : atI xs i = some x) : atI (xs.map f) i = some (f x) := by
  unfold atI at h ⊢
  rw [List.length_map]
  cases e : ixN xs.length i with
  | none => rw [e] at h; cases h
  | some j =>
    rw [e] at h
    have h : xs[j]? = some x := h
    show (xs.map f)[j]? = some (f x)
    rw [List.getElem?_map, h]
    rfl
theorem atI_lt {α : Type} {xs : List α} {i : Int} (h0 : 0 ≤ i) (h1 : i < xs.length) : atI xs i = some (xs[i.toNat]'(by omega)) := by
  obtain ⟨j, rfl⟩ : ∃ j : Nat, i = (j : Int) := ⟨i.toNat, by omega⟩
  exact atI_nat (by
    have : (j : Int).toNat = j := by omega
    simp [this])
theorem pairD_map {α β : Type} {f : α → Dt} {g : β → Dt} (xs : List α) (ys : List β) : pairD (xs.map f) (ys.map g) = (xs.zip ys).map fun p => .tup [f p.1, g p.2] := by
  unfold pairD
  rw [List.zip_map, List.map_map]
  rfl
/-! equality of plain data -/
mutual
theorem eqv_same : ∀ d : Dt, okD d = true → eqD d d = true
  | d, h => SeqAt.eqv_refl (py d) (lay_py d h)
end
end Dl
set_option maxHeartbeats 1000000
/-! own dicts -/
namespace Dl
open PySem PySem.Spec PyProof.Rows L2 Lcn Sq
def kyD : Dt → Option Key
  | .int i => some (.inl i)
  | .str s => some (.inr s)
  | _ => none
def kysD : List Dt → Option (List Key)
  | [] => some []
  | d :: r => (kyD d).bind fun k => (kysD r).map fun ks => k :: ks
section
variable {κ : Type} [DecidableEq κ]
def valD (es : List (κ × Dt)) (k : κ) : Option Dt := (es.find? fun e => decide (e.1 = k)).map (·.2)
def putD (es : List (κ × Dt)) (k : κ) (d : Dt) : List (κ × Dt) := if (es.any fun e => decide (e.1 = k)) = true then es.map (fun e => if e.1 = k then (e.1, d) else e) else es ++ [(k, d)]
variable {K : PySem.W.Frag} {av : Addr → Prop} {H : Hp}
/-- entries one by one -/
def RepE (K : PySem.W.Frag) (av : Addr → Prop) (H : Hp) (kvs : List (κ × V)) (es : List (κ × Dt)) : Prop := kvs.map Prod.fst = es.map Prod.fst ∧ RepL K av H (kvs.map Prod.snd) (es.map Prod.snd)
theorem repE_cons {p : κ × V} {e : κ × Dt} {kvs : List (κ × V)} {es : List (κ × Dt)} (h : RepE K av H (p :: kvs) (e :: es)) : p.1 = e.1 ∧ Rep K av H p.2 e.2 ∧ RepE K av H kvs es := by
  obtain ⟨h1, h2⟩ := h
  rw [List.map_cons, List.map_cons] at h1 h2
  injection h1 with h1 h3
  exact ⟨h1, h2.head.1, h3, h2.head.2⟩
theorem repE_mk {p : κ × V} {e : κ × Dt} {kvs : List (κ × V)} {es : List (κ × Dt)} (h : p.1 = e.1) (r : Rep K av H p.2 e.2) (t : RepE K av H kvs es) : RepE K av H (p :: kvs) (e :: es) :=
  ⟨by rw [List.map_cons, List.map_cons, h, t.1], by rw [List.map_cons, List.map_cons]; exact .cons r t.2⟩
theorem repE_nil : RepE K av H ([] : List (κ × V)) [] := ⟨rfl, .nil⟩
theorem repE_val (k : κ) : ∀ {kvs : List (κ × V)} {es : List (κ × Dt)}, RepE K av H kvs es → (valD es k = none ∧ valV kvs k = none) ∨ ∃ d v, valD es k = some d ∧ valV kvs k = some v ∧ Rep K av H v d
  | [], [], _ => .inl ⟨rfl, rfl⟩
  | [], _ :: _, h => by have := h.1; simp at this
  | _ :: _, [], h => by have := h.1; simp at this
  | p :: kvs, e :: es, h => by
    obtain ⟨h1, h2, h3⟩ := repE_cons h
    by_cases he : e.1 = k
    · refine .inr ⟨e.2, p.2, ?_, ?_, h2⟩
      · simp [valD, List.find?_cons, he]
      · simp [valV, List.find?_cons, h1, he]
    · rcases repE_val k h3 with ⟨a, b⟩ | ⟨d, v, a, b, c⟩
      · refine .inl ⟨?_, ?_⟩
        · simpa [valD, List.find?_cons, he] using a
        · simpa [valV, List.find?_cons, h1, he] using b
      · refine .inr ⟨d, v, ?_, ?_, c⟩
        · simpa [valD, List.find?_cons, he] using a
        · simpa [valV, List.find?_cons, h1, he] using b
theorem repE_any (k : κ) : ∀ {kvs : List (κ × V)} {es : List (κ × Dt)}, RepE K av H kvs es → (kvs.any fun e => decide (e.1 = k)) = es.any fun e => decide (e.1 = k)
  | [], [], _ => rfl
  | [], _ :: _, h => by have := h.1; simp at this
  | _ :: _, [], h => by have := h.1; simp at this
  | p :: kvs, e :: es, h => by
    obtain ⟨h1, h2, h3⟩ := repE_cons h
    rw [List.any_cons, List.any_cons, repE_any k h3, h1]
theorem repE_map (k : κ) {v : V} {d : Dt} (r : Rep K av H v d) : ∀ {kvs : List (κ × V)} {es : List (κ × Dt)}, RepE K av H kvs es → RepE K av H (kvs.map fun e => if e.1 = k then (e.1, v) else e) (es.map fun e => if e.1 = k then (e.1, d) else e)
  | [], [], h => h
  | [], _ :: _, h => by have := h.1; simp at this
  | _ :: _, [], h => by have := h.1; simp at this
  | p :: kvs, e :: es, h => by
    obtain ⟨h1, h2, h3⟩ := repE_cons h
    rw [List.map_cons, List.map_cons]
    refine repE_mk ?_ ?_ (repE_map k r h3)
    · rw [h1]
      split <;> simp [h1]
    · rw [h1]
      split
      · exact r
      · exact h2
theorem repE_snoc {k : κ} {v : V} {d : Dt} (r : Rep K av H v d) {kvs : List (κ × V)} {es : List (κ × Dt)} (h : RepE K av H kvs es) : RepE K av H (kvs ++ [(k, v)]) (es ++ [(k, d)]) := by
  refine ⟨by simp [h.1], ?_⟩
  rw [List.map_append, List.map_append]
  exact h.2.append (.cons r .nil)
theorem repE_put {k : κ} {v : V} {d : Dt} (r : Rep K av H v d) {kvs : List (κ × V)} {es : List (κ × Dt)} (h : RepE K av H kvs es) : RepE K av H (putK kvs k v) (putD es k d) := by
  unfold putK putD
  rw [repE_any k h]
  split
  · exact repE_map k r h
  · exact repE_snoc r h
theorem repE_len {kvs : List (κ × V)} {es : List (κ × Dt)} (h : RepE K av H kvs es) : kvs.length = es.length := by
  have := congrArg List.length h.1
  simpa using this
theorem putD_new {es : List (κ × Dt)} {k : κ} {d : Dt} (h : ∀ e, e ∈ es → e.1 ≠ k) : putD es k d = es ++ [(k, d)] := by
  unfold putD
  rw [if_neg]
  intro z
  obtain ⟨e, m, q⟩ := List.any_eq_true.mp z
  exact h e m (of_decide_eq_true q)
theorem valD_none {es : List (κ × Dt)} {k : κ} : valD es k = none ↔ ∀ e, e ∈ es → e.1 ≠ k := by
  unfold valD
  rw [Option.map_eq_none_iff, List.find?_eq_none]
  simp
end
/-- a look into an own dict; a store -/
def lookO : Oc → Dt → Option (Option Dt)
  | .t es, .tup ks => (kysD ks).map (valD es)
  | .k es, d => (kyD d).map (valD es)
  | _, _ => none
def putO : Oc → Dt → Dt → Option Oc
  | .t es, .tup ks, d => (kysD ks).map fun k => .t (putD es k d)
  | .k es, y, d => (kyD y).map fun k => .k (putD es k d)
  | _, _, _ => none
def lenO : Oc → Nat
  | .t es => es.length
  | .k es => es.length
  | .l ds => ds.length
  | .i _ es => es.length
section
variable {K : PySem.W.Frag} {av : Addr → Prop} {H : Hp}
theorem rep_ky {v : V} {d : Dt} {k : Key} (r : Rep K av H v d) (h : kyD d = some k) : v = kV k := by
  cases r with
  | int i => cases h; rfl
  | str s => cases h; rfl
  | _ => cases h
theorem rep_kys : ∀ {xs : List V} {ds : List Dt} {k : List Key}, RepL K av H xs ds → kysD ds = some k → xs = k.map kV
  | [], [], k, _, h => by cases h; rfl
  | [], _ :: _, _, r, _ => by have := r.l; simp at this
  | _ :: _, [], _, r, _ => by have := r.l; simp at this
  | x :: xs, d :: ds, k, r, h => by
    unfold kysD at h
    cases hk : kyD d with
    | none => rw [hk] at h; cases h
    | some k0 =>
      rw [hk] at h
      cases hr : kysD ds with
      | none => rw [hr] at h; cases h
      | some kr =>
        rw [hr] at h
        cases h
        rw [List.map_cons, ← rep_ky r.head.1 hk, ← rep_kys r.head.2 hr]
/-- what a look finds -/
def Fnd (K : PySem.W.Frag) (av : Addr → Prop) (H : Hp) (o : Option V) : Option Dt → Prop
  | none => o = none
  | some d => ∃ v, o = some v ∧ Rep K av H v d
theorem look_ok {a : Addr} {u : HO} {c : Oc} {y : V} {dy : Dt} {r : Option Dt} (hu : H a = some u) (hc : ORep K av H u c) (hy : Rep K av H y dy) (h : lookO c dy = some r) : ∃ o, DGet H a y o ∧ Fnd K av H o r := by
  cases c with
  | l ds => cases dy <;> cases h
  | i _ _ => cases dy <;> cases h
  | t es =>
    obtain ⟨kvs, rfl, e1, e2⟩ := hc.dt
    cases dy with
    | tup ks =>
      obtain ⟨b, xs, rfl, hb, lx⟩ := hy.tup_inv
      have h : (kysD ks).map (valD es) = some r := h
      cases hk : kysD ks with
      | none => rw [hk] at h; cases h
      | some k =>
        rw [hk] at h
        cases h
        have hb2 := hb.2
        rw [rep_kys lx hk] at hb2
        refine ⟨_, DGet.t hu hb2, ?_⟩
        rcases repE_val k (⟨e1, e2⟩ : RepE K av H kvs es) with ⟨p, q⟩ | ⟨d, v, p, q, r⟩
        · rw [p, q]
          exact rfl
        · rw [p, q]
          exact ⟨v, rfl, r⟩
    | _ => cases h
  | k es =>
    obtain ⟨kvs, rfl, e1, e2⟩ := hc.dk
    have h' : (kyD dy).map (valD es) = some r := by cases dy <;> exact h
    cases hk : kyD dy with
    | none => rw [hk] at h'; cases h'
    | some k =>
      rw [hk] at h'
      cases h'
      rw [rep_ky hy hk]
      refine ⟨_, DGet.k hu, ?_⟩
      rcases repE_val k (⟨e1, e2⟩ : RepE K av H kvs es) with ⟨p, q⟩ | ⟨d, v, p, q, r⟩
      · rw [p, q]
        exact rfl
      · rw [p, q]
        exact ⟨v, rfl, r⟩
theorem put_ok {a : Addr} {u : HO} {c c' : Oc} {y v : V} {dy d : Dt} (hu : H a = some u) (hc : ORep K av H u c) (hy : Rep K av H y dy) (hv : Rep K av H v d) (h : putO c dy d = some c') (hl : lenO c < sizeLine) : ∃ u', DPut H a y v (upd H a u') ∧ ORep K av H u' c' := by
  cases c with
  | l ds => cases dy <;> cases h
  | i _ _ => cases dy <;> cases h
  | t es =>
    obtain ⟨kvs, rfl, e1, e2⟩ := hc.dt
    cases dy with
    | tup ks =>
      obtain ⟨b, xs, rfl, hb, lx⟩ := hy.tup_inv
      have h : ((kysD ks).map fun k => Oc.t (putD es k d)) = some c' := h
      cases hk : kysD ks with
      | none => rw [hk] at h; cases h
      | some k =>
        rw [hk] at h
        cases h
        have hb2 := hb.2
        rw [rep_kys lx hk] at hb2
        exact ⟨_, DPut.t hu hb2 (by rw [repE_len (⟨e1, e2⟩ : RepE K av H kvs es)]; exact hl), repE_put hv (⟨e1, e2⟩ : RepE K av H kvs es)⟩
    | _ => cases h
  | k es =>
    obtain ⟨kvs, rfl, e1, e2⟩ := hc.dk
    have h' : (kyD dy).map (fun k => Oc.k (putD es k d)) = some c' := by cases dy <;> exact h
    cases hk : kyD dy with
    | none => rw [hk] at h'; cases h'
    | some k =>
      rw [hk] at h'
      cases h'
      rw [rep_ky hy hk]
      exact ⟨_, DPut.k hu (by rw [repE_len (⟨e1, e2⟩ : RepE K av H kvs es)]; exact hl), repE_put hv (⟨e1, e2⟩ : RepE K av H kvs es)⟩
end
section
variable {ι : Type} {K : PySem.W.Frag} {X : ι → Cx} {z : Bool} {pos pos' p2 : Pos} {a b c e f : Expr} {ea eb : EvE}
theorem Sok.ownAt {C : Ctx} {H : Hp} {σ : L2.St} {δ : List Sl} (s : Sok C H σ δ) {i : Nat} {a : Addr} {c : Oc} (h : δ[i]? = some (.own a c)) : σ[i]? = some (some (.ref a)) ∧ ∃ u, H a = some u ∧ ORep C.K (Zd C δ) H u c := by
  obtain ⟨h1, _, _, u, h5, h6⟩ := s.sl i _ h
  exact ⟨h1, u, h5, h6⟩
/-- name = {} -/
theorem ds_dnew {i : Nat} {x : Str} (t : Bool) (hp : ∀ {te : TE} j, PE (X j) e te → PS (X j) (.Assign [.Name x pos'] e pos) (tAsg te (gName i))) (he : ∀ j, PE (X j) e (if t = true then tDNewT else tDNewK)) : DS K X (.Assign [.Name x pos'] e pos) (fun D δ => ∀ a, D.nx (δ.set i (.own a (if t = true then .t [] else .k [])))) := by
  refine ⟨_, fun j => hp j (he j), fun C σ δ H D Dd k s e q => ?_⟩
  subst k
  cases t
  · exact fun p hp => q.nx _ _ _ (s.setO (xs := .dK []) (ds := .k []) hp (Stp.new hp) upd_same ⟨rfl, .nil⟩) (e p)
  · exact fun p hp => q.nx _ _ _ (s.setO (xs := .dT []) (ds := .t []) hp (Stp.new hp) upd_same ⟨rfl, .nil⟩) (e p)
def dDIn (neg : Bool) (i : Nat) (ea : EvE) : EvE := fun δ Q => ea δ fun y => match δ[i]? with
  | some (.own _ c) => ∃ r, lookO c y = some r ∧ Q (.bl (if neg then !r.isSome else r.isSome))
  | _ => False
theorem fnd_some {av : Addr → Prop} {H : Hp} {o : Option V} {r : Option Dt} (h : Fnd K av H o r) : o.isSome = r.isSome := by
  cases r with
  | none => rw [show o = none from h]; rfl
  | some d =>
    obtain ⟨v, rfl, _⟩ := h
    rfl
theorem ve_din {ty : TE} {i : Nat} (v : VE true K ty ea) : VE z K (tDIn ty (tVar i)) (dDIn false i ea) := by
  intro C σ δ H Q Qd k s e q
  subst k
  refine v C σ δ H _ _ rfl s e fun y dy H1 e1 r1 e => ?_
  split at e
  · rename_i a c h
    obtain ⟨r, hr, e⟩ := e
    obtain ⟨h1, u, h5, h6⟩ := (s.step e1).ownAt h
    obtain ⟨o, g, fn⟩ := look_ok h5 h6 r1 hr
    exact ⟨.ref a, h1, a, o, rfl, g, q _ _ H1 e1 (.bl _) (by rw [fnd_some fn]; exact e)⟩
  · exact e.elim
theorem ve_dnotin {ty : TE} {i : Nat} (v : VE true K ty ea) : VE z K (tDNotIn ty (tVar i)) (dDIn true i ea) := by
  intro C σ δ H Q Qd k s e q
  subst k
  refine v C σ δ H _ _ rfl s e fun y dy H1 e1 r1 e => ?_
  split at e
  · rename_i a c h
    obtain ⟨r, hr, e⟩ := e
    obtain ⟨h1, u, h5, h6⟩ := (s.step e1).ownAt h
    obtain ⟨o, g, fn⟩ := look_ok h5 h6 r1 hr
    exact ⟨.ref a, h1, a, o, rfl, g, q _ _ H1 e1 (.bl _) (by rw [fnd_some fn]; exact e)⟩
  · exact e.elim
theorem dt_din {i : Nat} {x : Str} (p : ∀ j, PE (X j) (.Name x p2) (tVar i)) (ha : DE true K X a ea) (hu : ∀ j, (X j).A.units + 1 < cLine) : DT K X (.Compare a [.In] [.Name x p2] pos) (dTst (dDIn false i ea)) := by
  obtain ⟨t, pa, v⟩ := ha
  exact ⟨_, fun j => pt_cmp (pc_din (hu j) (pa j) (p j)) (by rfl), vt_b (ve_din (z := false) v)⟩
theorem dt_dnotin {i : Nat} {x : Str} (p : ∀ j, PE (X j) (.Name x p2) (tVar i)) (ha : DE true K X a ea) (hu : ∀ j, (X j).A.units + 1 < cLine) : DT K X (.Compare a [.NotIn] [.Name x p2] pos) (dTst (dDIn true i ea)) := by
  obtain ⟨t, pa, v⟩ := ha
  exact ⟨_, fun j => pt_cmp (pc_dnotin (hu j) (pa j) (p j)) (by rfl), vt_b (ve_dnotin (z := false) v)⟩
theorem de_din {i : Nat} {x : Str} (p : ∀ j, PE (X j) (.Name x p2) (tVar i)) (ha : DE true K X a ea) (hu : ∀ j, (X j).A.units + 1 < cLine) : DE z K X (.Compare a [.In] [.Name x p2] pos) (dDIn false i ea) := by
  obtain ⟨t, pa, v⟩ := ha
  exact ⟨_, fun j => pe_cmp (pc_din (hu j) (pa j) (p j)) (by rfl), ve_din v⟩
theorem de_dnotin {i : Nat} {x : Str} (p : ∀ j, PE (X j) (.Name x p2) (tVar i)) (ha : DE true K X a ea) (hu : ∀ j, (X j).A.units + 1 < cLine) : DE z K X (.Compare a [.NotIn] [.Name x p2] pos) (dDIn true i ea) := by
  obtain ⟨t, pa, v⟩ := ha
  exact ⟨_, fun j => pe_cmp (pc_dnotin (hu j) (pa j) (p j)) (by rfl), ve_dnotin v⟩
/-- d[y] -/
def dDGet (i : Nat) (ea : EvE) : EvE := fun δ Q => match δ[i]? with
  | some (.own _ c) => ea δ fun y => ∃ d, lookO c y = some (some d) ∧ Q d
  | _ => False
theorem de_dget {i : Nat} {x : Str} (p : ∀ j, PE (X j) (.Name x p2) (tVar i)) (ha : DE true K X a ea) (hs : NoSl a) (hu : ∀ j, (X j).A.units + 1 < cLine) : DE true K X (.Subscript (.Name x p2) a pos) (dDGet i ea) := by
  obtain ⟨t, pa, v⟩ := ha
  refine ⟨_, fun j => pe_dget (hu j) (p j) (pa j) hs, fun C σ δ H Q Qd k s e q => ?_⟩
  subst k
  unfold dDGet at e
  split at e
  · rename_i a c h
    refine ⟨.ref a, (s.ownAt h).1, v C σ δ H _ _ rfl s e fun y dy H1 e1 r1 e => ?_⟩
    obtain ⟨d, hr, e⟩ := e
    obtain ⟨h1, u, h5, h6⟩ := (s.step e1).ownAt h
    obtain ⟨o, g, w, rfl, rw'⟩ := look_ok h5 h6 r1 hr
    exact ⟨a, w, rfl, g, q _ _ H1 e1 rw' e⟩
  · exact e.elim
/-- d[y] = v -/
def dDPut (i : Nat) (eb ea : EvE) : EvS := fun D δ => ea δ fun d => match δ[i]? with
  | some (.own a c) => eb δ fun y => ∃ c', putO c y d = some c' ∧ lenO c < sizeLine ∧ D.nx (δ.set i (.own a c'))
  | _ => False
theorem ds_dput {i : Nat} {x : Str} (p : ∀ j, PE (X j) (.Name x p2) (tVar i)) (hv : DE true K X e ea) (hb : DE true K X b eb) (hu : ∀ j, (X j).A.units + 1 < cLine) (hs : ∀ j, swapsWith e (some (.Subscript (.Name x p2) b pos')) pos.line (X j).env = pure false := by intro _; rfl) : DS K X (.Assign [.Subscript (.Name x p2) b pos'] e pos) (dDPut i eb ea) := by
  obtain ⟨t, pa, v⟩ := hv
  obtain ⟨t2, pb, v2⟩ := hb
  refine ⟨_, fun j => ps_dput (hu j) (p j) (pb j) (pa j) (hs j), fun C σ δ H D Dd k s e q => ?_⟩
  subst k
  refine v C σ δ H _ _ rfl s e fun w d H1 e1 r1 e => ?_
  split at e
  · rename_i a c h
    have s1 := s.step e1
    refine ⟨.ref a, (s1.ownAt h).1, v2 C σ δ H1 _ _ rfl s1 e fun y dy H2 e2 r2 e => ?_⟩
    obtain ⟨c', hc, hl, e⟩ := e
    have s2 := s1.step e2
    obtain ⟨h1, u, h5, h6⟩ := s2.ownAt h
    obtain ⟨u', dp, rp⟩ := put_ok h5 h6 r2 (rep_step s1 e2 r1) hc hl
    exact ⟨a, _, rfl, dp, q.nx _ _ _ (s2.upO h rp) e⟩
  · exact e.elim
/-- d.get(y, x) -/
def dDGet2 (i : Nat) (ea eb : EvE) : EvE := fun δ Q => match δ[i]? with
  | some (.own _ c) => ea δ fun y => eb δ fun w => ∃ r, lookO c y = some r ∧ Q (r.getD w)
  | _ => False
end
end Dl
set_option maxHeartbeats 1000000
/-! max(x, default=i), of ints; a range by steps -/
namespace Dl
open PySem PySem.Spec PyProof.Rows L2 Lcn Sq
def maxOr (ns : List Int) (i : Int) : Int := match ns with
  | [] => i
  | n :: r => r.foldl max n
def rMaxDef (K : PySem.W.Frag) : List V → List V → Hp → VK → Prop := fun vs zs H Q => ∃ a k ns i, vs = [.ref a] ∧ Zm.sqK k K H a (ns.map V.int) ∧ zs = [.int i] ∧ Q (.int (maxOr ns i)) H
theorem dp_ints {K : PySem.W.Frag} {H : Hp} : ∀ ns : List Int, DpAll K H (ns.map V.int) (ns.map PyData.int)
  | [] => .nil
  | n :: ns => .cons (.int n) (dp_ints ns)
theorem alike_ints (ns : List Int) : PySem.W.AlikeAll (ns.map PyData.int) := by
  refine ⟨fun x hx y hy => ?_, fun x hx => ?_⟩
  · obtain ⟨i, _, rfl⟩ := List.mem_map.mp hx
    obtain ⟨j, _, rfl⟩ := List.mem_map.mp hy
    rfl
  · obtain ⟨i, _, rfl⟩ := List.mem_map.mp hx
    exact fun z => nomatch z
theorem depth_ints : ∀ ns : List Int, PyData.depthAll (ns.map PyData.int) = 0
  | [] => by simp [PyData.depthAll]
  | n :: ns => by
    rw [List.map_cons, PyData.depthAll, depth_ints ns]
    simp [PyData.depth]
theorem max_fin {h' : Heap} {ns : List Int} {its : List Value} {n : Int} {r : List Int} {i : Nat} {v : Value} {bs : List Addr} (e : ns = n :: r) (rv : Vals (ns.map V.int) its) (hv : its.toArray[i]? = some v) (hr : Reads h' v (PySem.W.maxD (.int n) (r.map .int)) bs) : RelV (.int (maxOr ns 0)) v := by
  rw [PySem.W.maxD_ints] at hr
  have hv' : its[i]? = some v := by simpa using hv
  have : ∃ k t, v = .int k t := by
    have hi : i < its.length := (List.getElem?_eq_some_iff.mp hv').1
    have hl := rv.length
    have hx : (ns.map V.int)[i]? = some (V.int (ns[i]'(by rw [List.length_map] at hl; omega))) := by
      have : i < ns.length := by rw [List.length_map] at hl; omega
      simp [List.getElem?_map, this]
    obtain ⟨u, e1, r1⟩ := rv.get hx
    rw [hv'] at e1
    cases e1
    obtain ⟨t, rfl⟩ := r1
    exact ⟨_, t, rfl⟩
  obtain ⟨k, t, rfl⟩ := this
  cases hr
  subst e
  exact ⟨t, rfl⟩
theorem cr_maxDef {X : Cx} {K : PySem.W.Frag} (hc : X.calm = true) (hK : X.K = K) (hu : X.A.units + 1 < cLine) : CallRK X (.builtin "max") ["default"] (rMaxDef K) := by
  intro pins s σ H xs zs us ws Q I rx rz h
  subst hK
  obtain ⟨a, k, ns, i, rfl, hq, rfl, q⟩ := h
  rw [Vals.ref1 rx]
  cases rz with
  | cons r1 r2 =>
    cases r2
    obtain ⟨t, rfl⟩ := r1
    have fin : ∀ h' tk v, (∀ b o, s.heap.get? b = some o → h'.get? b = some o) → RelV (.int (maxOr ns i)) v → EP X pins σ Q v { s with heap := h', toks := tk } := fun h' tk v k r => ⟨_, H, I.kept (t' := tk) k, r, q⟩
    have same : ∀ y ys, ns.map PyData.int = y :: ys → ∃ n r, ns = n :: r ∧ y = .int n ∧ ys = r.map .int := fun y ys e => by
      cases ns with
      | nil => cases e
      | cons n r =>
        cases e
        exact ⟨n, r, rfl, rfl, rfl⟩
    have mo : ∀ n r, ns = n :: r → maxOr ns i = maxOr ns 0 := fun n r e => by rw [e]; rfl
    cases k
    · obtain ⟨its, rv, p, _⟩ := I.tuple hq
      obtain ⟨as, hr⟩ := Dp.readsAll I (ns.map .int) (ns.map V.int) its (dp_ints ns) rv
      refine PySem.W.max_tuple_default (vs := its.toArray) (xs := ns.map .int) (I.ok.hd hc) p hr (alike_ints ns) (by rw [depth_ints]; omega) (fun e h' tk k => fin h' tk _ k ?_) (fun y ys j v h' tk bs e hv hr k => fin h' tk v k ?_)
      · cases ns with
        | nil => exact ⟨t, rfl⟩
        | cons => cases e
      · obtain ⟨n, r, e1, rfl, rfl⟩ := same y ys e
        rw [mo n r e1]
        exact max_fin e1 rv hv hr
    · obtain ⟨its, rv, p, _⟩ := I.list hq
      obtain ⟨as, hr⟩ := Dp.readsAll I (ns.map .int) (ns.map V.int) its (dp_ints ns) rv
      refine PySem.W.max_list_default (vs := its.toArray) (xs := ns.map .int) (I.ok.hd hc) p.isList hr (alike_ints ns) (by rw [depth_ints]; omega) (fun e h' tk k => fin h' tk _ k ?_) (fun y ys j v h' tk bs e hv hr k => fin h' tk v k ?_)
      · cases ns with
        | nil => exact ⟨t, rfl⟩
        | cons => cases e
      · obtain ⟨n, r, e1, rfl, rfl⟩ := same y ys e
        rw [mo n r e1]
        exact max_fin e1 rv hv hr
section
variable {ι : Type} {K : PySem.W.Frag} {X : ι → Cx} {z o : Bool} {pos p2 kpos : Pos} {a b c e tg iter : Expr} {es : List Expr} {ea eb ec : EvE} {et : EvA}
def dMaxDef (ea eb : EvE) : EvE := fun δ Q => ea δ fun x => eb δ fun y => ∃ ns i, itemsD x = some (ns.map .int) ∧ y = .int i ∧ Q (.int (maxOr ns i))
theorem de_maxDef {p : Pos} {nm : Option Str} (ha : DE z K X a ea) (hb : DE z K X b eb) (hg : ∀ i, Gl (X i) "max") (hm : ∀ i, (X i).mg "max" = none) (hu : ∀ i, (X i).A.units + 1 < cLine) (hc : ∀ i, (X i).calm = true := by intro _; rfl) (hK : ∀ i, (X i).K = K := by intro _; rfl)
    (hs : ∀ i, starEach [a] (X i).env = (false, eval a (X i).env) :: starEach [] (X i).env := by intro _; rfl) (he : ∀ i, backTo pos (starEach [a] (X i).env) = (false, eval a (X i).env) :: backTo pos (starEach [] (X i).env) := by intro _; rfl) (hpl : ∀ i, (backTo pos (starEach [a] (X i).env)).any (·.1) = false := by intro _; rfl)
    (hall : ∀ i, (backToKw pos (keywordEach [⟨nm, b, kpos⟩] (X i).env)).all (·.1.isSome) = true := by intro _; rfl) (hnone : ∀ i, (backToKw pos (keywordEach [⟨nm, b, kpos⟩] (X i).env)).any (·.1.isNone) = false := by intro _; rfl) (hks : ∀ i, (backToKw pos (keywordEach [⟨nm, b, kpos⟩] (X i).env)).filterMap (·.1) = [("default" : Str)] := by intro _; rfl) :
    DE z K X (.Call (.Name "max" p) [a] [⟨nm, b, kpos⟩] pos) (dMaxDef ea eb) := by
  obtain ⟨ta, pa, va⟩ := ha
  obtain ⟨tb, pb, vb⟩ := hb
  refine ⟨_, fun i => pe_callBK (cr_maxDef (hc i) (hK i) (hu i)) (hg i) (hm i) (by decide +kernel) (pa_cons (pa i) pa_nil (hs i)) (pk_cons (pb i) pk_nil) (he := he i) (hpl := hpl i) (hall := hall i) (hnone := hnone i) (hks := hks i), fun C σ δ H Q Qd k s e q => ?_⟩
  subst k
  refine va C σ δ H _ _ rfl s e fun x dx H1 e1 r1 e => ?_
  refine vb C σ δ H1 _ _ rfl (s.step e1) e fun y dy H2 e2 r2 e => ?_
  obtain ⟨ns, i, hx, rfl, e⟩ := e
  obtain ⟨kk, a', xs, rfl, g1, l1, k1⟩ := rep_items (rep_st (s.step e1) e2 r1) hx
  rw [repl_ints l1] at g1
  exact ⟨a', kk, ns, i, rfl, g1, by rw [r2.int_inv], q _ _ H2 (e1.trans e2) (.int _) e⟩
/-- range(i, j, c) -/
def rngC (lo c : Int) (n : Nat) : List Dt := (List.range n).map fun (i : Nat) => Dt.int (lo + (i : Int) * c)
def ivR3 (et : EvA) : EvA := fun δ Q => et δ fun ds => match ds with
  | [.int i, .int j, .int c] => ∃ n, RgC i j c n ∧ Q (rngC i c n)
  | _ => False
theorem di_range3 {p : Pos} (hg : ∀ i, Gl (X i) "range") (hm : ∀ i, (X i).mg "range" = none) (ha : DA false K X [a, b, c] et) (hs : ∀ i, starEach [a, b, c] (X i).env = (false, eval a (X i).env) :: starEach [b, c] (X i).env := by intro _; rfl) (hpl : ∀ i, (backTo pos (starEach [b, c] (X i).env)).any (·.1) = false := by intro _; rfl) : DI o K X tg (.Call (.Name "range" p) [a, b, c] [] pos) (ivR3 et) := by
  obtain ⟨t, pa, v⟩ := ha
  refine ⟨_, fun i => pi_range3 (hg i) (hm i) (pa i) (hs i) (hpl i), fun C σ δ H R Qd k s e q => ?_⟩
  refine v C σ δ H _ _ k s e fun vs ds H1 e1 r e => ?_
  split at e
  · rename_i i j c
    obtain ⟨n, hr, e⟩ := e
    have hl := r.l
    match vs, hl, r with
    | [x, y, w], _, r =>
      refine ⟨i, j, c, n, by rw [r.head.1.int_inv, r.head.2.head.1.int_inv, r.head.2.head.2.head.1.int_inv], hr, q _ _ _ _ (rngC i c n) H1 (fun _ => True) [] walk_rangeC (by simp [rngC]) e1 (fun _ _ => trivial) (fun _ _ => trivial) (fun g m => nomatch m) ⟨fun _ _ _ _ _ => trivial, fun l d av H x H' hd _ _ _ y => ?_⟩ e⟩
      have e2 : H' = H ∧ x = .int (i + (l : Int) * c) := y
      obtain ⟨rfl, rfl⟩ := e2
      unfold rngC at hd
      rw [List.getElem?_map] at hd
      obtain ⟨j', h1, h2⟩ := Option.map_eq_some_iff.mp hd
      have : j' = l := by
        have := (List.getElem?_eq_some_iff.mp h1).2
        simpa using this.symm
      subst this
      subst h2
      exact ⟨Same.refl _, .int _⟩
  · exact e.elim
end
end Dl
set_option maxHeartbeats 1000000
/-! generators over data -/
namespace Dl
open PySem PySem.Spec PyProof.Rows L2 Lcn Sq
structure DGEnds where
  nx : List Dt → List Sl → Prop
  rt : List Dt → Dt → Prop
  bk : List Dt → List Sl → Prop := fun _ _ => False
  ct : List Dt → List Sl → Prop := fun _ _ => False
structure GEndsR (C : Ctx) (D : GEnds) (Dd : DGEnds) : Prop where
  nx : ∀ ys yd σ δ H, Sok C H σ δ → RepL C.K (Zd C δ) H ys yd → Dd.nx yd δ → D.nx ys σ H
  rt : ∀ ys yd v d H, Stp C.S C.H0 H → Rep C.K C.av H v d → RepL C.K C.av H ys yd → Dd.rt yd d → D.rt ys v H
  bk : ∀ ys yd σ δ H, Sok C H σ δ → RepL C.K (Zd C δ) H ys yd → Dd.bk yd δ → D.bk ys σ H
  ct : ∀ ys yd σ δ H, Sok C H σ δ → RepL C.K (Zd C δ) H ys yd → Dd.ct yd δ → D.ct ys σ H
abbrev EvG := DGEnds → List Dt → List Sl → Prop
def VGn (K : PySem.W.Frag) (t : TGn) (ev : EvG) : Prop := ∀ (C : Ctx) (σ : L2.St) (δ : List Sl) (H : Hp) (ys : List V) (yd : List Dt) (D : GEnds) (Dd : DGEnds), C.K = K → Sok C H σ δ → RepL C.K (Zd C δ) H ys yd → ev Dd yd δ → GEndsR C D Dd → t D ys σ H
def DGn {ι : Type} (K : PySem.W.Frag) (X : ι → Cx) (st : Stmt) (ev : EvG) : Prop := ∃ t, (∀ i, GS (X i) st t) ∧ VGn K t ev
def DGns {ι : Type} (K : PySem.W.Frag) (X : ι → Cx) (st : List Stmt) (ev : EvG) : Prop := ∃ t, (∀ i, GSs (X i) st t) ∧ VGn K t ev
theorem ghost_repl {K : PySem.W.Frag} {av : Addr → Prop} {H : Hp} {ys : List V} {yd : List Dt} (l : ys.length = yd.length) (h : ∀ g, g ∈ ys.zip yd → Rep K av H g.1 g.2) : RepL K av H ys yd := ⟨l, fun i x d h1 h2 => h (x, d) (List.mem_iff_getElem?.mpr ⟨i, by rw [List.getElem?_zip_eq_some]; exact ⟨h1, h2⟩⟩)⟩
section
variable {ι : Type} {K : PySem.W.Frag} {X : ι → Cx} {z o : Bool} {pos p2 yp : Pos} {c e : Expr} {es : List Expr} {ea : EvE} {tv : EvT} {st : Stmt} {rest body : List Stmt} {sv : EvS} {gv gw : EvG}
theorem dgn_plain (h : DS K X st sv) : DGn K X st (fun D yd δ => sv { nx := D.nx yd, rt := D.rt yd, bk := D.bk yd, ct := D.ct yd } δ) := by
  obtain ⟨t, p, v⟩ := h
  refine ⟨_, fun i => gs_ps (p i), fun C σ δ H ys yd D Dd k s r e q => ?_⟩
  have l := r.l
  have s2 : Sok { C with gh := ys.zip yd ++ C.gh } H σ δ := s.ghost (repl_ghost (C := C) r)
  refine v { C with gh := ys.zip yd ++ C.gh } σ δ H _ _ k s2 e ⟨fun σ δ H s e => ?_, fun v d H st r gh e => ?_, fun σ δ H s e => ?_, fun σ δ H s e => ?_⟩
  · exact q.nx ys yd σ δ H s.unghost.1 (ghost_repl l s.unghost.2) e
  · exact q.rt ys yd v d H st r (ghost_repl l fun g m => gh g (List.mem_append_left _ m)) e
  · exact q.bk ys yd σ δ H s.unghost.1 (ghost_repl l s.unghost.2) e
  · exact q.ct ys yd σ δ H s.unghost.1 (ghost_repl l s.unghost.2) e
theorem dgns_nil : DGns K X [] (fun D yd δ => D.nx yd δ) := ⟨_, fun _ => gss_nil, fun C σ δ H ys yd D Dd k s r e q => q.nx ys yd σ δ H s r e⟩
def dgSeq (gv gw : EvG) : EvG := fun D yd δ => gv { D with nx := gw D } yd δ
theorem dgns_cons (h1 : DGn K X st gv) (h2 : DGns K X rest gw) : DGns K X (st :: rest) (dgSeq gv gw) := by
  obtain ⟨t, p, v⟩ := h1
  obtain ⟨t2, p2, v2⟩ := h2
  refine ⟨_, fun i => gss_cons (p i) (p2 i), fun C σ δ H ys yd D Dd k s r e q => ?_⟩
  exact v C σ δ H ys yd _ _ k s r e ⟨fun ys yd σ δ H s r e => v2 C σ δ H ys yd D Dd k s r e q, q.rt, q.bk, q.ct⟩
theorem dgn_yield (h : DE true K X e ea) (hco : ∀ i, (X i).env.scope.isCoroutine = false := by intro _; rfl) (hi : ∀ i, interactive (X i).env = false := by intro _; rfl) : DGn K X (.Expr (.Yield (some e) yp) pos) (fun D yd δ => yd.length < sizeLine ∧ ea δ fun d => D.nx (yd ++ [d]) δ) := by
  obtain ⟨t, p, v⟩ := h
  refine ⟨_, fun i => gs_yield (p i) (hco i) (hi i), fun C σ δ H ys yd D Dd k s r e q => ⟨by rw [r.l]; exact e.1, ?_⟩⟩
  subst k
  refine v C σ δ H _ _ rfl s e.2 fun x d H1 e1 rx e => q.nx _ _ σ δ H1 (s.step e1) (RepL.append ?_ (.cons rx .nil)) e
  exact ⟨r.l, fun i x d h1 h2 => rep_step s e1 (r.f i x d h1 h2)⟩
def dgWhile (tv : EvT) (gv : EvG) : EvG := fun D yd δ => ∃ W : Nat → List Dt → List Sl → Prop, (∃ m, W m yd δ) ∧ ∀ m yd δ, W m yd δ → tv δ fun b => if b = true then gv { nx := fun yd' δ' => ∃ m', m' < m ∧ W m' yd' δ', rt := D.rt, bk := D.nx, ct := fun yd' δ' => ∃ m', m' < m ∧ W m' yd' δ' } yd δ else D.nx yd δ
theorem dgn_while (hc : DT K X c tv) (hb : DGns K X body gv) (hpo : ∀ i, PassesOwn (model (X i).prog (X i).w) (X i).A (X i).env (X i).xe) : DGn K X (.While c body [] pos) (dgWhile tv gv) := by
  obtain ⟨t, p, v⟩ := hc
  obtain ⟨tb, pb, vb⟩ := hb
  refine ⟨_, fun i => gs_while (hpo i) (p i) (pb i), fun C σ δ H ys yd D Dd k s r e q => ?_⟩
  subst k
  obtain ⟨W, ⟨m0, w0⟩, e⟩ := e
  refine ⟨fun m ys σ H => ∃ yd δ, Sok C H σ δ ∧ RepL C.K (Zd C δ) H ys yd ∧ W m yd δ, ⟨m0, yd, δ, s, r, w0⟩, ?_⟩
  rintro m ys σ H ⟨yd, δ, s, r, w⟩
  refine v C σ δ H _ _ rfl s (e m yd δ w) fun b H1 e1 e => ?_
  have r1 : RepL C.K (Zd C δ) H1 ys yd := ⟨r.l, fun i x d h1 h2 => rep_step s e1 (r.f i x d h1 h2)⟩
  cases b
  · exact q.nx ys yd σ δ H1 (s.step e1) r1 e
  · refine ⟨fun ys' σ' H' => ∃ m', m' < m ∧ ∃ yd' δ', Sok C H' σ' δ' ∧ RepL C.K (Zd C δ') H' ys' yd' ∧ W m' yd' δ', fun ys' σ' H' ⟨m', hm, yd', δ', s', r', w'⟩ => ⟨m', hm, yd', δ', s', r', w'⟩, ?_⟩
    exact vb C σ δ H1 ys yd _ _ rfl (s.step e1) r1 e ⟨fun ys yd σ δ H s r ⟨m', hm, w'⟩ => ⟨m', hm, yd, δ, s, r, w'⟩, q.rt, q.nx, fun ys yd σ δ H s r ⟨m', hm, w'⟩ => ⟨m', hm, yd, δ, s, r, w'⟩⟩
end
abbrev SpcG := List Sl → (List Dt → Prop) → Prop
def dspG (K : PySem.W.Frag) (n : Nat) (sp : SpcG) : SpG := fun vs H Q _ => ∃ (S : Sc) (av : Addr → Prop) (δ : List Sl) (Qd : List Dt → Prop), (∀ b, sa S b → av b) ∧ Al av H ∧ Gs S H ∧ ArgsOk S K av H vs δ ∧ δ.length = n ∧ sp δ Qd ∧ ∀ ys yd H', Stp S H H' → RepL K av H' ys yd → Qd yd → Q ys H'
section
variable {P : Program} {w : World} {K : PySem.W.Frag} {mg : Str → Option Value} {base : Heap}
theorem gfn_d {x qual : Str} {params : Arguments} {body : List Stmt} {scope : Scope} {dvs : List V} {kws : List (Str × V)} {f : Addr} {fd : FuncData} {N ps : List Str} {k : Nat} {sp : SpcG} {sv : EvG} (F : FunD K x qual params body scope dvs kws f fd) (S : GScope N ps scope)
    (hbody : ∀ (cdv : Value) (A : Around) (outer : List Env) (s : Shared) (H : Hp) (E : XK) (pn : List (Addr × Obj)), Room k (A.deeper (PyProof.Rows.envOfC qual scope s.heap.objs.size f cdv)) → DGns K (fun _ : Unit => gcxOf P w K mg base N qual scope f cdv A outer s H E pn) body sv)
    (hsp : ∀ (δ : List Sl) (Qd : List Dt → Prop), δ.length = ps.length → sp δ Qd → sv { nx := fun yd _ => Qd yd, rt := fun yd d => d = .non ∧ Qd yd } [] (st0 N δ)) : GFn P w K mg base (k + 1) f fd ps (dspG K ps.length sp) := by
  obtain ⟨oc, od, dV, kV, doc, pm, an, cdv, ct, osl, rfl, lk, hcd, _, _⟩ := F.ex
  refine gfn_of lk hcd S (fun vs H Q E h => ?_) fun A outer s H vs Q E pn hr h => ?_
  · obtain ⟨S, av, δ, Qd, _, _, _, a, l, _⟩ := h
    rw [a.l, l]
  · obtain ⟨S, av, δ, Qd, h1, h2, h3, a, l, hs, q⟩ := h
    obtain ⟨ts, p, v⟩ := hbody cdv A outer s H E pn hr
    refine ⟨ts, p (), v ⟨K, S, av, H, []⟩ _ _ H [] [] _ _ rfl (sok_start h1 h2 h3 a) .nil (hsp δ Qd l hs) ⟨fun ys yd σ δ H' s r e => q ys yd H' s.st (r.mono fun b z => .inl z) e, fun ys yd v d H' e rv r e2 => ?_, fun _ _ _ _ _ _ _ e => e.elim, fun _ _ _ _ _ _ _ e => e.elim⟩⟩
    obtain ⟨rfl, e2⟩ := e2
    exact ⟨rv.non_inv, q ys yd H' e r e2⟩
end
section
variable {ι : Type} {K : PySem.W.Frag} {X : ι → Cx} {z : Bool} {pos pos2 : Pos} {e : Expr} {es : List Expr} {et : EvLs}
theorem none_back {C : Ctx} {H H' : Hp} {σ : L2.St} {δ : List Sl} (s : Sok C H σ δ) (e : Stp C.S H H') {p : Addr} (n : H' p = none) : H p = none := by
  cases x : H p with
  | none => rfl
  | some u =>
    by_cases c : ch C.S p
    · exact absurd (s.avs p (ch_sa c)) ((s.step e).ava.na n)
    · rw [e.keep p u c x] at n
      cases n
/-- list(g(..)), g a generator -/
theorem dn_listG {x nm : Str} {p p3 : Pos} {n : Nat} {sp : SpcG} (hp : ∀ {t : TA} i, PA (X i) (e :: es) t → PE (X i) (.Call (.Name nm p3) [.Call (.Name x p) (e :: es) [] pos] [] pos2) (tListG (tCallG (dspG K n sp) [] (fun _ _ _ => False) t))) (ha : DLs true K X (e :: es) et) : DN K X (.Call (.Name nm p3) [.Call (.Name x p) (e :: es) [] pos] [] pos2) (fun δ Q => et δ fun ss => ss.length = n ∧ sp ss Q) := by
  obtain ⟨t, pa, v⟩ := ha
  refine ⟨_, fun i => hp i (pa i), fun C σ δ H Q Qd k s e q => ?_⟩
  subst k
  refine v C σ δ H _ _ rfl s e fun vs ss H1 e1 r e => ?_
  have s1 := s.step e1
  refine ⟨C.S, Zd C δ, ss, Qd, fun b hb => .inl (s.avs b hb), s1.alz, s1.g, ?_, e.1, e.2, fun ys yd H2 e2 r2 qd pp hp2 => ?_⟩
  · rw [List.append_nil]
    exact r
  · have e12 := e1.trans e2
    exact q pp ys yd _ (none_back s e12 hp2) (e12.trans (Stp.new hp2)) upd_same (r2.move (fun b u _ h => same_new hp2 b u h) fun b zb => zb.imp id fun (zb : b = pp) => by rw [zb]; exact hp2) qd
theorem noStop0 {K : PySem.W.Frag} : NoStop K (fun _ _ _ => False) := fun _ _ _ h => h.elim
theorem passesF {X : Cx} : Passes (L2.CX X.prog X.w) X (fun _ _ _ => False) := fun _ _ _ _ _ _ _ c => by
  obtain ⟨_, _, _, _, _, _, _, _, _, _, _, _, h⟩ := c
  exact h.elim
end
end Dl
set_option maxHeartbeats 4000000
/-! t * 0, t * 1: the other ways of a tuple taken so many times -/
namespace Tm
open PySem PySem.Spec PyProof.Rows L2
/-- taken once: itself -/
theorem once_tuple (l : Addr) (its : Array Value) (n : Nat) (dd : Option Addr) (sl : Array (Option Value)) (u : Tok) :
    Meets (Builtin.«tuple.__mul__» ⟨[.ref l, .int 1 u], []⟩) (fun _ R s => s.heap.get? l = some { cls := .type "tuple", dict := dd, data := .seq its n, slots := sl } ∧ R (.ok (.ret (Value.ref l))) s) :=
  .of_wp fun prog w A R s h => by
    obtain ⟨hp, g, d, tk, os⟩ := s
    obtain ⟨hl, h⟩ := h
    have f1 := AutoSeq1.idx_int
    have hs : (its.isEmpty || (1 : Int) == 1) = true := by simp
    wp_walk using wpAny_loadPart' hl
    repeat (first
      | (refine wpAny_ite_false (by decide) ?_; wp_walk using wpAny_loadPart' hl)
      | (refine wpAny_ite_true hs ?_; wp_walk using wpAny_loadPart' hl))
    exact ⟨_, rfl, h⟩
/-- taken no time: a new empty one -/
theorem none_tuple (l : Addr) (its : Array Value) (n : Nat) (dd : Option Addr) (sl : Array (Option Value)) (u : Tok) (hi : its.isEmpty = false) :
    Meets (Builtin.«tuple.__mul__» ⟨[.ref l, .int 0 u], []⟩) (fun _ R s => s.heap.get? l = some { cls := .type "tuple", dict := dd, data := .seq its n, slots := sl } ∧ R (.ok (.ret (Value.ref s.heap.objs.size))) { s with heap := s.heap.push { cls := Value.type "tuple", data := Data.seq #[] }, toks := s.toks }) :=
  .of_wp fun prog w A R s h => by
    obtain ⟨hp, g, d, tk, os⟩ := s
    obtain ⟨hl, h⟩ := h
    have f1 := AutoSeq1.idx_int
    have hs : (its.isEmpty || (0 : Int) == 1) = false := by rw [hi]; rfl
    wp_walk using wpAny_loadPart' hl
    exact ⟨_, rfl, h⟩
/-- once, or no time: rR -/
def rFew (K : PySem.W.Frag) : R2 := fun x y H Q => ∃ l xs, x = .ref l ∧ SqT K H l xs ∧ ((y = .int 1 ∧ Q (.ref l) H) ∨ (y = .int 0 ∧ xs ≠ [] ∧ ∀ p, H p = none → Q (.ref p) (upd H p (.tup []))))
theorem road {X : Cx} {s : Shared} {l : Addr} {its : Array Value} {n : Nat} {dd : Option Addr} {sl : Array (Option Value)} {k : Int} {t : Tok} {Q : Value → Shared → Prop}
    (ho : s.heap.get? l = some { cls := .type "tuple", dict := dd, data := .seq its n, slots := sl })
    (hw : wpAny (model X.prog X.w) X.A (call (.builtin "tuple.__mul__") [.ref l, .int k t]) Q X.xe s) : wpAny (model X.prog X.w) X.A (binaryOp .Mult (.ref l) (.int k t)) Q X.xe s := by
  have ty : s.TypeIs (.ref l) "tuple" := ⟨_, ho, rfl⟩
  have nofill := noFill_tuple_mul
  refine wpAny_binaryOp_repeat_ref (T := "tuple") (by decide) ty (fun s' => typeIs_int s' k t) nofill F.fills_int_mul F.slot_int_rmul repeat_tuple F.slot_int_index.lookup ?_
  exact call_meets F.slot_int_rmul (typeIs_int s k t) F.entry_int_rmul (F.args_int_rmul_2 _ _) (int_rmul_tuple k t l its n dd sl) ⟨ho, rfl, ty, hw⟩
theorem op_few {X : Cx} : OpR X (binaryOp .Mult) (rFew X.K) := by
  intro pins s σ H x y v u Q I rx ry h
  obtain ⟨l, xs, rfl, hT, h⟩ := h
  cases rx
  obtain ⟨its, r, ⟨⟨cls, dd, data, sl⟩, ho, hc, n, hd⟩, hs⟩ := I.tuple hT
  dsimp only at hc hd
  subst hc hd
  rcases h with ⟨rfl, q⟩ | ⟨rfl, ne, q⟩
  · obtain ⟨t, rfl⟩ := ry
    refine road ho (call_meets F.slot_tuple_mul ⟨_, ho, rfl⟩ F.entry_tuple_mul (F.args_tuple_mul_2 _ _) (once_tuple l its.toArray n dd sl t) ⟨ho, ?_⟩)
    exact ⟨.ref l, H, I, rfl, q⟩
  · obtain ⟨t, rfl⟩ := ry
    have hi : its.toArray.isEmpty = false := by
      have hl := r.length
      cases its with
      | nil => exact absurd (List.eq_nil_of_length_eq_zero hl) ne
      | cons a b => rfl
    refine road ho (call_meets F.slot_tuple_mul ⟨_, ho, rfl⟩ F.entry_tuple_mul (F.args_tuple_mul_2 _ _) (none_tuple l its.toArray n dd sl t hi) ⟨ho, ?_⟩)
    refine ⟨.ref s.heap.objs.size, _, I.laid (t' := s.toks) (o := .tup []) (fun b ob q => Heap.get?_push_of_some _ q) (Nat.le_refl _) ?_, rfl, q _ (I.hok.fresh (Nat.le_refl _))⟩
    exact ⟨Nat.zero_le _, [], .nil, IsTup.new _ _⟩
end Tm
set_option maxHeartbeats 1000000
namespace Dl
open PySem PySem.Spec PyProof.Rows L2 Lcn Sq
section
variable {K : PySem.W.Frag} {X : Cx}
/-- a * b with tuples too -/
def dMulA (x y : Dt) (Q : Dt → Prop) : Prop := match x, y with
  | .int i, .int j => CMulW i j ∧ Q (.int (i * j))
  | .lst a, .int k => -(2 ^ 63) ≤ k ∧ k < 2 ^ 63 ∧ a.length * k.toNat ≤ sizeLine ∧ Q (.lst (List.replicate k.toNat a).flatten)
  | .tup a, .int k => a ≠ [] ∧ a.length ≤ 1000 ∧ 0 ≤ k ∧ k ≤ 1000 ∧ Q (.tup (List.replicate k.toNat a).flatten)
  | _, _ => False
def rMulA (K : PySem.W.Frag) : R2 := fun x y H Q => rMulAll x y H Q ∨ (Tm.rFew K x y H Q ∨ rRepT K x y H Q)
theorem op_mulA (hK : X.K = K) : OpR X (binaryOp .Mult) (rMulA K) := by
  subst hK
  exact op_mulAll.or (Tm.op_few.or op_repT)
theorem ro_mulA : ROk K (rMulA K) dMulA := by
  intro av H x y dx dy Q Qd al rx ry d q
  unfold dMulA at d
  split at d
  · exact .inl (ro_mul (K := K) av H x y _ _ Q Qd al rx ry d q)
  · exact .inl (ro_mul (K := K) av H x y _ _ Q Qd al rx ry d q)
  · rename_i a k
    obtain ⟨d1, d2, d3, d4, d⟩ := d
    have rx' := rx
    obtain ⟨p, xs, rfl, hx, lx⟩ := rx.tup_inv
    have ne : xs ≠ [] := fun e => d1 (by
      have := lx.l
      rw [e] at this
      exact List.eq_nil_of_length_eq_zero this.symm)
    have ey := ry.int_inv
    by_cases h0 : k = 0
    · subst h0
      exact .inr (.inl ⟨p, xs, rfl, hx.sq, .inr ⟨ey, ne, fun b hb => q _ _ _ (same_new hb) (rep_newT al hb .nil) d⟩⟩)
    · by_cases h1 : k = 1
      · subst h1
        refine .inr (.inl ⟨p, xs, rfl, hx.sq, .inl ⟨ey, q _ _ H (Same.refl H) rx' ?_⟩⟩)
        have e : (List.replicate (1 : Int).toNat a).flatten = a := by
          show (List.replicate 1 a).flatten = a
          simp
        rw [e] at d
        exact d
      · exact .inr (.inr ⟨p, k, xs, rfl, ey, hx.sq, ne, by omega, d4, by rw [lx.l]; exact d2, fun b hb => q _ _ _ (same_new hb) (rep_newT al hb (repl_flat lx _)) d⟩)
  · exact d.elim
end
section
variable {ι : Type} {K : PySem.W.Frag} {X : ι → Cx} {z o : Bool} {pos p2 apos cpos : Pos} {a b c e tg iter : Expr} {es : List Expr} {ea eb ec : EvE} {et : EvA}
theorem de_mulA (ha : DE z K X a ea) (hb : DE z K X b eb) (hK : ∀ i, (X i).K = K := by intro _; rfl) : DE z K X (.BinOp a .Mult b pos) (dOp dMulA ea eb) := de_op (fun i => op_mulA (hK i)) ro_mulA ha hb
/-- xs.index(y), xs a list, y in it -/
def dIndex (ea eb : EvE) : EvE := fun δ Q => ea δ fun x => match x with
  | .lst ds => eb δ fun y => shD (.lst ds) = true ∧ shD y = true ∧ ∃ j z, ds[j]? = some z ∧ eqD z y = true ∧ (∀ (m : Nat) (z' : Dt), m < j → ds[m]? = some z' → eqD z' y = false) ∧ Q (.int (j : Nat))
  | _ => False
theorem pyL_get : ∀ {ds : List Dt} {j : Nat}, (pyL ds)[j]? = (ds[j]?).map py
  | [], j => by simp [pyL]
  | d :: r, 0 => by simp [pyL]
  | d :: r, j + 1 => by
    rw [pyL, List.getElem?_cons_succ, List.getElem?_cons_succ]
    exact pyL_get
theorem de_index (hp : ∀ {to te : TE} i, PE (X i) a to → PE (X i) b te → PE (X i) (.Call (.Attribute a "index" apos) [b] [] cpos) (tBM (X i).K "list" (rIndexD (X i).K) to (tCons te tNil))) (ha : DE z K X a ea) (hb : DE z K X b eb) (hK : ∀ i, (X i).K = K := by intro _; rfl) : DE z K X (.Call (.Attribute a "index" apos) [b] [] cpos) (dIndex ea eb) := by
  obtain ⟨ta, pa, va⟩ := ha
  obtain ⟨tb, pb, vb⟩ := hb
  refine ⟨tBM K "list" (rIndexD K) ta (tCons tb tNil), fun i => hK i ▸ hp i (pa i) (pb i), fun C σ δ H Q Qd k s e q => ?_⟩
  subst k
  refine va C σ δ H _ _ rfl s e fun x dx H1 e1 r1 e => ?_
  split at e
  · rename_i ds
    have r1' := r1
    obtain ⟨p, xs, rfl, hx, lx⟩ := r1.lst_inv
    refine ⟨.inl ⟨rfl, xs, hx.sq⟩, vb C σ δ H1 _ _ rfl (s.step e1) e fun y dy H2 e2 r2 e => ?_⟩
    obtain ⟨s1, s2, j, zz, hj, hz, hn, e⟩ := e
    have d1 := dp_of _ _ (sh_py s1).2 (rep_st (s.step e1) e2 r1')
    have s1' := (sh_py s1).1
    rw [py] at d1 s1'
    refine ⟨p, y, py dy, pyL ds, j, py zz, rfl, rfl, d1, dp_of dy y (sh_py s2).2 r2, s1', (sh_py s2).1, by rw [pyL_get, hj]; rfl, hz, fun m z' hm hz' => ?_, q _ _ H2 (e1.trans e2) (.int _) e⟩
    rw [pyL_get] at hz'
    obtain ⟨w, hw, rfl⟩ := Option.map_eq_some_iff.mp hz'
    exact hn m w hm hw
  · exact e.elim
/-- list(x), as a new list -/
theorem dn_list {x : Str} {p : Pos} (ha : DE true K X e ea) (hg : ∀ i, Gl (X i) "list") (hm : ∀ i, (X i).mg "list" = none) (hK : ∀ i, (X i).K = K := by intro _; rfl)
    (he : ∀ i, starEach [e] (X i).env = (false, eval e (X i).env) :: starEach [] (X i).env := by intro _; rfl) : DN K X (.Call (.Name "list" p) [e] [] pos) (fun δ Q => ea δ fun d => ∃ ds, itemsD d = some ds ∧ Q ds) := by
  obtain ⟨t, pa, v⟩ := ha
  refine ⟨_, fun i => pe_callTy (cr_list (hK i)) (hg i) (hm i) (by decide +kernel) (pa_cons (pa i) pa_nil (he i)) (he := he i), fun C σ δ H Q Qd k s e q => ?_⟩
  subst k
  refine v C σ δ H _ _ rfl s e fun w d H1 e1 r1 e => ?_
  obtain ⟨ds, hd, e⟩ := e
  obtain ⟨kk, a', xs, rfl, g, l, _⟩ := rep_items r1 hd
  refine ⟨a', xs, rfl, by cases kk; exact .inr g; exact .inl g, fun p hp => ?_⟩
  exact q p xs ds _ (none_back s e1 hp) (e1.trans (Stp.new hp)) upd_same (l.move (fun b u _ h => same_new hp b u h) fun b zb => zb.imp id fun (zb : b = p) => by rw [zb]; exact hp) e
/-- a + b of lists, as a new list -/
theorem dn_add (ha : DE true K X a ea) (hb : DE true K X b eb) : DN K X (.BinOp a .Add b pos) (fun δ Q => ea δ fun x => eb δ fun y => ∃ xs ys, x = .lst xs ∧ y = .lst ys ∧ xs.length + ys.length ≤ sizeLine ∧ Q (xs ++ ys)) := by
  obtain ⟨ta, pa, va⟩ := ha
  obtain ⟨tb, pb, vb⟩ := hb
  refine ⟨_, fun i => pe_op op_cat (pa i) (pb i), fun C σ δ H Q Qd k s e q => ?_⟩
  subst k
  refine va C σ δ H _ _ rfl s e fun x dx H1 e1 r1 e => ?_
  refine vb C σ δ H1 _ _ rfl (s.step e1) e fun y dy H2 e2 r2 e => ?_
  obtain ⟨us, ws, rfl, rfl, hl, e⟩ := e
  obtain ⟨l, xs, rfl, hx, lx⟩ := (rep_st (z := true) (s.step e1) e2 r1).lst_inv
  obtain ⟨m, ys, rfl, hy, ly⟩ := r2.lst_inv
  refine ⟨l, m, xs, ys, rfl, rfl, hx.2, hy.2, by rw [lx.l, ly.l]; exact hl, fun p hp => ?_⟩
  have e12 := e1.trans e2
  exact q p _ _ _ (none_back s e12 hp) (e12.trans (Stp.new hp)) upd_same ((lx.append ly).move (fun b u _ h => same_new hp b u h) fun b zb => zb.imp id fun (zb : b = p) => by rw [zb]; exact hp) e
/-- list(range(..)), tuple(range(..)) -/
theorem rg_repl {av : Addr → Prop} {H : Hp} (m n : Int) : RepL K av H (rgV m n) (rngD m (n - m).toNat) := by
  refine ⟨by rw [rgV_length, rngD_len], fun i x d h1 h2 => ?_⟩
  obtain ⟨hi, rfl⟩ := rngD_get h2
  unfold rgV at h1
  rw [List.getElem?_map] at h1
  obtain ⟨j, e1, rfl⟩ := Option.map_eq_some_iff.mp h1
  have : j = i := by
    have := (List.getElem?_eq_some_iff.mp e1).2
    simpa using this.symm
  subst this
  exact .int _
def dRgL (l : Bool) (ea eb : EvE) : EvE := fun δ Q => ea δ fun d => eb δ fun d' => match d, d' with
  | .int m, .int n => RgOk m n ∧ Q (if l = true then .lst (rngD m (n - m).toNat) else .tup (rngD m (n - m).toNat))
  | _, _ => False
theorem ve_rg {te : L2.St → Hp → (Int → Int → Hp → Prop) → Prop} {ev : List Sl → (Int → Int → Prop) → Prop} (v : ∀ (C : Ctx) (σ : L2.St) (δ : List Sl) (H : Hp) (Q : Int → Int → Hp → Prop) (Qd : Int → Int → Prop), C.K = K → Sok C H σ δ → ev δ Qd → (∀ m n H', Stp C.S H H' → Qd m n → Q m n H') → te σ H Q) :
    VE z K (tLstRg te) (fun δ Q => ev δ fun m n => RgOk m n ∧ Q (.lst (rngD m (n - m).toNat))) ∧ VE z K (tTupRg te) (fun δ Q => ev δ fun m n => RgOk m n ∧ Q (.tup (rngD m (n - m).toNat))) := by
  constructor
  · intro C σ δ H Q Qd k s e q
    exact v C σ δ H _ _ k s e fun m n H1 e1 e => ⟨e.1, fun p hp => q _ _ _ (e1.trans (Stp.new hp)) (rep_newL (s.step e1).al hp (rg_repl m n)) e.2⟩
  · intro C σ δ H Q Qd k s e q
    exact v C σ δ H _ _ k s e fun m n H1 e1 e => ⟨e.1, fun p hp => q _ _ _ (e1.trans (Stp.new hp)) (rep_newT (s.step e1).al hp (rg_repl m n)) e.2⟩
def dR1 (ea : EvE) : List Sl → (Int → Int → Prop) → Prop := fun δ Q => ea δ fun d => match d with
  | .int n => Q 0 n
  | _ => False
def dR2 (ea eb : EvE) : List Sl → (Int → Int → Prop) → Prop := fun δ Q => ea δ fun d => eb δ fun d' => match d, d' with
  | .int m, .int n => Q m n
  | _, _ => False
theorem vr1 {ta : TE} (v : VE false K ta ea) : ∀ (C : Ctx) (σ : L2.St) (δ : List Sl) (H : Hp) (Q : Int → Int → Hp → Prop) (Qd : Int → Int → Prop), C.K = K → Sok C H σ δ → dR1 ea δ Qd → (∀ m n H', Stp C.S H H' → Qd m n → Q m n H') → tRg1 ta σ H Q := by
  intro C σ δ H Q Qd k s e q
  refine v C σ δ H _ _ k s e fun x d H1 e1 r e => ?_
  split at e
  · exact ⟨_, r.int_inv, q _ _ H1 e1 e⟩
  · exact e.elim
theorem vr2 {ta tb : TE} (v : VE false K ta ea) (v2 : VE false K tb eb) : ∀ (C : Ctx) (σ : L2.St) (δ : List Sl) (H : Hp) (Q : Int → Int → Hp → Prop) (Qd : Int → Int → Prop), C.K = K → Sok C H σ δ → dR2 ea eb δ Qd → (∀ m n H', Stp C.S H H' → Qd m n → Q m n H') → tRg2 ta tb σ H Q := by
  intro C σ δ H Q Qd k s e q
  refine v C σ δ H _ _ k s e fun x d H1 e1 r e => ?_
  refine v2 C σ δ H1 _ _ k (s.step e1) e fun x' d' H2 e2 r2 e => ?_
  split at e
  · exact ⟨_, _, r.int_inv, r2.int_inv, q _ _ H2 (e1.trans e2) e⟩
  · exact e.elim
section
variable (hc : ∀ i, (X i).calm = true) {p p3 pos3 : Pos} (hg : ∀ i, Gl (X i) "range") (hm : ∀ i, (X i).mg "range" = none)
theorem de_list1Rg (hg2 : ∀ i, Gl (X i) "list") (hm2 : ∀ i, (X i).mg "list" = none) (hg : ∀ i, Gl (X i) "range") (hm : ∀ i, (X i).mg "range" = none) (ha : DE false K X a ea) (hc : ∀ i, (X i).calm = true := by intro _; rfl) (n1 : ∀ i, starEach [a] (X i).env = (false, eval a (X i).env) :: starEach [] (X i).env := by intro _; rfl) (n2 : ∀ i, starEach [.Call (.Name "range" p3) [a] [] pos3] (X i).env = (false, eval (.Call (.Name "range" p3) [a] [] pos3) (X i).env) :: starEach [] (X i).env := by intro _; rfl) : DE z K X (.Call (.Name "list" p) [.Call (.Name "range" p3) [a] [] pos3] [] pos) (fun δ Q => dR1 ea δ fun m n => RgOk m n ∧ Q (.lst (rngD m (n - m).toNat))) := by
  obtain ⟨t, pa, v⟩ := ha
  exact ⟨_, fun i => pe_listRg (hc i) (hg2 i) (hm2 i) (prg_1 (hg i) (hm i) (pa i) (n1 i)) (n2 i), (ve_rg (vr1 v)).1⟩
theorem de_tuple1Rg (hg2 : ∀ i, Gl (X i) "tuple") (hm2 : ∀ i, (X i).mg "tuple" = none) (hg : ∀ i, Gl (X i) "range") (hm : ∀ i, (X i).mg "range" = none) (ha : DE false K X a ea) (hc : ∀ i, (X i).calm = true := by intro _; rfl) (n1 : ∀ i, starEach [a] (X i).env = (false, eval a (X i).env) :: starEach [] (X i).env := by intro _; rfl) (n2 : ∀ i, starEach [.Call (.Name "range" p3) [a] [] pos3] (X i).env = (false, eval (.Call (.Name "range" p3) [a] [] pos3) (X i).env) :: starEach [] (X i).env := by intro _; rfl) : DE z K X (.Call (.Name "tuple" p) [.Call (.Name "range" p3) [a] [] pos3] [] pos) (fun δ Q => dR1 ea δ fun m n => RgOk m n ∧ Q (.tup (rngD m (n - m).toNat))) := by
  obtain ⟨t, pa, v⟩ := ha
  exact ⟨_, fun i => pe_tupRg (hc i) (hg2 i) (hm2 i) (prg_1 (hg i) (hm i) (pa i) (n1 i)) (n2 i), (ve_rg (vr1 v)).2⟩
theorem de_list2Rg (hg2 : ∀ i, Gl (X i) "list") (hm2 : ∀ i, (X i).mg "list" = none) (hg : ∀ i, Gl (X i) "range") (hm : ∀ i, (X i).mg "range" = none) (ha : DE false K X a ea) (hb : DE false K X b eb) (hc : ∀ i, (X i).calm = true := by intro _; rfl) (n1 : ∀ i, starEach [a, b] (X i).env = (false, eval a (X i).env) :: starEach [b] (X i).env := by intro _; rfl) (n3 : ∀ i, starEach [b] (X i).env = (false, eval b (X i).env) :: starEach [] (X i).env := by intro _; rfl) (n4 : ∀ i, (backTo pos3 (starEach [b] (X i).env)).any (·.1) = false := by intro _; rfl) (n2 : ∀ i, starEach [.Call (.Name "range" p3) [a, b] [] pos3] (X i).env = (false, eval (.Call (.Name "range" p3) [a, b] [] pos3) (X i).env) :: starEach [] (X i).env := by intro _; rfl) : DE z K X (.Call (.Name "list" p) [.Call (.Name "range" p3) [a, b] [] pos3] [] pos) (fun δ Q => dR2 ea eb δ fun m n => RgOk m n ∧ Q (.lst (rngD m (n - m).toNat))) := by
  obtain ⟨t, pa, v⟩ := ha
  obtain ⟨t2, pb, v2⟩ := hb
  exact ⟨_, fun i => pe_listRg (hc i) (hg2 i) (hm2 i) (prg_2 (hg i) (hm i) (pa i) (pb i) (n1 i) (n3 i) (n4 i)) (n2 i), (ve_rg (vr2 v v2)).1⟩
end
end
end Dl
namespace Dl
theorem ru1 {k : Nat} {A : PySem.Around} (hr : L2.Room k A) : A.units + 1 < PySem.cLine := by have := hr.un; omega
end Dl
set_option maxHeartbeats 1000000
/-! ints, tuples and lists of ints: equality, shape -/
namespace Dl
open PySem PySem.Spec PyProof.Rows L2 Lcn Sq
abbrev iT (ns : List Int) : Dt := .tup (ns.map .int)
abbrev iL (ns : List Int) : Dt := .lst (ns.map .int)
theorem pyL_map {α : Type} (f : α → Dt) : ∀ xs : List α, pyL (xs.map f) = xs.map fun x => py (f x)
  | [] => by simp [pyL]
  | x :: r => by rw [List.map_cons, pyL, pyL_map f r, List.map_cons]
theorem okL_all {ds : List Dt} (h : ∀ d, d ∈ ds → okD d = true) : okL ds = true := by
  induction ds with
  | nil => rfl
  | cons d r ih =>
    rw [okL, h d (List.mem_cons_self ..), ih fun e m => h e (List.mem_cons_of_mem _ m)]
    rfl
theorem dep_all {ds : List Dt} {n : Nat} (h : ∀ d, d ∈ ds → (py d).depth ≤ n) : PyData.depthAll (pyL ds) ≤ n := by
  induction ds with
  | nil => simp [pyL, PyData.depthAll]
  | cons d r ih =>
    rw [pyL, PyData.depthAll]
    exact Nat.max_le.mpr ⟨h d (List.mem_cons_self ..), ih fun e m => h e (List.mem_cons_of_mem _ m)⟩
/-- fit for ==, n deep -/
def Fit (n : Nat) (d : Dt) : Prop := okD d = true ∧ (py d).depth ≤ n
theorem Fit.sh {n : Nat} {d : Dt} (h : Fit n d) (hn : n ≤ 64) : shD d = true := by
  unfold shD
  rw [h.1, decide_eq_true (Nat.le_trans h.2 hn)]
  rfl
theorem fit_int (n : Nat) (i : Int) : Fit n (.int i) := ⟨rfl, by simp [py, PyData.depth]⟩
theorem fit_bl (n : Nat) (i : Bool) : Fit n (.bl i) := ⟨rfl, by simp [py, PyData.depth]⟩
theorem fit_non (n : Nat) : Fit n .non := ⟨rfl, by simp [py, PyData.depth]⟩
theorem fit_tup {n : Nat} {ds : List Dt} (h : ∀ d, d ∈ ds → Fit n d) : Fit (n + 1) (.tup ds) := ⟨by rw [okD]; exact okL_all fun d m => (h d m).1, by rw [py, PyData.depth]; exact Nat.succ_le_succ (dep_all fun d m => (h d m).2)⟩
theorem fit_lst {n : Nat} {ds : List Dt} (h : ∀ d, d ∈ ds → Fit n d) : Fit (n + 1) (.lst ds) := ⟨by rw [okD]; exact okL_all fun d m => (h d m).1, by rw [py, PyData.depth]; exact Nat.succ_le_succ (dep_all fun d m => (h d m).2)⟩
theorem fit_iT (ns : List Int) : Fit 1 (iT ns) := fit_tup (n := 0) fun d m => by
  obtain ⟨i, _, rfl⟩ := List.mem_map.mp m
  exact fit_int 0 i
theorem fit_iL (ns : List Int) : Fit 1 (iL ns) := fit_lst (n := 0) fun d m => by
  obtain ⟨i, _, rfl⟩ := List.mem_map.mp m
  exact fit_int 0 i
theorem Fit.up {n m : Nat} {d : Dt} (h : Fit n d) (e : n ≤ m) : Fit m d := ⟨h.1, Nat.le_trans h.2 e⟩
theorem fit_map {α : Type} {n : Nat} {f : α → Dt} (h : ∀ x, Fit n (f x)) (xs : List α) : ∀ d, d ∈ xs.map f → Fit n d := fun d m => by
  obtain ⟨x, _, rfl⟩ := List.mem_map.mp m
  exact h x
/-! f tells things apart: == of f x and f y is that of x and y -/
def Sep {α : Type} [DecidableEq α] (f : α → Dt) : Prop := ∀ x y, eqD (f x) (f y) = decide (x = y)
section
variable {α β : Type} [DecidableEq α] [DecidableEq β]
theorem sep_int : Sep Dt.int := fun x y => by
  unfold eqD
  simp only [py, PyData.eqv]
  exact Bool.beq_eq_decide_eq x y
theorem eqvA_map {f : α → Dt} (h : Sep f) : ∀ xs ys : List α, PyData.eqvAll (pyL (xs.map f)) (pyL (ys.map f)) = decide (xs = ys)
  | [], [] => by simp [pyL, PyData.eqvAll]
  | [], y :: r => by simp [pyL, PyData.eqvAll]
  | x :: r, [] => by simp [pyL, PyData.eqvAll]
  | x :: xs, y :: ys => by
    rw [List.map_cons, List.map_cons, pyL, pyL, PyData.eqvAll, eqvA_map h xs ys]
    have := h x y
    unfold eqD at this
    rw [this]
    by_cases e : x = y
    · subst e
      by_cases e2 : xs = ys
      · subst e2
        simp
      · simp [e2]
    · simp [e]
theorem sep_tup {f : α → Dt} (h : Sep f) : Sep fun xs : List α => Dt.tup (xs.map f) := fun xs ys => by
  unfold eqD
  rw [py, py, PyData.eqv]
  exact eqvA_map h xs ys
theorem sep_lst {f : α → Dt} (h : Sep f) : Sep fun xs : List α => Dt.lst (xs.map f) := fun xs ys => by
  unfold eqD
  rw [py, py, PyData.eqv]
  exact eqvA_map h xs ys
theorem sep_iT : Sep iT := sep_tup sep_int
theorem sep_iL : Sep iL := sep_lst sep_int
/-- a couple -/
theorem sep_two {f : α → Dt} {g : β → Dt} (hf : Sep f) (hg : Sep g) : Sep fun p : α × β => Dt.tup [f p.1, g p.2] := fun p q => by
  have h1 := hf p.1 q.1
  have h2 := hg p.2 q.2
  unfold eqD at h1 h2 ⊢
  simp only [py, pyL, PyData.eqv, PyData.eqvAll]
  rw [h1, h2, Bool.and_true]
  rw [Bool.eq_iff_iff]
  simp [Prod.ext_iff]
theorem anyEq_map {f : α → Dt} (h : Sep f) (x : α) : ∀ xs : List α, anyEq (f x) (xs.map f) = decide (x ∈ xs)
  | [] => rfl
  | y :: r => by
    have ih := anyEq_map h x r
    unfold anyEq at ih ⊢
    rw [List.map_cons, List.any_cons, ih, h y x]
    rw [Bool.eq_iff_iff]
    simp only [Bool.or_eq_true, decide_eq_true_eq, List.mem_cons]
    constructor
    · rintro (a | a)
      · exact .inl a.symm
      · exact .inr a
    · rintro (a | a)
      · exact .inl a.symm
      · exact .inr a
end
theorem dIn_map {α : Type} [DecidableEq α] {f : α → Dt} (h : Sep f) {n : Nat} (hf : ∀ x, Fit n (f x)) (hn : n + 1 ≤ 64) {x : α} {xs : List α} {neg : Bool} {Q : Dt → Prop} (q : Q (.bl (if neg then !decide (x ∈ xs) else decide (x ∈ xs)))) : dIn neg (f x) (.lst (xs.map f)) Q := by
  unfold dIn
  refine ⟨(hf x).sh (by omega), (fit_lst (fit_map hf xs)).sh hn, ?_⟩
  rw [anyEq_map h]
  exact q
theorem dEq_sep {α : Type} [DecidableEq α] {f : α → Dt} (h : Sep f) {n : Nat} (hf : ∀ x, Fit n (f x)) (hn : n ≤ 64) {x y : α} {neg : Bool} {Q : Dt → Prop} (q : Q (.bl (if neg then !decide (x = y) else decide (x = y)))) : dEq neg (f x) (f y) Q := by
  unfold dEq
  refine ⟨(hf x).sh hn, (hf y).sh hn, ?_⟩
  rw [h x y]
  exact q
theorem ix_map {α : Type} {f : α → Dt} {xs : List α} {i : Int} {x : α} {Q : Dt → Prop} (h : atI xs i = some x) (q : Q (f x)) : dIx (.lst (xs.map f)) (.int i) Q := ⟨_, atI_map h, q⟩
theorem ixT_map {α : Type} {f : α → Dt} {xs : List α} {i : Int} {x : α} {Q : Dt → Prop} (h : atI xs i = some x) (q : Q (f x)) : dIx (.tup (xs.map f)) (.int i) Q := ⟨_, atI_map h, q⟩
theorem cutD_map {α : Type} {f : α → Dt} (xs : List α) (lo hi : Option Int) : cutD (xs.map f) lo hi = ((xs.drop (HT.sIx xs.length 0 lo)).take (HT.sIx xs.length xs.length hi - HT.sIx xs.length 0 lo)).map f := by
  unfold cutD
  rw [List.length_map, ← List.map_drop, ← List.map_take]
theorem cutD_pre {α : Type} {f : α → Dt} (xs : List α) (n : Nat) : cutD (xs.map f) none (some (n : Int)) = (xs.take n).map f := by
  rw [cutD_map, HT.sIx_none, HT.sIx_nat, List.drop_zero, Nat.sub_zero]
  congr 1
  rcases Nat.le_total n xs.length with h | h
  · rw [Nat.min_eq_left h]
  · rw [Nat.min_eq_right h, List.take_of_length_le h, List.take_of_length_le (Nat.le_refl _)]
theorem rngD_map {lo : Int} {n : Nat} : rngD lo n = ((List.range n).map fun (i : Nat) => lo + (i : Int)).map Dt.int := by
  unfold rngD
  rw [List.map_map]
  rfl
/-- bounds of draws, ranges -/
theorem b62 {i : Int} (h0 : -1000000 ≤ i) (h1 : i ≤ 1000000) : -(2 ^ 62) ≤ i ∧ i < 2 ^ 62 := by
  have : (2 : Int) ^ 62 = 4611686018427387904 := by decide
  omega
end Dl
set_option maxHeartbeats 2000000
/-! != of instances of a class with an own ==, which has no own != -/
namespace Ne
open PySem PySem.Spec PyProof.Rows L2
section
variable {prog : Program} {w : World} {A : Around} {E : Value → Shared → Prop} {s : Shared} {K : PySem.W.Frag} {x C L f : Addr} {h₀ : Heap} {m : Str → Option Value} {ox : Obj} {od : Option Obj} {b tb : Value}
open PySem.W in
theorem ne_body {Q : Fin → Shared → Prop} (hu : A.units < cLine) (X : K.In s.heap) (I : InstAt s.heap x ox C od) (hs : findIn K (.ref C) "__eq__" = some (some (.ref f))) (hf : isFn K (.ref f) = true)
    (h : wpAny (model prog w) A (call (.ref f) [.ref x, b]) (fun v s' => ∃ r, v = .bool r ∧ Q (.done (.ret (.bool (!r)))) s') E s) :
    wpAny (model prog w) A (Builtin.«object.__ne__» ⟨[.ref x, b], []⟩) Q E s := by
  unfold Builtin.«object.__ne__»
  repeat (first
    | with_reducible refine wpAny_cRoomFor hu ?_
    | (refine wpAny_bind (m := callSpecialIfBound? (.ref x) (Str.ofString "__eq__") [b])
        (ifBound_K X I hs hf (wpAny_mono h (fun r s' hr => by
          obtain ⟨b, rfl, hq⟩ := hr
          repeat (first | exact hq | exact wpAny_pure hq | exact wpAny_truthy_bool hq | (refine wpAny_bind (m := truthy (.bool _)) (wpAny_truthy_bool ?_)) | wp_step)) fun _ _ e => e)))
    | wp_step)
open PySem.W in
theorem ne_bound {Q : Option Value → Shared → Prop} (hu : A.units + 1 < cLine) (X : K.In s.heap) (I : InstAt s.heap x ox C od) (hs : findIn K (.ref C) "__eq__" = some (some (.ref f))) (hf : isFn K (.ref f) = true)
    (hne : findIn K (.ref C) "__ne__" = some (some (.builtin "object.__ne__"))) (hm : mroIn K C (.type "object") = some true)
    (h : wpAny (model prog w) A.in1 (call (.ref f) [.ref x, b]) (fun v s' => ∃ r, v = .bool r ∧ Q (some (.bool (!r))) s') E s) :
    wpAny (model prog w) A (callSpecialIfBound? (.ref x) "__ne__" [b]) Q E s := by
  have S := F.cmp_object.ne
  simp only [callSpecialIfBound?, bindSpecialIfBound?]
  refine wpAny_holding (wpAny_bind (wpAny_bind (wpAny_bind (I.type.here ((looks_findIn X hne).here ?_)))))
  simp only [S.bind]
  have ii : Looks (model prog w) s.heap (isInstance (.ref x) (.type "object")) true := I.type.andThen (looks_mroIn X hm)
  have cl : wpAny (model prog w) A (call (.builtin "object.__ne__") [.ref x, b]) (fun v => Q (some v)) E s := by
    refine wpAny_call (codeAny_call_builtin S.plain F.cmpEntry_ne (check_slot F.cmpKind_ne F.cmpSplit_ne ii (F.cmpArgs_ne _ _) ?_))
    refine ne_body (A := A.in1) hu X I hs hf (wpAny_mono h (fun v s' hv => ?_) fun _ _ e => e)
    obtain ⟨r, rfl, hq⟩ := hv
    exact ⟨r, rfl, hq⟩
  refine wpAny_bind (wpAny_askSetting (wpAny_ite ?_))
  have fin : wpAny (model prog w) A (call (.builtin "object.__ne__") ([.ref x] ++ [b]) >>= fun v => pure (some v)) Q E s :=
    wpAny_bind (wpAny_mono cl (fun v s' h' => wpAny_pure h') fun _ _ h' => h')
  split
  · exact wpAny_bind (wpAny_pure (wpAny_pure fin))
  · exact wpAny_tryCatch (wpAny_bind (wpAny_pure (wpAny_pure fin)))
open PySem.W in
theorem ne_K {Q : Value → Shared → Prop} (hu : A.units + 1 < cLine) (F : Fr h₀ L s.heap m) (X₀ : K.In h₀) (I : InstAt s.heap x ox C od) (hb : Looks (model prog w) s.heap (typeOf b) tb) (hn : notFirst K C tb = true)
    (hs : findIn K (.ref C) "__eq__" = some (some (.ref f))) (hf : isFn K (.ref f) = true) (hne : findIn K (.ref C) "__ne__" = some (some (.builtin "object.__ne__"))) (hm : mroIn K C (.type "object") = some true)
    (h : wpAny (model prog w) A.in1 (call (.ref f) [.ref x, b]) (fun v s' => ∃ r, v = .bool r ∧ Q (.bool (!r)) s') E s) : wpAny (model prog w) A (richCompare .NotEq (.ref x) b) Q E s := by
  have X := X₀.keeps F.keep
  have one : wpAny (model prog w) A (tryCompare (.ref x) "__ne__" b) (fun r s' => ∃ v, r = some v ∧ Q v s') E s := by
    unfold tryCompare
    refine wpAny_bind (ne_bound hu X I hs hf hne hm (wpAny_mono h (fun v s' hv => ?_) fun _ _ e => e))
    obtain ⟨r, rfl, hq⟩ := hv
    exact ⟨r, rfl, wpAny_pure ⟨_, rfl, hq⟩⟩
  unfold richCompare
  simp only [oneThing_ref]
  refine wpAny_holding (wpAny_bind (wpAny_cRoomFor (Nat.lt_of_succ_lt hu) ?_))
  rw [cmpInfo_NotEq]
  dsimp only
  refine wpAny_bind (I.type.here (wpAny_bind (hb.here ?_)))
  split
  · rename_i q
    have e : subIn K tb (.ref C) = some false := by
      rcases Bool.or_eq_true_iff.mp hn with e | e
      · rw [beq_iff_eq.mp e] at q; simp at q
      · exact beq_iff_eq.mp e
    refine wpAny_bind ((looks_subIn X e).here ?_)
    simp only [Bool.false_eq_true, if_false]
    refine wpAny_bind (wpAny_mono one (fun r s' z => ?_) fun _ _ e => e)
    obtain ⟨v, rfl, hq⟩ := z
    exact wpAny_pure hq
  · refine wpAny_bind (wpAny_pure ?_)
    simp only [Bool.false_eq_true, if_false]
    refine wpAny_bind (wpAny_mono one (fun r s' z => ?_) fun _ _ e => e)
    obtain ⟨v, rfl, hq⟩ := z
    exact wpAny_pure hq
end
/-! ### the rule -/
section
variable {X : Cx} {n : Nat}
/-- != gives False for what D says, and only makes objects -/
def RcN (X : Cx) (n : Nat) (D : Eqv) : Prop :=
  ∀ (A : Around) (pins : List (Addr × Obj)) (s : Shared) (σ : L2.St) (H : Hp) (x y : V) (u v : Value), L2.Sub X n A → Inv X pins σ H s → RelV x u → RelV y v → D x y H →
    wpAny (model X.prog X.w) A (richCompare .NotEq u v) (fun r s' => r = .bool false ∧ ∃ H', Inv X pins σ H' s' ∧ Ext H H') X.xe s
theorem rcN_ins {CX : CXT} {C f : Addr} {fd : FuncData} {ps : List Str} {R : Addr → Addr → Hp → Prop} {E : XK} (F : FnOk X.prog X.w X.K X.mg X.base CX n f fd ps (spEq R))
    (hs : PySem.W.findIn X.K (.ref C) "__eq__" = some (some (.ref f))) (hf : PySem.W.isFn X.K (.ref f) = true) (hb : Binds X.K fd ps []) (hx : Passes CX X E)
    (hne : PySem.W.findIn X.K (.ref C) "__ne__" = some (some (.builtin "object.__ne__"))) (hm : PySem.W.mroIn X.K C (.type "object") = some true) : RcN X (n + 1) (DIns C R) := by
  intro A pins s σ H x y u v sb I rx ry d
  obtain ⟨a, b, dx, dy, fs, gs, rfl, rfl, ha, hb', hr⟩ := d
  cases rx
  cases ry
  obtain ⟨mA, J, _⟩ := ins_get I.hok ha
  obtain ⟨mB, J', _⟩ := ins_get I.hok hb'
  obtain ⟨od, J, _⟩ := J.look
  obtain ⟨od', J', _⟩ := J'.look
  have sb1 : L2.Sub X n A.in1 := sb.in1
  obtain ⟨m, hF⟩ := I.fr
  refine ne_K (tb := .ref C) (by have := sb1.room.units0; exact this) hF I.ok.mod.kin J J'.type (by simp [PySem.W.notFirst]) hs hf hne hm ?_
  have hsp : spEq R [.ref a, .ref b] H (fun v H' => v = .bl true ∧ Ext H H') E := ⟨a, b, rfl, hr, fun H' e => ⟨rfl, e⟩⟩
  have e0 : Env0 X.prog X.w X.K X.mg X.base A.in1 X.stack s H := by
    have e := I.env0
    exact ⟨by rw [sb1.fr]; exact e.frames, e.mod, e.bs, e.bsz, e.funs, e.frf, e.hok, e.bare⟩
  have hl := F.len _ _ _ _ hsp
  have r2 : Vals [V.ref a, V.ref b] [Value.ref a, Value.ref b] := .cons rfl (.cons rfl .nil)
  refine wpAny_call (codeAny_mono (F.run A.in1 X.stack s H ⟨[.ref a, .ref b], []⟩ [.ref a, .ref b] [.ref a, .ref b] _ E sb1.room e0 (by
    have := hb s [.ref a, .ref b] I.kIn (by simpa using hl)
    simpa using this) r2 hsp) fun r s' hq => ?_)
  cases r with
  | error e => exact hx pins σ H s e s' I hq
  | ok fl =>
    cases fl with
    | ret w =>
      obtain ⟨z, H', I', rz, ez, ex⟩ := I.after hq
      subst ez
      cases rz
      exact ⟨true, rfl, rfl, H', I', ex⟩
    | next => exact False.elim hq
    | brk => exact False.elim hq
    | cont => exact False.elim hq
/-- x != y as an expression -/
def rNeG (D : Eqv) : R2 := fun x y H Q => D x y H ∧ ∀ H', Ext H H' → Q (.bl false) H'
theorem op_neG {D : Eqv} (h : RcN X n D) (hr : Room n X.A) : OpR X (compareOp .NotEq) (rNeG D) := by
  intro pins s σ H x y v u Q I rx ry hq
  obtain ⟨d, q⟩ := hq
  show wpAny (model X.prog X.w) X.A (richCompare .NotEq v u) (EP X pins σ Q) X.xe s
  refine wpAny_mono (h X.A pins s σ H x y v u ⟨hr, rfl⟩ I rx ry d) (fun r s' z => ?_) fun _ _ x => x
  obtain ⟨hr', H', I', e⟩ := z
  subst hr'
  exact ⟨.bl false, H', I', rfl, q H' e⟩
end
end Ne
set_option maxHeartbeats 1000000
/-! instances: attributes, construction -/
namespace Dl
open PySem PySem.Spec PyProof.Rows L2 Lcn Sq
def putA (f : Str) (d : Dt) : List (Str × Dt) → List (Str × Dt)
  | [] => [(f, d)]
  | (g, e) :: r => if g = f then (g, d) :: r else (g, e) :: putA f d r
section
variable {K : PySem.W.Frag} {av : Addr → Prop} {H : Hp}
theorem lookup_rep {f : Str} : ∀ {fs : List (Str × V)} {es : List (Str × Dt)} {d : Dt}, fs.map Prod.fst = es.map Prod.fst → RepL K av H (fs.map Prod.snd) (es.map Prod.snd) → es.lookup f = some d → ∃ v, fs.lookup f = some v ∧ Rep K av H v d
  | [], [], d, _, _, h => by cases h
  | [], _ :: _, _, e, _, _ => by cases e
  | _ :: _, [], _, e, _, _ => by cases e
  | (g, v) :: fs, (g', d') :: es, d, e, r, h => by
    rw [List.map_cons, List.map_cons] at e r
    injection e with e1 e2
    have e1 : g = g' := e1
    subst e1
    rw [List.lookup_cons] at h ⊢
    split at h
    · cases h
      exact ⟨v, rfl, r.head.1⟩
    · exact lookup_rep e2 r.head.2 h
theorem putF_rep {f : Str} {v : V} {d : Dt} (hv : Rep K av H v d) : ∀ {fs : List (Str × V)} {es : List (Str × Dt)}, fs.map Prod.fst = es.map Prod.fst → RepL K av H (fs.map Prod.snd) (es.map Prod.snd) → (putF f v fs).map Prod.fst = (putA f d es).map Prod.fst ∧ RepL K av H ((putF f v fs).map Prod.snd) ((putA f d es).map Prod.snd)
  | [], [], _, _ => by
    rw [putF, putA]
    exact ⟨rfl, .cons hv .nil⟩
  | [], _ :: _, e, _ => by cases e
  | _ :: _, [], e, _ => by cases e
  | (g, w) :: fs, (g', d') :: es, e, r => by
    rw [List.map_cons, List.map_cons] at e r
    injection e with e1 e2
    have e1 : g = g' := e1
    subst e1
    rw [putF, putA]
    by_cases hg : g = f
    · rw [if_pos hg, if_pos hg, List.map_cons, List.map_cons, List.map_cons, List.map_cons, e2]
      exact ⟨rfl, .cons hv r.head.2⟩
    · have := putF_rep (f := f) hv e2 r.head.2
      rw [if_neg hg, if_neg hg, List.map_cons, List.map_cons, List.map_cons, List.map_cons, this.1]
      exact ⟨rfl, .cons r.head.1 this.2⟩
theorem ins_fields {v : V} {C : Addr} {es : List (Str × Dt)} (h : Rep K av H v (.ins C es)) : ∃ a dx fs, v = .ref a ∧ ¬ av a ∧ H a = some (.ins C dx fs) ∧ fs.map Prod.fst = es.map Prod.fst ∧ RepL K av H (fs.map Prod.snd) (es.map Prod.snd) := by
  obtain ⟨a, dx, fs, rfl, na, hh, l, f⟩ := h.ins_inv
  refine ⟨a, dx, fs, rfl, na, hh, l, by rw [List.length_map, List.length_map]; simpa using congrArg List.length l, fun i x d h1 h2 => ?_⟩
  rw [List.getElem?_map] at h1 h2
  obtain ⟨p, hp, rfl⟩ := Option.map_eq_some_iff.mp h1
  obtain ⟨q, hq, rfl⟩ := Option.map_eq_some_iff.mp h2
  exact f i p q hp hq
theorem rep_ins {a C dx : Addr} {fs : List (Str × V)} {es : List (Str × Dt)} (na : ¬ av a) (h : H a = some (.ins C dx fs)) (l : fs.map Prod.fst = es.map Prod.fst) (r : RepL K av H (fs.map Prod.snd) (es.map Prod.snd)) : Rep K av H (.ref a) (.ins C es) :=
  .ins na h l fun i x d h1 h2 => r.f i x.2 d.2 (by rw [List.getElem?_map, h1]; rfl) (by rw [List.getElem?_map, h2]; rfl)
end
def dFld (K : PySem.W.Frag) (f : Str) (x : Dt) (Q : Dt → Prop) : Prop := match x with
  | .ins C es => Cls K C ∧ NoAttr K C f ∧ ∃ d, es.lookup f = some d ∧ Q d
  | _ => False
section
variable {ι : Type} {K : PySem.W.Frag} {X : ι → Cx} {z : Bool} {pos pos' p2 : Pos} {a b c e : Expr} {es : List Expr} {ea eb : EvE} {et : EvLs}
theorem de_fld {f : Str} (ha : DE z K X e ea) (hb : ∀ i, attributeBase e f (X i).env (eval e (X i).env) = eval e (X i).env := by intro _; rfl) (hK : ∀ i, (X i).K = K := by intro _; rfl) : DE z K X (.Attribute e f pos) (fun δ Q => ea δ fun x => dFld K f x Q) := by
  obtain ⟨t, p, v⟩ := ha
  refine ⟨_, fun i => pe_fldK (hK i) (p i) (hb i), fun C σ δ H Q Qd k s e q => ?_⟩
  refine v C σ δ H _ _ k s e fun x dx H1 e1 r e => ?_
  unfold dFld at e
  split at e
  · rename_i C' es
    obtain ⟨h1, h2, d, h3, e⟩ := e
    obtain ⟨a', dx, fs, rfl, _, hh, l, rl⟩ := ins_fields r
    obtain ⟨w, hw, rw'⟩ := lookup_rep l rl h3
    exact ⟨a', C', dx, fs, w, rfl, hh, h1, h2, hw, q w d H1 e1 rw' e⟩
  · exact e.elim
/-- self.f = value -/
def dSet (K : PySem.W.Frag) (i : Nat) (f : Str) (ea : EvE) : EvS := fun D δ => ea δ fun d => match δ[i]? with
  | some (.own a (.i C es)) => Cls K C ∧ NoAttr K C f ∧ es.length < 1000 ∧ D.nx (δ.set i (.own a (.i C (putA f d es))))
  | _ => False
theorem ds_fld {i : Nat} {x f : Str} {p3 : Pos} (hp : ∀ j, PE (X j) (.Name x p3) (tVar i)) (h : DE true K X e ea) (hs : ∀ j, swapsWith e (some (.Attribute (.Name x p3) f pos')) pos.line (X j).env = pure false := by intro _; rfl) (hK : ∀ i, (X i).K = K := by intro _; rfl) : DS K X (.Assign [.Attribute (.Name x p3) f pos'] e pos) (dSet K i f ea) := by
  obtain ⟨t, p, v⟩ := h
  refine ⟨sFld K (tVar i) t f, fun j => hK j ▸ ps_fld (hp j) (p j) (hs j), fun C σ δ H D Dd k s e q => ?_⟩
  subst k
  refine v C σ δ H _ _ rfl s e fun y d H1 e1 r e => ?_
  split at e
  · rename_i a C' es h
    obtain ⟨g1, g2, g3, e⟩ := e
    have s1 := s.step e1
    obtain ⟨h1, u, hu, ho⟩ := s1.ownAt h
    obtain ⟨dx, fs, rfl, l, rl⟩ := ho.ins
    have pr := putF_rep (f := f) r l rl
    refine ⟨.ref a, h1, a, C', dx, fs, rfl, hu, g1, g2, ?_, q.nx _ _ _ (s1.upO (ys := .ins C' dx (putF f y fs)) (es := .i C' (putA f d es)) h ⟨rfl, pr.1, pr.2⟩) e⟩
    have := congrArg List.length l
    rw [List.length_map, List.length_map] at this
    omega
  · exact e.elim
end
/-! construction -/
/-- the promise of an __init__: of the arguments' data the fields -/
abbrev SpcI := List Sl → (List (Str × Dt) → Prop) → Prop
def less (x : Addr) (H : Hp) : Hp := fun b => if b = x then none else H b
def dspI (K : PySem.W.Frag) (C : Addr) (n : Nat) (sp : SpcI) : Sp := fun vs H Q _ => ∃ (S : Sc) (av : Addr → Prop) (δ : List Sl) (Qd : List (Str × Dt) → Prop) (x dx : Addr) (vs' : List V), vs = .ref x :: vs' ∧ H x = some (.ins C dx []) ∧ (∀ b, sa S b → av b) ∧ Al av (less x H) ∧ Gs S (less x H) ∧ ArgsOk S K av (less x H) vs' δ ∧ δ.length = n ∧ sp δ Qd ∧ ∀ es H', Stp S (less x H) H' → Rep K av H' (.ref x) (.ins C es) → Qd es → Q .non H'
theorem less_self {x : Addr} {H : Hp} : less x H x = none := if_pos rfl
theorem less_ne {x b : Addr} {H : Hp} (h : b ≠ x) : less x H b = H b := if_neg h
theorem stp_less {S : Sc} {x : Addr} {H : Hp} : Stp S (less x H) H := Stp.of fun b o h => by
  by_cases e : b = x
  · rw [e, less_self] at h
    cases h
  · rw [less_ne e] at h
    exact h
theorem zd_any {C : Ctx} {δ : List Sl} : Zd C (.any :: δ) = Zd C δ := by
  funext b
  refine propext ⟨fun h => h.imp id fun ⟨s, m, e⟩ => ?_, fun h => h.imp id fun ⟨s, m, e⟩ => ⟨s, List.mem_cons_of_mem _ m, e⟩⟩
  rcases List.mem_cons.mp m with rfl | m
  · exact e.elim
  · exact ⟨s, m, e⟩
theorem Sok.consAny {C : Ctx} {H : Hp} {σ : L2.St} {δ : List Sl} (s : Sok C H σ δ) (o : Option V) : Sok C H (o :: σ) (.any :: δ) := by
  refine ⟨by rw [List.length_cons, List.length_cons, s.len], fun i u h => ?_, fun i j a ds es hi hj => ?_, s.g, s.st, s.avs, s.ava, fun p m => by rw [zd_any]; exact s.gh p m⟩
  · cases i with
    | zero =>
      cases h
      trivial
    | succ i =>
      rw [zd_any]
      exact s.sl i u h
  · cases i with
    | zero => cases hi
    | succ i =>
      cases j with
      | zero => cases hj
      | succ j => rw [s.uq i j a ds es hi hj]
theorem start_cons {s0 : Str} {N : List Str} {v : V} {vs : List V} : L2.start (s0 :: N) (v :: vs) = some v :: L2.start N vs := by
  unfold L2.start
  rw [List.length_cons, List.length_cons, Nat.add_sub_add_right]
  rfl
theorem sok_init {K : PySem.W.Frag} {S : Sc} {av : Addr → Prop} {H : Hp} {N : List Str} {vs : List V} {δ : List Sl} {x C dx : Addr} (hx : H x = some (.ins C dx [])) (h1 : ∀ b, sa S b → av b) (h2 : Al av (less x H)) (h3 : Gs S (less x H)) (a : ArgsOk S K av (less x H) vs δ) : Sok ⟨K, S, av, less x H, []⟩ H (some (.ref x) :: L2.start N vs) (.own x (.i C []) :: st0 N δ) :=
  ((sok_start (N := N) h1 h2 h3 a).consAny none).setO (i := 0) (xs := .ins C dx []) (ds := .i C []) less_self stp_less hx ⟨rfl, rfl, .nil⟩
theorem ArgsOk.st {S : Sc} {K : PySem.W.Frag} {av : Addr → Prop} {H H' : Hp} {vs : List V} {δ : List Sl} (a : ArgsOk S K av H vs δ) (al : Al av H) (k : ∀ b o, H b = some o → H' b = some o) : ArgsOk S K av H' vs δ := ⟨a.l, fun i v s h1 h2 => by
  have := a.f i v s h1 h2
  cases s with
  | val d => exact Rep.move (av := av) this (fun b o _ h => k b o h) fun b z => .inl z
  | src => exact this
  | any => exact this
  | own _ _ => exact this⟩
theorem ArgsOk.app {S : Sc} {K : PySem.W.Frag} {av : Addr → Prop} {H : Hp} {vs ws : List V} {δ : List Sl} {ds : List Dt} (a : ArgsOk S K av H vs δ) (r : RepL K av H ws ds) : ArgsOk S K av H (vs ++ ws) (δ ++ ds.map Sl.val) := ⟨by rw [List.length_append, List.length_append, a.l, List.length_map, r.l], fun i v s h1 h2 => by
  rcases Nat.lt_or_ge i vs.length with lt | ge
  · rw [List.getElem?_append_left lt] at h1
    rw [List.getElem?_append_left (by rw [← a.l]; exact lt)] at h2
    exact a.f i v s h1 h2
  · rw [List.getElem?_append_right ge] at h1
    rw [List.getElem?_append_right (by rw [← a.l]; exact ge), List.getElem?_map] at h2
    obtain ⟨d, hd, rfl⟩ := Option.map_eq_some_iff.mp h2
    rw [← a.l] at hd
    exact r.f _ v d h1 hd⟩
section
variable {P : Program} {w : World} {K : PySem.W.Frag} {mg : Str → Option Value} {base : Heap}
theorem fn_init {x qual : Str} {params : Arguments} {body : List Stmt} {scope : Scope} {dvs : List V} {kws : List (Str × V)} {f : Addr} {fd : FuncData} {s0 : Str} {N ps : List Str} {k : Nat} {C : Addr} {sp : SpcI} {sv : EvS} (F : FunD K x qual params body scope dvs kws f fd) (S : FnScope (s0 :: N) (s0 :: ps) scope)
    (hbody : ∀ (cdv : Value) (A : Around) (outer : List Env) (s : Shared) (H : Hp) (E : XK), Room k (A.deeper (PyProof.Rows.envOfC qual scope s.heap.objs.size f cdv)) → DSs K (fun _ : Unit => (cxOf CX0 P w K mg base (s0 :: N) qual scope f cdv A outer s H E).nox) body sv)
    (hsp : ∀ (δ : List Sl) (Qd : List (Str × Dt) → Prop) (a : Addr), δ.length = ps.length → sp δ Qd → sv { nx := fun δ' => ∃ es, δ'[0]? = some (.own a (.i C es)) ∧ Qd es, rt := fun _ => False } (.own a (.i C []) :: st0 N δ)) : FnOk P w K mg base CX0 (k + 1) f fd (s0 :: ps) (dspI K C ps.length sp) := by
  refine F.ok S (fun vs H Q E h => ?_) fun cdv A outer s H vs Q E hr h => ?_
  · obtain ⟨S, av, δ, Qd, x, dx, vs', rfl, _, _, _, _, a, l, _⟩ := h
    rw [List.length_cons, List.length_cons, a.l, l]
  · obtain ⟨S, av, δ, Qd, x, dx, vs', rfl, hx, h1, h2, h3, a, l, hs, q⟩ := h
    obtain ⟨ts, p, v⟩ := hbody cdv A outer s H E hr
    have nx : ¬ av x := h2.na less_self
    refine ⟨ts, (p ()).nox, ?_⟩
    rw [start_cons]
    refine v ⟨K, S, av, less x H, []⟩ _ _ H _ _ rfl (sok_init hx h1 h2 h3 a) (hsp δ Qd x l hs) ⟨fun σ δ H' s e => ?_, fun _ _ _ _ _ _ e => e.elim, fun _ _ _ _ e => e.elim, fun _ _ _ _ e => e.elim⟩
    obtain ⟨es, h0, e⟩ := e
    obtain ⟨_, _, _, u, hu, ho⟩ := s.sl 0 _ h0
    obtain ⟨dx', fs, rfl, l, rl⟩ := ho.ins
    exact q es H' s.st (rep_ins nx hu l (rl.mono fun b z => .inl z)) e
end
section
variable {ι : Type} {K : PySem.W.Frag} {X : ι → Cx} {z : Bool} {pos : Pos} {e : Expr} {es : List Expr} {et : EvLs}
theorem de_make {x : Str} {p : Pos} {n : Nat} {C : Addr} {sp : SpcI} {dvs : List V} {dd : List Dt} (hp : ∀ {t : TA} i, PA (X i) (e :: es) t → PE (X i) (.Call (.Name x p) (e :: es) [] pos) (tMake C (dspI K C n sp) dvs E0 t)) (hd : ∀ av H, RepL K av H dvs dd) (ha : DLs z K X (e :: es) et) : DE z K X (.Call (.Name x p) (e :: es) [] pos) (fun δ Q => et δ fun ss => (ss ++ dd.map Sl.val).length = n ∧ sp (ss ++ dd.map Sl.val) fun es => Q (.ins C es)) := by
  obtain ⟨t, pa, v⟩ := ha
  refine ⟨_, fun i => hp i (pa i), fun C' σ δ H Q Qd k s e q => ?_⟩
  subst k
  refine v C' σ δ H _ _ rfl s e fun vs ss H1 e1 r e x dx nx ndx dne => ?_
  have s1 := s.step e1
  have kp : ∀ b o, H1 b = some o → less x (upd (upd H1 dx (.own x)) x (.ins C dx [])) b = some o := fun b o h => by
    have b1 : b ≠ x := fun q => by rw [q, nx] at h; cases h
    have b2 : b ≠ dx := fun q => by rw [q, ndx] at h; cases h
    rw [less_ne b1, upd_ne b1, upd_ne b2]
    exact h
  refine ⟨C'.S, Zz z C' δ, ss ++ dd.map Sl.val, fun es => Qd (.ins C es), x, dx, vs ++ dvs, rfl, upd_same, fun b hb => ?_, fun b hb => ?_, s1.g.dep fun b o _ h => kp b o h, (r.app (hd _ _)).st s1.al kp, e.1, e.2, fun es H' st rp qd => ⟨rfl, q _ _ H' (e1.trans ((Stp.of kp).trans st)) rp qd⟩⟩
  · cases z
    · exact s.avs b hb
    · exact .inl (s.avs b hb)
  · obtain ⟨o, ho⟩ := s1.al b hb
    exact ⟨o, kp b o ho⟩
end
end Dl
set_option maxHeartbeats 1000000
/-! enumerate -/
namespace Dl
open PySem PySem.Spec PyProof.Rows L2 Lcn Sq En
def enumFrom (k : Nat) : List Dt → List Dt
  | [] => []
  | d :: r => .tup [.int (k : Int), d] :: enumFrom (k + 1) r
def enumD (ds : List Dt) : List Dt := enumFrom 0 ds
theorem enumFrom_get : ∀ {ds : List Dt} {k i : Nat} {d : Dt}, (enumFrom k ds)[i]? = some d → ∃ e, ds[i]? = some e ∧ d = .tup [.int ((k + i : Nat) : Int), e]
  | [], k, i, d, h => by cases i <;> cases h
  | e :: r, k, 0, d, h => by
    cases h
    exact ⟨e, rfl, rfl⟩
  | e :: r, k, i + 1, d, h => by
    obtain ⟨x, h1, h2⟩ := enumFrom_get (ds := r) (k := k + 1) (i := i) h
    refine ⟨x, h1, ?_⟩
    rw [h2, show k + 1 + i = k + (i + 1) by omega]
theorem enumFrom_len : ∀ {ds : List Dt} {k : Nat}, (enumFrom k ds).length = ds.length
  | [], k => rfl
  | e :: r, k => by
    show (enumFrom (k + 1) r).length + 1 = r.length + 1
    rw [enumFrom_len]
theorem enumFrom_map {α : Type} {f : α → Dt} : ∀ {xs : List α} {k : Nat}, enumFrom k (xs.map f) = (xs.zipIdx k).map fun p => .tup [.int (p.2 : Int), f p.1]
  | [], k => rfl
  | x :: xs, k => by
    show Dt.tup [.int (k : Int), f x] :: enumFrom (k + 1) (xs.map f) = _
    rw [enumFrom_map]
    rfl
theorem walk_enumX {K : PySem.W.Frag} {a : Addr} {n : Nat} : Walk (IteT K a) n (fun H => ∃ xs : List V, xs.length = n ∧ SqT K H a xs) (fun i H v H' => ∃ T x, v = .ref T ∧ H T = none ∧ H' = upd H T (.tup [.int (i : Nat), x]) ∧ ∀ xs, SqT K H a xs → xs[i]? = some x) :=
  ⟨fun i H hi ⟨xs, l, h⟩ => ⟨xs, xs[i], h, by simp [l, hi]⟩, fun H ⟨xs, l, h⟩ => ⟨xs, h, Nat.le_of_eq l⟩, fun i H x H' _ _ y => y⟩
def ivEnumT (et : EvA) : EvA := fun δ Q => et δ fun ds => match ds with
  | [.tup xs] => Q (enumD xs)
  | _ => False
section
variable {ι : Type} {K : PySem.W.Frag} {X : ι → Cx} {z o : Bool} {pos p2 : Pos} {a : Expr} {et : EvA}
theorem di_enumT {elts : List Expr} {kk : Nat} {tpos p : Pos} (hg : ∀ i, Gl (X i) "enumerate") (hm : ∀ i, (X i).mg "enumerate" = none) (ha : DA true K X [a] et) (hs : ∀ i, starEach [a] (X i).env = [(false, eval a (X i).env)] := by intro _; rfl) (hK : ∀ i, (X i).K = K := by intro _; rfl) :
    DI o K X (.Tuple elts kk tpos) (.Call (.Name "enumerate" p) [a] [] pos) (ivEnumT et) := by
  obtain ⟨t, pa, v⟩ := ha
  refine ⟨iEnumT K t, fun i => hK i ▸ pi_enumT (hg i) (hm i) (pa i) (hs i), fun C σ δ H R Qd k s e q => ?_⟩
  subst k
  unfold iEnumT
  refine v C σ δ H _ _ rfl s e fun vs ds H1 e1 r e => ?_
  split at e
  · rename_i xs
    have l1 := r.l
    match vs, l1, r with
    | [x], _, r =>
      have r' := r.head.1
      obtain ⟨p, ys, rfl, hx, lx⟩ := r'.tup_inv
      refine ⟨p, ys, rfl, hx.sq, q _ _ _ _ (enumD xs) H1 (fun _ => True) [(.ref p, .tup xs)] (walk_enumX (n := xs.length)) (by rw [enumD, enumFrom_len]) e1 (fun _ _ => trivial) (fun _ _ => trivial) (fun g m => ?_) ⟨fun av H al _ h => ?_, fun i d av H x H' hd al _ h y => ?_⟩ e⟩
      · rw [List.mem_singleton] at m
        rw [m]
        exact r'
      · obtain ⟨p', ys', e', hy, ly⟩ := (h _ (List.mem_singleton.mpr rfl)).tup_inv
        cases e'
        exact ⟨ys', ly.l, hy.sq⟩
      · obtain ⟨p', ys', e', hy, ly⟩ := (h _ (List.mem_singleton.mpr rfl)).tup_inv
        cases e'
        obtain ⟨T, w, rfl, hT, rfl, hw⟩ := y
        obtain ⟨u, hu, rfl⟩ := enumFrom_get hd
        rw [Nat.zero_add]
        exact ⟨same_new hT, rep_newT al hT (.cons (.int _) (.cons (ly.f i w u (hw ys' hy.sq) hu) .nil))⟩
  · exact e.elim
end
theorem walk_enumY {K : PySem.W.Frag} {a : Addr} {n : Nat} : Walk (Ite K a) n (fun H => ∃ xs : List V, xs.length = n ∧ SqL K H a xs) (fun i H v H' => ∃ T x, v = .ref T ∧ H T = none ∧ H' = upd H T (.tup [.int (i : Nat), x]) ∧ ∀ xs, SqL K H a xs → xs[i]? = some x) :=
  ⟨fun i H hi ⟨xs, l, h⟩ => ⟨xs, xs[i], h, by simp [l, hi]⟩, fun H ⟨xs, l, h⟩ => ⟨xs, h, Nat.le_of_eq l⟩, fun i H x H' _ _ y => y⟩
def ivEnumL (et : EvA) : EvA := fun δ Q => et δ fun ds => match ds with
  | [.lst xs] => Q (enumD xs)
  | _ => False
section
variable {ι : Type} {K : PySem.W.Frag} {X : ι → Cx} {z o : Bool} {pos p2 : Pos} {a : Expr} {et : EvA}
theorem di_enumL {elts : List Expr} {kk : Nat} {tpos p : Pos} (hg : ∀ i, Gl (X i) "enumerate") (hm : ∀ i, (X i).mg "enumerate" = none) (ha : DA true K X [a] et) (hs : ∀ i, starEach [a] (X i).env = [(false, eval a (X i).env)] := by intro _; rfl) (hK : ∀ i, (X i).K = K := by intro _; rfl) :
    DI o K X (.Tuple elts kk tpos) (.Call (.Name "enumerate" p) [a] [] pos) (ivEnumL et) := by
  obtain ⟨t, pa, v⟩ := ha
  refine ⟨iEnum K t, fun i => hK i ▸ pi_enum (hg i) (hm i) (pa i) (hs i), fun C σ δ H R Qd k s e q => ?_⟩
  subst k
  unfold iEnum
  refine v C σ δ H _ _ rfl s e fun vs ds H1 e1 r e => ?_
  split at e
  · rename_i xs
    have l1 := r.l
    match vs, l1, r with
    | [x], _, r =>
      have r' := r.head.1
      obtain ⟨p, ys, rfl, hx, lx⟩ := r'.lst_inv
      refine ⟨p, ys, rfl, hx.sq, q _ _ _ _ (enumD xs) H1 (fun _ => True) [(.ref p, .lst xs)] (walk_enumY (n := xs.length)) (by rw [enumD, enumFrom_len]) e1 (fun _ _ => trivial) (fun _ _ => trivial) (fun g m => ?_) ⟨fun av H al _ h => ?_, fun i d av H x H' hd al _ h y => ?_⟩ e⟩
      · rw [List.mem_singleton] at m
        rw [m]
        exact r'
      · obtain ⟨p', ys', e', hy, ly⟩ := (h _ (List.mem_singleton.mpr rfl)).lst_inv
        cases e'
        exact ⟨ys', ly.l, hy.sq⟩
      · obtain ⟨p', ys', e', hy, ly⟩ := (h _ (List.mem_singleton.mpr rfl)).lst_inv
        cases e'
        obtain ⟨T, w, rfl, hT, rfl, hw⟩ := y
        obtain ⟨u, hu, rfl⟩ := enumFrom_get hd
        rw [Nat.zero_add]
        exact ⟨same_new hT, rep_newT al hT (.cons (.int _) (.cons (ly.f i w u (hw ys' hy.sq) hu) .nil))⟩
  · exact e.elim
end
end Dl
set_option maxHeartbeats 1000000
/-! comprehensions of several clauses -/
namespace Dl
open PySem PySem.Spec PyProof.Rows L2 Lcn Sq
theorem turns_it {J : It} {n : Nat} {G : Hp → Prop} {Y : Nat → Hp → V → Hp → Prop} (w : Walk J n G Y) {g : TG} {tt : TT} {t1 : TB} {vs : List Nat} {σ : L2.St} {H1 : Hp} {D : Addr} {Z : Hp → Prop} (Pv : Nat → Hp → Prop) (h0 : Pv 0 H1) (hg : ∀ i H, i ≤ n → Pv i H → G H)
    (hs : ∀ i x H H', i < n → Pv i H → Y i H x H' → g x (L2.wipe σ vs) H' fun σ2 H2 => L2.wipe σ2 vs = L2.wipe σ vs ∧ tt σ2 H2 fun b H3 => if b = true then t1 D σ2 H3 (Pv (i + 1)) else Pv (i + 1) H3) (hd : ∀ H, Pv n H → Z H) : tTurns g tt t1 vs J D σ Z H1 := by
  refine ⟨fun i m H => Pv i H ∧ i + m = n, ⟨n, h0, by omega⟩, fun i m H ⟨p, e⟩ => ?_⟩
  cases m with
  | zero =>
    have e : i = n := e
    subst e
    exact .inl ⟨w.stops H (hg i H (Nat.le_refl _) p), hd H p⟩
  | succ m => exact .inr ⟨w.goes i H (by omega) (hg i H (by omega) p), Pv (i + 1), fun H' p' => ⟨m, Nat.lt_succ_self m, p', by omega⟩, fun x H' y => hs i x H H' (by omega) p (w.yields i H x H' (by omega) (hg i H (by omega) p) y)⟩
abbrev EvB := List Dt → List Sl → (List Dt → Prop) → Prop
def dEndB (ev : EvE) : EvB := fun acc δ Q => acc.length < sizeLine ∧ ev δ fun y => Q (acc ++ [y])
def dTurns (gv : Dt → List Sl → (List Sl → Prop) → Prop) (tv : EvT) (bv : EvB) (vs : List Nat) : List Dt → List Dt → List Sl → (List Dt → Prop) → Prop
  | [], acc, _, Q => Q acc
  | d :: r, acc, δ, Q => gv d (wipeS δ vs) fun δ2 => tv δ2 fun b => if b = true then bv acc δ2 fun acc' => dTurns gv tv bv vs r acc' δ Q else dTurns gv tv bv vs r acc δ Q
def dClB (iv : EvA) (gv : Dt → List Sl → (List Sl → Prop) → Prop) (tv : EvT) (bv : EvB) (vs : List Nat) : EvB := fun acc δ Q => iv δ fun ds => noOwn vs δ = true ∧ dTurns gv tv bv vs ds acc δ Q
def dLcM (iv : EvA) (gv : Dt → List Sl → (List Sl → Prop) → Prop) (tv : EvT) (bv : EvB) (vs : List Nat) : EvN := fun δ Q => iv δ fun ds => noOwn vs δ = true ∧ dTurns gv tv bv vs ds [] δ Q
def VB (K : PySem.W.Frag) (tb : TB) (bv : EvB) : Prop := ∀ (C : Ctx) (σ : L2.St) (δ : List Sl) (H : Hp) (D : Addr) (acc : List V) (accd : List Dt) (A : Addr → Prop) (Nx : Hp → Prop) (Qd : List Dt → Prop), C.K = K → Sok (C.plus D) H σ δ → ¬ sa C.S D → C.H0 D = none → (∀ b, A b → Zd (C.plus D) δ b) → A D → (∀ b, ch C.S b → A b) → H D = some (.lst acc) → RepL K A H acc accd → bv accd δ Qd →
  (∀ acc' accd' H', (∀ b u, ¬ ch C.S b → b ≠ D → H b = some u → H' b = some u) → Gs C.S H' → H' D = some (.lst acc') → RepL K A H' acc' accd' → Qd accd' → Nx H') → tb D σ H Nx
theorem vb_end {K : PySem.W.Frag} {te : TE} {ev : EvE} (he : VE true K te ev) : VB K (tEnd te) (dEndB ev) := by
  intro C σ δ H D acc accd A Nx Qd hk s nsa h0 hA hAD hAc hD ra e k
  subst hk
  have nch : ¬ ch C.S D := fun c => nsa (ch_sa c)
  obtain ⟨hz, e⟩ := e
  refine he (C.plus D) σ δ H _ _ rfl s e fun yv yd H4 e4 ry e => ?_
  have d4 := e4.keep D _ nch hD
  have k4 : ∀ b u, ¬ ch C.S b → H b = some u → H4 b = some u := e4.keep
  refine ⟨acc, d4, by rw [ra.l]; exact hz, k (acc ++ [yv]) (accd ++ [yd]) _ (fun b u c n h => by rw [upd_ne n]; exact k4 b u c h) ?_ upd_same ?_ e⟩
  · refine ((s.step e4).g : Gs C.S H4).dep fun b u c h => ?_
    rw [upd_ne (fun (zz : b = D) => nsa (by rw [← zz]; exact c))]
    exact h
  · have r1 : RepL C.K A H4 (acc ++ [yv]) (accd ++ [yd]) := (ra.move (fun b u n h => k4 b u (fun c => n (hAc b c)) h) fun _ z => .inl z).append (.cons (ry.mono hA) .nil)
    exact r1.move (fun b u n h => by rw [upd_ne (fun (zz : b = D) => n (by rw [zz]; exact hAD))]; exact h) fun _ z => .inl z
theorem turns_core {C : Ctx} {σ : L2.St} {δ : List Sl} {H1 : Hp} {D : Addr} {acc : List V} {accd : List Dt} {A : Addr → Prop} {Z : Hp → Prop} {Qd : List Dt → Prop} {J : It} {n : Nat} {G : Hp → Prop} {Y : Nat → Hp → V → Hp → Prop} {ds : List Dt} {base : Hp → Prop} {gs : List (V × Dt)} {g : TG} {tt : TT} {t1 : TB} {is vs : List Nat} {gv : Dt → List Sl → (List Sl → Prop) → Prop} {tv : EvT} {bv : EvB}
    (w : Walk J n G Y) (hn : ds.length = n) (s1 : Sok (C.plus D) H1 σ δ) (nsa : ¬ sa C.S D) (h0 : C.H0 D = none) (hA : ∀ b, A b → Zd (C.plus D) δ b) (hAD : A D) (hAc : ∀ b, ch C.S b → A b) (hb : ∀ Hc, (∀ b u, ¬ ch C.S b → b ≠ D → H1 b = some u → Hc b = some u) → base Hc) (hgs : ∀ g, g ∈ gs → Rep C.K (Zd (C.plus D) δ) H1 g.1 g.2) (it : ItOk C.K base gs G Y ds)
    (hg : VG C.K g gv is) (hv : ∀ i, i ∈ is → i ∈ vs) (ht : VT C.K tt tv) (hbv : VB C.K t1 bv) (no : noOwn vs δ = true) (hD : H1 D = some (.lst acc)) (ra : RepL C.K A H1 acc accd) (e : dTurns gv tv bv vs ds accd δ Qd)
    (k : ∀ acc' accd' H', (∀ b u, ¬ ch C.S b → b ≠ D → H1 b = some u → H' b = some u) → Gs C.S H' → H' D = some (.lst acc') → RepL C.K A H' acc' accd' → Qd accd' → Z H') : tTurns g tt t1 vs J D σ Z H1 := by
  have nch : ¬ ch C.S D := fun c => nsa (ch_sa c)
  refine turns_it w (fun i Hc => (∀ b u, ¬ ch C.S b → b ≠ D → H1 b = some u → Hc b = some u) ∧ Gs C.S Hc ∧ ∃ acc accd, Hc D = some (.lst acc) ∧ RepL C.K A Hc acc accd ∧ dTurns gv tv bv vs (ds.drop i) accd δ Qd) ?_ ?_ ?_ ?_
  · exact ⟨fun b u _ _ h => h, s1.g, acc, accd, hD, ra, by rw [List.drop_zero]; exact e⟩
  · rintro i Hc _ ⟨kp, gs', acc, accd, hDl, ra, e⟩
    have sC : Sok (C.plus D) Hc σ δ := s1.plusStep kp gs' h0 ⟨_, hDl⟩
    refine it.g (Zd (C.plus D) δ) Hc (fun b zb => sC.alz b zb) (hb Hc kp) fun g m => (hgs g m).move (fun b u nz h => kp b u (fun c => nz (zch s1 c)) (fun zz => nz (zd_plus.mpr (.inr zz))) h) fun _ z => .inl z
  · rintro i x Hc H' hi2 ⟨kp, gs', acc, accd, hDl, ra, e⟩ y
    have hid : i < ds.length := by omega
    have hdr : ds.drop i = ds[i] :: ds.drop (i + 1) := List.drop_eq_getElem_cons hid
    rw [hdr] at e
    have sC : Sok (C.plus D) Hc σ δ := s1.plusStep kp gs' h0 ⟨_, hDl⟩
    obtain ⟨sm, rx⟩ := it.y i ds[i] (Zd (C.plus D) δ) Hc x H' (List.getElem?_eq_getElem hid) (fun b zb => sC.alz b zb) (hb Hc kp) (fun g m => (hgs g m).move (fun b u nz h => kp b u (fun c => nz (zch s1 c)) (fun zz => nz (zd_plus.mpr (.inr zz))) h) fun _ z => .inl z) y
    have sB : Sok (C.plus D) H' (L2.wipe σ vs) (wipeS δ vs) := (sC.step (Stp.of sm)).wipe vs
    refine hg (C.plus D) _ _ H' x ds[i] _ _ rfl sB (rx.mono fun b zb => zd_ow (ow_wipe δ vs) zb) e fun σ2 δ2 s2 w2 z2 o2 e => ⟨by rw [w2 vs hv, wipe_idem σ vs vs fun _ m => m], ?_⟩
    refine ht (C.plus D) σ2 δ2 H' _ _ rfl s2 e fun b H3 e3 e => ?_
    have k3 : ∀ b u, ¬ ch C.S b → Hc b = some u → H3 b = some u := fun b u c h => e3.keep b u c (sm b u h)
    have r3 : RepL C.K A H3 acc accd := ra.move (fun b u nz h => k3 b u (fun c => nz (hAc b c)) h) fun _ z => .inl z
    cases b
    · rw [if_neg Bool.false_ne_true] at e ⊢
      exact ⟨fun b u c nz h => k3 b u c (kp b u c nz h), (s2.step e3).g, acc, accd, k3 D _ nch hDl, r3, e⟩
    · rw [if_pos rfl] at e ⊢
      have ge : ∀ b, Zd (C.plus D) δ b → Zd (C.plus D) δ2 b := fun b zb => by
        have z1 : Zd (C.plus D) (wipeS δ vs) b := (ow_wipe δ vs).ge no zb
        refine o2.ge ?_ z1
        refine List.all_eq_true.mpr fun j mj => ?_
        cases hq : (wipeS δ vs)[j]? with
        | none => rfl
        | some u =>
          cases u with
          | own a es =>
            have h1 := (ow_wipe δ vs).old j a es hq
            have h2 := List.all_eq_true.mp no j (hv j mj)
            rw [h1] at h2
            cases h2
          | _ => rfl
      refine hbv C σ2 δ2 H3 D acc accd A _ _ rfl (s2.step e3) nsa h0 (fun b ab => ge b (hA b ab)) hAD hAc (k3 D _ nch hDl) r3 e fun acc' accd' H4 k4 g4 d4 r4 e => ?_
      exact ⟨fun b u c nz h => k4 b u c nz (k3 b u c (kp b u c nz h)), g4, acc', accd', d4, r4, e⟩
  · rintro Hc ⟨kp, gs', acc, accd, hDl, ra, e⟩
    rw [List.drop_eq_nil_of_le (by omega)] at e
    exact k acc accd Hc kp gs' hDl ra e
theorem vb_cl {K : PySem.W.Frag} {wi : TI} {iv : EvA} {g : TG} {tt : TT} {t1 : TB} {is vs : List Nat} {gv : Dt → List Sl → (List Sl → Prop) → Prop} {tv : EvT} {bv : EvB} (hi : VI false K wi iv) (hg : VG K g gv is) (hv : ∀ i, i ∈ is → i ∈ vs) (ht : VT K tt tv) (hbv : VB K t1 bv) : VB K (tCl wi g tt t1 vs) (dClB iv gv tv bv vs) := by
  intro C σ δ H D acc accd A Nx Qd hk s nsa h0 hA hAD hAc hD ra e k
  subst hk
  have nch : ¬ ch C.S D := fun c => nsa (ch_sa c)
  refine hi (C.plus D) σ δ H _ _ rfl s e fun J n G Y ds H1 base gs w hn e1 hb0 hb hgs it e => ?_
  have s1 := s.step e1
  refine turns_core w hn s1 nsa h0 hA hAD hAc (fun Hc _ => hb0 rfl Hc) hgs it hg hv ht hbv e.1 (e1.keep D _ nch hD) (ra.move (fun b u nz h => e1.keep b u (fun c => nz (hAc b c)) h) fun _ z => .inl z) e.2 fun acc' accd' H' k4 g4 d4 r4 e => k acc' accd' H' (fun b u c nz h => k4 b u c nz (e1.keep b u c h)) g4 d4 r4 e
theorem vn_lcm {o : Bool} {K : PySem.W.Frag} {wi : TI} {iv : EvA} {g : TG} {tt : TT} {t1 : TB} {is vs : List Nat} {gv : Dt → List Sl → (List Sl → Prop) → Prop} {tv : EvT} {bv : EvB} (hi : VI o K wi iv) (hg : VG K g gv is) (hv : ∀ i, i ∈ is → i ∈ vs) (ht : VT K tt tv) (hbv : VB K t1 bv) : VN K (tLcN wi g tt t1 vs) (dLcM iv gv tv bv vs) := by
  intro C σ δ H Q Qd hk s e q
  subst hk
  refine hi C σ δ H _ _ rfl s e fun J n G Y ds H1 base gs w hn e1 hb0 hb hgs it e => ?_
  intro D hD
  have s1 := s.step e1
  have nsa : ¬ sa C.S D := fun c => (s1.ava.na hD) (s1.avs D c)
  have nch : ¬ ch C.S D := fun c => nsa (ch_sa c)
  have hD0 : H D = none := by
    cases x : H D with
    | none => rfl
    | some u =>
      rw [e1.keep D u nch x] at hD
      cases hD
  have sP : Sok (C.plus D) (upd H1 D (.lst [])) σ δ := s1.plus hD
  have kp0 : ∀ b u, H1 b = some u → upd H1 D (.lst []) b = some u := same_new hD
  refine turns_core (A := fun b => Zd C δ b ∨ b = D) w hn sP nsa (s.h0 hD0) (fun b zb => zd_plus.mpr zb) (.inr rfl) (fun b c => .inl (zch s1 c)) (fun Hc kp => hb Hc fun b u c h => kp b u c (fun zz => by rw [zz, hD] at h; cases h) (kp0 b u h)) (fun g m => (hgs g m).move (fun b u nz h => kp0 b u h) fun b zb => ?_) it hg hv ht hbv e.1 upd_same .nil e.2 fun acc' accd' H' k4 g4 d4 r4 e => q D acc' accd' H' hD0 ⟨fun b u c h => k4 b u c (fun zz => by rw [zz, hD0] at h; cases h) (kp0 b u (e1.keep b u c h)), fun _ => g4⟩ d4 r4 e
  rcases zd_plus.mp zb with zb | zz
  · exact .inl zb
  · exact .inr (by rw [zz]; exact hD)
/-! as judgements -/
def DB {ι : Type} (K : PySem.W.Frag) (X : ι → Cx) (elt : Expr) (gens : List Comprehension) (scope : Scope) (pos : Pos) (d : Nat) (vs : List Nat) (bv : EvB) : Prop := ∃ tb, (∀ i, PB (X i) elt gens scope pos d vs tb) ∧ VB K tb bv
section
variable {ι : Type} {K : PySem.W.Frag} {X : ι → Cx} {o : Bool} {pos : Pos} {elt tg iter : Expr} {gens more : List Comprehension} {ifs : List Expr} {scope : Scope} {d : Nat} {is vs vs1 : List Nat} {iv : EvA} {gv : Dt → List Sl → (List Sl → Prop) → Prop} {tv : EvT} {ev : EvE} {bv : EvB} {own : List (Str × Nat)}
theorem db_end (he : DE true K X elt ev) (hx : ∀ i, (X i).xe = fun _ _ => False := by intro _; rfl) (hd : gens[d]? = none := by rfl) : DB K X elt gens scope pos d [] (dEndB ev) := by
  obtain ⟨t, p, v⟩ := he
  exact ⟨_, fun i => pb_end (hx i) hd (p i), vb_end v⟩
theorem db_cl (hi : DI false K X tg iter iv) (hg : DG K X tg gv is) (ht : DTs K X ifs tv) (hb : DB K X elt gens scope pos (d + 1) vs1 bv) (hv : ∀ i, i ∈ vs1 → i ∈ vs) (hv2 : ∀ i, i ∈ is → i ∈ vs) (hsync : ∀ g, g ∈ gens → g.is_async = 0) (hx : ∀ i, (X i).xe = fun _ _ => False := by intro _; rfl) (hc : ∀ i, (X i).calm = true := by intro _; rfl) (hd : gens[d]? = some ⟨tg, iter, ifs, 0⟩ := by rfl)
    (hs : ∀ env x, foldedSetIterable iter env x = pure x := by intro _ _; rfl) : DB K X elt gens scope pos d vs (dClB iv gv tv bv vs) := by
  obtain ⟨wi, pi, vi⟩ := hi
  obtain ⟨g, pg, vg⟩ := hg
  obtain ⟨tt, pt, vt⟩ := ht
  obtain ⟨tb, pb, vb⟩ := hb
  exact ⟨_, fun i => pb_cl (hx i) (hc i) hsync hd (pi i) (pg i) (pt i) (pb i) hv hs, vb_cl vi vg hv2 vt vb⟩
theorem dn_lcm (hc : ∀ i, (X i).calm = true) (hN : ∀ i, (X i).N.Nodup) (hi : DI o K X tg iter iv) (ok : ∀ i, BlkOk (X i).N (X i).env.scope scope own) (hsync : ∀ g, g ∈ (⟨tg, iter, ifs, 0⟩ :: more : List Comprehension) → g.is_async = 0)
    (hg : DG K (bk X scope) tg gv is) (ht : DTs K (bk X scope) ifs tv) (hb : DB K (bk X scope) elt (⟨tg, iter, ifs, 0⟩ :: more) scope pos 1 vs1 bv) (hv : ∀ i, i ∈ vs1 → i ∈ own.map (·.2)) (hv2 : ∀ i, i ∈ is → i ∈ own.map (·.2)) (hs : ∀ i, ∀ x, foldedSetIterable iter (X i).env x = pure x := by intro _ _; rfl) :
    DN K X (.ListComp elt (⟨tg, iter, ifs, 0⟩ :: more) scope pos) (dLcM iv gv tv bv (own.map (·.2))) := by
  obtain ⟨wi, pi, vi⟩ := hi
  obtain ⟨g, pg, vg⟩ := hg
  obtain ⟨tt, pt, vt⟩ := ht
  obtain ⟨tb, pb, vb⟩ := hb
  exact ⟨_, fun i => pe_lcn (hc i) (hN i) (pi i) (ok i) hsync (fun s H C cl fp => pg (i, s, H, C, cl, fp)) (fun s H C cl fp => pt (i, s, H, C, cl, fp)) (fun s H C cl fp => pb (i, s, H, C, cl, fp)) hv (hs i), vn_lcm vi vg hv2 vt vb⟩
end
/-! readings: the turns over a map -/
section
variable {α : Type} {gv : Dt → List Sl → (List Sl → Prop) → Prop} {tv : EvT} {bv : EvB} {vs : List Nat} {δ : List Sl} {g : α → Dt}
/-- each element adds its own row -/
theorem turns_map (f : α → List Dt) : ∀ (xs : List α) (acc : List Dt) (Q : List Dt → Prop), (∀ x, x ∈ xs → ∀ (acc : List Dt) (Q : List Dt → Prop), Q (acc ++ f x) → gv (g x) (wipeS δ vs) fun δ2 => tv δ2 fun b => if b = true then bv acc δ2 Q else Q acc) → Q (acc ++ (xs.map f).flatten) → dTurns gv tv bv vs (xs.map g) acc δ Q
  | [], acc, Q, _, q => by
    have : acc ++ (([] : List α).map f).flatten = acc := by simp
    rw [this] at q
    exact q
  | x :: xs, acc, Q, hs, q => by
    rw [List.map_cons]
    refine hs x (List.mem_cons_self ..) acc (fun acc' => dTurns gv tv bv vs (xs.map g) acc' δ Q) ?_
    refine turns_map f xs _ Q (fun y m => hs y (List.mem_cons_of_mem _ m)) ?_
    rw [List.append_assoc]
    rw [List.map_cons, List.flatten_cons] at q
    exact q
end
end Dl
set_option maxHeartbeats 1000000
/-! isinstance: two kinds, own classes -/
namespace Dl
open PySem PySem.Spec PyProof.Rows L2 Lcn Sq
theorem kit_two {K : PySem.W.Frag} {t T1 T2 : String} {b : Bool} (h : ((kitB t T1).bind fun b => if b = true then some true else (kitB t T2).bind fun b => if b = true then some true else some false) = some b) : PySem.W.kitAny K (.type t) [.type T1, .type T2] = some b := by
  cases h1 : kitB t T1 with
  | none => rw [h1] at h; cases h
  | some b1 =>
    rw [h1] at h
    cases b1 with
    | true =>
      cases h
      exact kitAny_cons (b := true) (kit_ty h1) (fun z => nomatch z) (fun _ => rfl)
    | false =>
      refine kitAny_cons (b := false) (kit_ty h1) (fun _ => ?_) (fun z => nomatch z)
      have h : ((kitB t T2).bind fun b => if b = true then some true else some false) = some b := h
      cases h2 : kitB t T2 with
      | none => rw [h2] at h; cases h
      | some b2 =>
        rw [h2] at h
        cases b2 with
        | true =>
          cases h
          exact kitAny_cons (b := true) (kit_ty h2) (fun z => nomatch z) (fun _ => rfl)
        | false =>
          cases h
          exact kitAny_cons (b := false) (kit_ty h2) (fun _ => rfl) (fun z => nomatch z)
section
variable {ι : Type} {K : PySem.W.Frag} {X : ι → Cx} {z : Bool} {pos p2 : Pos} {a b c e : Expr} {es : List Expr} {ea : EvE}
theorem de_isi2 {T1 T2 : Str} {S1 S2 : String} {p q1 q2 tpos : Pos} {kk : Nat} (ha : DE false K X a ea) (h1 : ∀ i, PE (X i) (.Name T1 q1) (tC (.ty S1))) (h2 : ∀ i, PE (X i) (.Name T2 q2) (tC (.ty S2))) (hg : ∀ i, Gl (X i) "isinstance") (hm : ∀ i, (X i).mg "isinstance" = none)
    (hs : ∀ i, starEach [a, .Tuple [.Name T1 q1, .Name T2 q2] kk tpos] (X i).env = (false, eval a (X i).env) :: starEach [.Tuple [.Name T1 q1, .Name T2 q2] kk tpos] (X i).env := by intro _; rfl) (hs2 : ∀ i, starEach [.Tuple [.Name T1 q1, .Name T2 q2] kk tpos] (X i).env = [(false, eval (.Tuple [.Name T1 q1, .Name T2 q2] kk tpos) (X i).env)] := by intro _; rfl)
    (hs3 : ∀ i, starEach [.Name T1 q1, .Name T2 q2] (X i).env = (false, eval (.Name T1 q1) (X i).env) :: starEach [.Name T2 q2] (X i).env := by intro _; rfl) (hs4 : ∀ i, starEach [.Name T2 q2] (X i).env = [(false, eval (.Name T2 q2) (X i).env)] := by intro _; rfl)
    (hpl : ∀ i, (backTo pos (starEach [.Tuple [.Name T1 q1, .Name T2 q2] kk tpos] (X i).env)).any (·.1) = false := by intro _; rfl) (hK : ∀ i, (X i).K = K := by intro _; rfl) : DE z K X (.Call (.Name "isinstance" p) [a, .Tuple [.Name T1 q1, .Name T2 q2] kk tpos] [] pos) (dIsi [S1, S2] ea) := by
  obtain ⟨ta, pa, va⟩ := ha
  refine ⟨_, fun i => pe_callB (hK i ▸ call_isiT : CallR (X i) (.builtin "isinstance") (rIsiT K)) (hg i) (hm i) (by decide +kernel) (pa_cons (pa i) (pa_cons (pe_tup (pa_cons (h1 i) (pa_cons (h2 i) pa_nil (hs4 i)) (hs3 i))) pa_nil (hs2 i)) (hs i)) (he := hs i) (hpl := hpl i), fun C σ δ H Q Qd k s e q => ?_⟩
  subst k
  refine va C σ δ H _ _ rfl s e fun x d H1 e1 r1 e => ⟨(by show 2 ≤ sizeLine; decide), fun p hp => ?_⟩
  obtain ⟨b, hb, e⟩ := e
  unfold isiB at hb
  cases ht : tyD d with
  | none => rw [ht] at hb; cases hb
  | some t =>
    rw [ht] at hb
    have s1 := s.step e1
    have r2 : Rep C.K C.av (upd H1 p (.tup [.ty S1, .ty S2])) x d := r1.move (fun b u _ h => same_new hp b u h) fun b zb => .inl zb
    exact ⟨x, p, _, .type t, [.type S1, .type S2], b, rfl, upd_same, .cons (.ty _) (.cons (.ty _) .nil), ty_rep r2 ht, kit_two hb, q _ _ _ (e1.trans (Stp.new hp)) (.bl _) e⟩
/-- own classes -/
def dIsiC (K : PySem.W.Frag) (C : Addr) (x : Dt) (Q : Dt → Prop) : Prop := match x with
  | .ins C' _ => C8.InsC K C' ∧ ∃ b, PySem.W.kitOne K (.ref C') (.ref C) = some b ∧ Q (.bl b)
  | x => ∃ t b, tyD x = some t ∧ PySem.W.kitOne K (.type t) (.ref C) = some b ∧ Q (.bl b)
theorem de_isiC {T : Str} {C : Addr} {p q2 : Pos} (ha : DE false K X a ea) (hT : ∀ i, PE (X i) (.Name T q2) (tC (.ref C))) (hg : ∀ i, Gl (X i) "isinstance") (hm : ∀ i, (X i).mg "isinstance" = none)
    (hs : ∀ i, starEach [a, .Name T q2] (X i).env = (false, eval a (X i).env) :: starEach [.Name T q2] (X i).env := by intro _; rfl) (hs2 : ∀ i, starEach [.Name T q2] (X i).env = [(false, eval (.Name T q2) (X i).env)] := by intro _; rfl)
    (hpl : ∀ i, (backTo pos (starEach [.Name T q2] (X i).env)).any (·.1) = false := by intro _; rfl) (hK : ∀ i, (X i).K = K := by intro _; rfl) : DE z K X (.Call (.Name "isinstance" p) [a, .Name T q2] [] pos) (fun δ Q => ea δ fun d => dIsiC K C d Q) := by
  obtain ⟨ta, pa, va⟩ := ha
  refine ⟨_, fun i => pe_callB (hK i ▸ call_isi : CallR (X i) (.builtin "isinstance") (rIsi K)) (hg i) (hm i) (by decide +kernel) (pa_cons (pa i) (pa_cons (hT i) pa_nil (hs2 i)) (hs i)) (he := hs i) (hpl := hpl i), fun C' σ δ H Q Qd k s e q => ?_⟩
  subst k
  refine va C' σ δ H _ _ rfl s e fun x d H1 e1 r1 e => ?_
  have other : ∀ {t : String} {b : Bool}, tyD d = some t → PySem.W.kitOne C'.K (.type t) (.ref C) = some b → Qd (.bl b) → rIsi C'.K [x, .ref C] H1 Q := fun ht hk e => ⟨x, .ref C, .type _, .ref C, _, rfl, .own _, ty_rep r1 ht, hk, q _ _ H1 e1 (.bl _) e⟩
  cases d with
  | ins D es =>
    obtain ⟨hi, b, hk, e⟩ := e
    obtain ⟨a', dx, fs, rfl, _, hh, _, _⟩ := ins_fields r1
    exact ⟨_, .ref C, .ref D, .ref C, b, rfl, .own _, .base (TyOf.ins hh hi.cl hi.ha hi.hn hi.htk hi.hm), hk, q _ _ H1 e1 (.bl _) e⟩
  | _ =>
    obtain ⟨t, b, ht, hk, e⟩ := e
    exact other ht hk e
end
end Dl
set_option maxHeartbeats 1000000
/-! small readings -/
namespace Dl
open PySem PySem.Spec PyProof.Rows L2 Lcn Sq
theorem ite_t {c : Bool} {A B : Prop} (e : c = true) (h : A) : if c = true then A else B := by rw [if_pos e]; exact h
theorem ite_f {c : Bool} {A B : Prop} (e : c = false) (h : B) : if c = true then A else B := by rw [e, if_neg Bool.false_ne_true]; exact h
theorem dAdd_int {i j k : Int} {Q : Dt → Prop} (h : i + j = k) (q : Q (.int k)) : dAdd (.int i) (.int j) Q := by
  subst h
  exact q
theorem dEq_int {i j : Int} {neg : Bool} {Q : Dt → Prop} (b : Bool) (hb : (if neg then !decide (i = j) else decide (i = j)) = b) (q : Q (.bl b)) : dEq neg (.int i) (.int j) Q := dEq_sep (f := Dt.int) sep_int (n := 0) (fit_int 0) (by decide) (by rw [hb]; exact q)
theorem dEq_iL {x y : List Int} {neg : Bool} {Q : Dt → Prop} (b : Bool) (hb : (if neg then !decide (x = y) else decide (x = y)) = b) (q : Q (.bl b)) : dEq neg (iL x) (iL y) Q := dEq_sep (f := iL) sep_iL (n := 1) fit_iL (by decide) (by rw [hb]; exact q)
theorem dEq_iT {x y : List Int} {neg : Bool} {Q : Dt → Prop} (b : Bool) (hb : (if neg then !decide (x = y) else decide (x = y)) = b) (q : Q (.bl b)) : dEq neg (iT x) (iT y) Q := dEq_sep (f := iT) sep_iT (n := 1) fit_iT (by decide) (by rw [hb]; exact q)
theorem map_int2 {α : Type} (f : α → Int) (xs : List α) : (xs.map fun x => Dt.int (f x)) = (xs.map f).map .int := by rw [List.map_map]; rfl
theorem zlen {α β : Type} {xs : List α} {ys : List β} (h : xs.length < 1000) : (xs.zip ys).length < sizeLine := k1000 (Nat.lt_of_le_of_lt (by rw [List.length_zip]; exact Nat.min_le_left _ _) h)
theorem take_one {α : Type} {xs : List α} {i : Nat} {x : α} (h : xs[i]? = some x) : xs.take (i + 1) = xs.take i ++ [x] := by rw [List.take_add_one, h]; rfl
theorem filt_t {α : Type} {p : α → Bool} {x : α} (h : p x = true) : [x].filter p = [x] := by rw [List.filter_cons_of_pos h]; rfl
theorem filt_f {α : Type} {p : α → Bool} {x : α} (h : p x = false) : [x].filter p = [] := by rw [List.filter_cons_of_neg (by rw [h]; exact Bool.false_ne_true)]; rfl
/-- a slot that may be unset -/
def vl : Option Dt → Sl
  | none => .any
  | some d => .val d
/-- all([..]) of Trues -/
theorem all_true {α : Type} (xs : List α) : (xs.map fun _ => Dt.bl true) = ((xs.map fun _ => true).map Dt.bl) := by rw [List.map_map]; rfl
theorem isi_seq {d : Dt} {ds : List Dt} (h : itemsD d = some ds) : isiB ["list", "tuple"] d = some true := by
  have e : ∀ t : String, t = "list" ∨ t = "tuple" → (["list", "tuple"].foldr (fun T r => (kitB t T).bind fun b => if b = true then some true else r) (some false)) = some true := fun t h => by
    rcases h with rfl | rfl <;> decide +kernel
  cases d with
  | lst xs => exact e "list" (.inl rfl)
  | tup xs => exact e "tuple" (.inr rfl)
  | _ => cases h
theorem dLen_items {d : Dt} {ds : List Dt} {Q : Dt → Prop} (h : itemsD d = some ds) (q : Q (.int (ds.length : Int))) : dLen [d] Q := by
  cases d <;> first | (cases h; exact q) | cases h
theorem dIx_items {d : Dt} {ds : List Dt} {i : Int} {x : Dt} {Q : Dt → Prop} (h : itemsD d = some ds) (hx : atI ds i = some x) (q : Q x) : dIx d (.int i) Q := by
  cases d <;> first | (cases h; exact ⟨_, hx, q⟩) | cases h
theorem ivSeq_items {ea : EvE} {δ : List Sl} {d : Dt} {ds : List Dt} {Q : List Dt → Prop} (he : ea δ = fun Q => Q d) (h : itemsD d = some ds) (q : Q ds) : ivSeq ea δ Q := by
  unfold ivSeq
  rw [he]
  cases d <;> first | (cases h; exact q) | cases h
theorem gvTup_items {gs : List Dt → List Sl → (List Sl → Prop) → Prop} {n : Nat} {d : Dt} {ds : List Dt} {δ : List Sl} {Q : List Sl → Prop} (h : itemsD d = some ds) (hl : ds.length = n) (q : gs ds δ Q) : gvTup gs n d δ Q := by
  unfold gvTup
  cases d <;> first | (cases h; exact ⟨hl, q⟩) | cases h
theorem dTuple_items {d : Dt} {ds : List Dt} {Q : Dt → Prop} (h : itemsD d = some ds) (q : Q (.tup ds)) : dTuple [d] Q := by
  cases d <;> first | (cases h; exact q) | cases h
/-- a list or a tuple of things that are told by P -/
def SeqD {α : Type} (P : α → Dt → Prop) (d : Dt) (xs : List α) : Prop := ∃ zs : List (α × Dt), itemsD d = some (zs.map (·.2)) ∧ (∀ p, p ∈ zs → P p.1 p.2) ∧ xs = zs.map (·.1)
def IntsD (d : Dt) (ns : List Int) : Prop := itemsD d = some (ns.map .int)
theorem ints_tup (ns : List Int) : IntsD (iT ns) ns := rfl
theorem ints_lst (ns : List Int) : IntsD (iL ns) ns := rfl
theorem SeqD.of {α : Type} {P : α → Dt → Prop} {f : α → Dt} {xs : List α} (h : ∀ x, x ∈ xs → P x (f x)) : SeqD P (.tup (xs.map f)) xs ∧ SeqD P (.lst (xs.map f)) xs := by
  have e1 : (xs.map fun x => (x, f x)).map (·.2) = xs.map f := by rw [List.map_map]; rfl
  have e2 : xs = (xs.map fun x => (x, f x)).map (·.1) := by rw [List.map_map]; exact (List.map_id _).symm
  refine ⟨⟨xs.map fun x => (x, f x), by rw [e1]; rfl, fun p hp => ?_, e2⟩, ⟨xs.map fun x => (x, f x), by rw [e1]; rfl, fun p hp => ?_, e2⟩⟩ <;>
  · obtain ⟨x, hx, rfl⟩ := List.mem_map.mp hp
    exact h x hx
theorem items_cases {d : Dt} {ds : List Dt} (h : itemsD d = some ds) : d = .lst ds ∨ d = .tup ds := by
  cases d with
  | lst xs =>
    cases h
    exact .inl rfl
  | tup xs =>
    cases h
    exact .inr rfl
  | _ => cases h
theorem all_rep {n : Nat} : (List.replicate n true).all id = true := by simp
theorem rep_bl {α : Type} (xs : List α) : (xs.map fun _ => Dt.bl true) = (List.replicate xs.length true).map Dt.bl := by
  rw [List.map_replicate, ← List.map_const']
/-- clauses: what each element adds, within a bound -/
theorem turns_bd {α : Type} {gv : Dt → List Sl → (List Sl → Prop) → Prop} {tv : EvT} {bv : EvB} {vs : List Nat} {δ : List Sl} {g : α → Dt} (f : α → List Dt) (N : Nat) : ∀ (xs : List α) (acc : List Dt) (Q : List Dt → Prop), acc.length + (xs.map f).flatten.length ≤ N → (∀ x, x ∈ xs → ∀ (acc : List Dt) (Q : List Dt → Prop), acc.length + (f x).length ≤ N → Q (acc ++ f x) → gv (g x) (wipeS δ vs) fun δ2 => tv δ2 fun b => if b = true then bv acc δ2 Q else Q acc) → Q (acc ++ (xs.map f).flatten) → dTurns gv tv bv vs (xs.map g) acc δ Q
  | [], acc, Q, _, _, q => by
    have : acc ++ (([] : List α).map f).flatten = acc := by simp
    rw [this] at q
    exact q
  | x :: xs, acc, Q, hN, hs, q => by
    rw [List.map_cons]
    rw [List.map_cons, List.flatten_cons, List.length_append] at hN
    refine hs x (List.mem_cons_self ..) acc (fun acc' => dTurns gv tv bv vs (xs.map g) acc' δ Q) (by omega) ?_
    refine turns_bd f N xs _ Q (by rw [List.length_append]; omega) (fun y m => hs y (List.mem_cons_of_mem _ m)) ?_
    rw [List.append_assoc]
    rw [List.map_cons, List.flatten_cons] at q
    exact q
end Dl
set_option maxHeartbeats 2000000
/-! == and != of things with own == within, either outcome -/
namespace Eqb
open PySem PySem.SeqAt GQ
open AutoSeq1 (wpAny_loadPart')
open MeetsSeq MeetsSeq2 MeetsSeq3 SeqRoads2
section
variable {prog : Program} {w : World} {A : Around} {R : Result → Shared → Prop}
/-- at each turn the two lists are read anew: N items each, the i-th two compare as e says -/
def ListB (prog : Program) (w : World) (A : Around) (E : Value → Shared → Prop) (l b : Addr) (N : Nat) (e : Nat → Bool) (I : Nat → Shared → Prop) : Prop :=
  ∀ i s, I i s → ∃ (items items2 : Array Value) (n n2 : Nat), s.heap.get? l = some { cls := .type "list", data := .seq items n } ∧ s.heap.get? b = some { cls := .type "list", data := .seq items2 n2 } ∧ items.size = N ∧ items2.size = N ∧
    ∀ (h1 : i < items.size) (h2 : i < items2.size), wpAny (model prog w) A.in1 (eqBool items[i] items2[i]) (fun r s' => r = e i ∧ I (i + 1) s') E s
theorem eq_loopB (l b : Addr) (N : Nat) (e : Nat → Bool) (I : Nat → Shared → Prop) (hl : ListB prog w A (fun e s' => R (.error e) s') l b N e I)
    (v : Bool) (fin : ∀ i s, I i s → R (.ok (.ret (.bool v))) s) (k : Nat) :
    ∀ i : Nat, N - i = k → i ≤ N → ((List.range N).drop i).all e = v → ∀ s, I i s →
      wpAny (model prog w) A.in1 (Builtin.«list.__eq__.loop» ⟨[.ref l, .ref b, rawInt i, rawInt 2], []⟩) (FinOf prog w A R) (fun e s' => R (.error e) s') s := by
  induction k with
  | zero =>
    intro i hk hi hv s h
    obtain ⟨items, items2, n, n2, hl1, hb1, hs1, hs2, _⟩ := hl _ _ h
    have hi' : i = N := by omega
    have hd : (List.range N).drop i = [] := by simp; omega
    rw [hd] at hv
    have hv : v = true := hv.symm
    have hR : R (.ok (.ret (.bool true))) s := by
      have := fin i s h
      rwa [hv] at this
    obtain ⟨hp, g, d, tk, os⟩ := s
    wp_walk using wpAny_loadPart' hl1, wpAny_loadPart' hb1
    have hi1 : items[((i : Nat) : Int).toNat]? = none := by simp; omega
    have hi2 : items2[((i : Nat) : Int).toNat]? = none := by simp; omega
    rw [hi1, hi2]
    wp_walk using wpAny_loadPart' hl1, wpAny_loadPart' hb1
    show R (.ok (.ret (.bool (items.size == items2.size)))) _
    rw [hs1, hs2]
    simpa using hR
  | succ k ih =>
    intro i hk hi hv s h
    obtain ⟨items, items2, n, n2, hl1, hb1, hs1, hs2, turn⟩ := hl _ _ h
    have hlt : i < items.size := by omega
    have hlt2 : i < items2.size := by omega
    have ht := turn hlt hlt2
    have hd : (List.range N).drop i = i :: (List.range N).drop (i + 1) := by
      have : i < (List.range N).length := by simp; omega
      rw [List.drop_eq_getElem_cons this]
      simp
    rw [hd, List.all_cons] at hv
    obtain ⟨hp, g, d, tk, os⟩ := s
    wp_walk using wpAny_loadPart' hl1, wpAny_loadPart' hb1
    have hi1 : items[((i : Nat) : Int).toNat]? = some items[i] := by simp [hlt]
    have hi2 : items2[((i : Nat) : Int).toNat]? = some items2[i] := by simp [hlt2]
    have hc : ((i : Int) + 1) = ((i + 1 : Nat) : Int) := by omega
    rw [hi1, hi2]
    refine wpAny_bind (wpAny_mono ht (fun r s2 h2 => ?_) fun _ _ x => x)
    obtain ⟨hr, h2⟩ := h2
    cases he : e i with
    | true =>
      rw [he] at hr hv
      subst hr
      have hrec := ih (i + 1) (by omega) (by omega) (by simpa using hv) s2 h2
      obtain ⟨hp2, g2, d2, tk2, os2⟩ := s2
      wp_walk
      rw [hc]
      exact ⟨plainId_quiet plain_eq_loop _, codeAny_builtin entry_eq_loop (by
        rw [Around.under_plainId plain_eq_loop _]
        exact hrec)⟩
    | false =>
      rw [he] at hr hv
      subst hr
      have hv : v = false := by simpa using hv.symm
      have hR : R (.ok (.ret (.bool false))) s2 := by
        have := fin (i + 1) s2 h2
        rwa [hv] at this
      obtain ⟨items', items2', n', n2', hl1', hb1', hs1', hs2', _⟩ := hl _ _ h2
      obtain ⟨hp2, g2, d2, tk2, os2⟩ := s2
      have hj1 : items'[((i : Nat) : Int).toNat]? = some (items'[i]'(by omega)) := by
        have : i < items'.size := by omega
        simp [this]
      have hj2 : items2'[((i : Nat) : Int).toNat]? = some (items2'[i]'(by omega)) := by
        have : i < items2'.size := by omega
        simp [this]
      wp_walk using wpAny_loadPart' hl1', wpAny_loadPart' hb1'
      rw [hj1, hj2]
      wp_walk
      exact hR
theorem ne_loopB (l b : Addr) (N : Nat) (e : Nat → Bool) (I : Nat → Shared → Prop) (hl : ListB prog w A (fun e s' => R (.error e) s') l b N e I)
    (v : Bool) (fin : ∀ i s, I i s → R (.ok (.ret (.bool (!v)))) s) (k : Nat) :
    ∀ i : Nat, N - i = k → i ≤ N → ((List.range N).drop i).all e = v → ∀ s, I i s →
      wpAny (model prog w) A.in1 (Builtin.«list.__eq__.loop» ⟨[.ref l, .ref b, rawInt i, rawInt 3], []⟩) (FinOf prog w A R) (fun e s' => R (.error e) s') s := by
  induction k with
  | zero =>
    intro i hk hi hv s h
    obtain ⟨items, items2, n, n2, hl1, hb1, hs1, hs2, _⟩ := hl _ _ h
    have hi' : i = N := by omega
    have hd : (List.range N).drop i = [] := by simp; omega
    rw [hd] at hv
    have hv : v = true := hv.symm
    have hR : R (.ok (.ret (.bool false))) s := by
      have := fin i s h
      rwa [hv] at this
    obtain ⟨hp, g, d, tk, os⟩ := s
    wp_walk using wpAny_loadPart' hl1, wpAny_loadPart' hb1
    have hi1 : items[((i : Nat) : Int).toNat]? = none := by simp; omega
    have hi2 : items2[((i : Nat) : Int).toNat]? = none := by simp; omega
    rw [hi1, hi2]
    wp_walk using wpAny_loadPart' hl1, wpAny_loadPart' hb1
    show R (.ok (.ret (.bool (items.size != items2.size)))) _
    rw [hs1, hs2]
    simpa using hR
  | succ k ih =>
    intro i hk hi hv s h
    obtain ⟨items, items2, n, n2, hl1, hb1, hs1, hs2, turn⟩ := hl _ _ h
    have hlt : i < items.size := by omega
    have hlt2 : i < items2.size := by omega
    have ht := turn hlt hlt2
    have hd : (List.range N).drop i = i :: (List.range N).drop (i + 1) := by
      have : i < (List.range N).length := by simp; omega
      rw [List.drop_eq_getElem_cons this]
      simp
    rw [hd, List.all_cons] at hv
    obtain ⟨hp, g, d, tk, os⟩ := s
    wp_walk using wpAny_loadPart' hl1, wpAny_loadPart' hb1
    have hi1 : items[((i : Nat) : Int).toNat]? = some items[i] := by simp [hlt]
    have hi2 : items2[((i : Nat) : Int).toNat]? = some items2[i] := by simp [hlt2]
    have hc : ((i : Int) + 1) = ((i + 1 : Nat) : Int) := by omega
    rw [hi1, hi2]
    refine wpAny_bind (wpAny_mono ht (fun r s2 h2 => ?_) fun _ _ x => x)
    obtain ⟨hr, h2⟩ := h2
    cases he : e i with
    | true =>
      rw [he] at hr hv
      subst hr
      have hrec := ih (i + 1) (by omega) (by omega) (by simpa using hv) s2 h2
      obtain ⟨hp2, g2, d2, tk2, os2⟩ := s2
      wp_walk
      rw [hc]
      exact ⟨plainId_quiet plain_eq_loop _, codeAny_builtin entry_eq_loop (by
        rw [Around.under_plainId plain_eq_loop _]
        exact hrec)⟩
    | false =>
      rw [he] at hr hv
      subst hr
      have hv : v = false := by simpa using hv.symm
      have hR : R (.ok (.ret (.bool true))) s2 := by
        have := fin (i + 1) s2 h2
        rwa [hv] at this
      obtain ⟨items', items2', n', n2', hl1', hb1', hs1', hs2', _⟩ := hl _ _ h2
      obtain ⟨hp2, g2, d2, tk2, os2⟩ := s2
      have hj1 : items'[((i : Nat) : Int).toNat]? = some (items'[i]'(by omega)) := by
        have : i < items'.size := by omega
        simp [this]
      have hj2 : items2'[((i : Nat) : Int).toNat]? = some (items2'[i]'(by omega)) := by
        have : i < items2'.size := by omega
        simp [this]
      wp_walk using wpAny_loadPart' hl1', wpAny_loadPart' hb1'
      rw [hj1, hj2]
      wp_walk
      exact hR
theorem list_eqB (l b : Addr) (N : Nat) (e : Nat → Bool) (I : Nat → Shared → Prop) (hl : ListB prog w A (fun e s' => R (.error e) s') l b N e I)
    (fin : ∀ i s, I i s → R (.ok (.ret (.bool ((List.range N).all e)))) s) {s : Shared} (h : I 0 s) :
    wpAny (model prog w) A.in1 (Builtin.«list.__eq__» ⟨[.ref l, .ref b], []⟩) (FinOf prog w A R) (fun e s' => R (.error e) s') s := by
  obtain ⟨items, items2, n, n2, hl1, hb1, hs1, hs2, _⟩ := hl _ _ h
  have hrec := eq_loopB (A := A) (R := R) l b N e I hl _ fin _ 0 rfl (Nat.zero_le _) rfl s h
  obtain ⟨hp, g, d, tk, os⟩ := s
  have f3 := AutoSeq1.sub_list_list
  have hne : ¬ (items.size != items2.size) = true := by simp [hs1, hs2]
  wp_walk using wpAny_loadPart' hl1, wpAny_loadPart' hb1
  exact ⟨plainId_quiet plain_eq_loop _, codeAny_builtin entry_eq_loop (by
    rw [Around.under_plainId plain_eq_loop _]
    exact hrec)⟩
theorem list_neB (l b : Addr) (N : Nat) (e : Nat → Bool) (I : Nat → Shared → Prop) (hl : ListB prog w A (fun e s' => R (.error e) s') l b N e I)
    (fin : ∀ i s, I i s → R (.ok (.ret (.bool (!(List.range N).all e)))) s) {s : Shared} (h : I 0 s) :
    wpAny (model prog w) A.in1 (Builtin.«list.__ne__» ⟨[.ref l, .ref b], []⟩) (FinOf prog w A R) (fun e s' => R (.error e) s') s := by
  obtain ⟨items, items2, n, n2, hl1, hb1, hs1, hs2, _⟩ := hl _ _ h
  have hrec := ne_loopB (A := A) (R := R) l b N e I hl _ fin _ 0 rfl (Nat.zero_le _) rfl s h
  obtain ⟨hp, g, d, tk, os⟩ := s
  have f3 := AutoSeq1.sub_list_list
  have hne : ¬ (items.size != items2.size) = true := by simp [hs1, hs2]
  wp_walk using wpAny_loadPart' hl1, wpAny_loadPart' hb1
  exact ⟨plainId_quiet plain_eq_loop _, codeAny_builtin entry_eq_loop (by
    rw [Around.under_plainId plain_eq_loop _]
    exact hrec)⟩
end
end Eqb
set_option maxHeartbeats 2000000
namespace Eqb
open PySem PySem.SeqAt GQ
open AutoSeq1 (wpAny_loadPart')
open MeetsSeq MeetsSeq2 MeetsSeq3 SeqRoads2
section
variable {prog : Program} {w : World} {A : Around} {R : Result → Shared → Prop}
theorem drop_range {N i : Nat} (h : i < N) : (List.range N).drop i = i :: (List.range N).drop (i + 1) := by
  have : i < (List.range N).length := by simp; omega
  rw [List.drop_eq_getElem_cons this]
  simp
theorem tuple_eqB (l b : Addr) (items items2 : Array Value) (n n2 : Nat) (dd dd2 : Option Addr) (sl sl2 : Array (Option Value)) (e : Nat → Bool) (I : Nat → Shared → Prop)
    (turn : ∀ i (h1 : i < items.size) (h2 : i < items2.size) s, I i s → wpAny (model prog w) A.in1 (eqBool items[i] items2[i]) (fun r s' => r = e i ∧ I (i + 1) s') (fun e s' => R (.error e) s') s)
    (fin : ∀ i s, I i s → R (.ok (.ret (.bool ((List.range (min items.size items2.size)).all e && items.size == items2.size)))) s) {s : Shared} (hl1 : s.heap.get? l = some { cls := .type "tuple", dict := dd, data := .seq items n, slots := sl }) (hb1 : s.heap.get? b = some { cls := .type "tuple", dict := dd2, data := .seq items2 n2, slots := sl2 }) (h : I 0 s) :
    wpAny (model prog w) A.in1 (Builtin.«tuple.__eq__» ⟨[.ref l, .ref b], []⟩) (FinOf prog w A R) (fun e s' => R (.error e) s') s := by
  have f2 := AutoSeq1.sub_tuple_tuple
  have hZ : (items.toList.zip items2.toList).length = min items.size items2.size := by simp
  have h0 := h
  obtain ⟨hp, g, d, tk, os⟩ := s
  wp_walk using wpAny_loadPart' hl1, wpAny_loadPart' hb1, wpAny_forIn_list _ (fun rest b s' => b.1 = none ∧ ∃ i, rest = (items.toList.zip items2.toList).drop i ∧ ((List.range (min items.size items2.size)).drop i).all e = (List.range (min items.size items2.size)).all e ∧ I i s') _
  case turn =>
    rintro ⟨y, x⟩ rest b s' ⟨hb', i, hz, hal, hI⟩
    have hlt : i < (items.toList.zip items2.toList).length := by
      rcases Nat.lt_or_ge i (items.toList.zip items2.toList).length with h' | h'
      · exact h'
      · rw [List.drop_of_length_le h'] at hz; cases hz
    have hm : i < min items.size items2.size := hZ ▸ hlt
    have h1 : i < items.size := Nat.lt_of_lt_of_le hm (Nat.min_le_left _ _)
    have h2 : i < items2.size := Nat.lt_of_lt_of_le hm (Nat.min_le_right _ _)
    rw [List.drop_eq_getElem_cons hlt] at hz
    injection hz with hyx hrest
    have hy : y = items[i] := by have := congrArg Prod.fst hyx; simpa using this
    have hx : x = items2[i] := by have := congrArg Prod.snd hyx; simpa using this
    subst hy hx
    rw [drop_range hm, List.all_cons] at hal
    refine wpAny_bind (wpAny_mono (turn i h1 h2 s' hI) (fun r s2 q2 => ?_) fun _ _ x => x)
    obtain ⟨hr, q2⟩ := q2
    cases he : e i with
    | true =>
      rw [he] at hr hal
      subst hr
      wp_walk
      exact ⟨rfl, i + 1, hrest, by simpa using hal, q2⟩
    | false =>
      rw [he] at hr hal
      subst hr
      have hal : (List.range (min items.size items2.size)).all e = false := by simpa using hal.symm
      have hR := fin (i + 1) s2 q2
      rw [hal, Bool.false_and] at hR
      wp_walk
      exact hR
  case fin =>
    rintro ⟨b1, b2⟩ s' ⟨hb', i, hz, hal, hI⟩
    simp only at hb'
    subst hb'
    have hge : min items.size items2.size ≤ i := by
      rcases Nat.lt_or_ge i (items.toList.zip items2.toList).length with h' | h'
      · rw [List.drop_eq_getElem_cons h'] at hz; cases hz
      · exact hZ ▸ h'
    rw [List.drop_of_length_le (by simpa using hge)] at hal
    have hR := fin i s' hI
    rw [← hal] at hR
    wp_walk
    simpa [Builtin.Tuple.tupleCompareSizes] using hR
  case h =>
    exact ⟨rfl, 0, rfl, rfl, h0⟩
theorem tuple_neB (l b : Addr) (items items2 : Array Value) (n n2 : Nat) (dd dd2 : Option Addr) (sl sl2 : Array (Option Value)) (e : Nat → Bool) (I : Nat → Shared → Prop)
    (turn : ∀ i (h1 : i < items.size) (h2 : i < items2.size) s, I i s → wpAny (model prog w) A.in1 (eqBool items[i] items2[i]) (fun r s' => r = e i ∧ I (i + 1) s') (fun e s' => R (.error e) s') s)
    (fin : ∀ i s, I i s → R (.ok (.ret (.bool (!((List.range (min items.size items2.size)).all e && items.size == items2.size))))) s) {s : Shared} (hl1 : s.heap.get? l = some { cls := .type "tuple", dict := dd, data := .seq items n, slots := sl }) (hb1 : s.heap.get? b = some { cls := .type "tuple", dict := dd2, data := .seq items2 n2, slots := sl2 }) (h : I 0 s) :
    wpAny (model prog w) A.in1 (Builtin.«tuple.__ne__» ⟨[.ref l, .ref b], []⟩) (FinOf prog w A R) (fun e s' => R (.error e) s') s := by
  have f2 := AutoSeq1.sub_tuple_tuple
  have hZ : (items.toList.zip items2.toList).length = min items.size items2.size := by simp
  have h0 := h
  obtain ⟨hp, g, d, tk, os⟩ := s
  wp_walk using wpAny_loadPart' hl1, wpAny_loadPart' hb1, wpAny_forIn_list _ (fun rest b s' => b.1 = none ∧ ∃ i, rest = (items.toList.zip items2.toList).drop i ∧ ((List.range (min items.size items2.size)).drop i).all e = (List.range (min items.size items2.size)).all e ∧ I i s') _
  case turn =>
    rintro ⟨y, x⟩ rest b s' ⟨hb', i, hz, hal, hI⟩
    have hlt : i < (items.toList.zip items2.toList).length := by
      rcases Nat.lt_or_ge i (items.toList.zip items2.toList).length with h' | h'
      · exact h'
      · rw [List.drop_of_length_le h'] at hz; cases hz
    have hm : i < min items.size items2.size := hZ ▸ hlt
    have h1 : i < items.size := Nat.lt_of_lt_of_le hm (Nat.min_le_left _ _)
    have h2 : i < items2.size := Nat.lt_of_lt_of_le hm (Nat.min_le_right _ _)
    rw [List.drop_eq_getElem_cons hlt] at hz
    injection hz with hyx hrest
    have hy : y = items[i] := by have := congrArg Prod.fst hyx; simpa using this
    have hx : x = items2[i] := by have := congrArg Prod.snd hyx; simpa using this
    subst hy hx
    rw [drop_range hm, List.all_cons] at hal
    refine wpAny_bind (wpAny_mono (turn i h1 h2 s' hI) (fun r s2 q2 => ?_) fun _ _ x => x)
    obtain ⟨hr, q2⟩ := q2
    cases he : e i with
    | true =>
      rw [he] at hr hal
      subst hr
      wp_walk
      exact ⟨rfl, i + 1, hrest, by simpa using hal, q2⟩
    | false =>
      rw [he] at hr hal
      subst hr
      have hal : (List.range (min items.size items2.size)).all e = false := by simpa using hal.symm
      have hR := fin (i + 1) s2 q2
      rw [hal, Bool.false_and] at hR
      wp_walk
      exact hR
  case fin =>
    rintro ⟨b1, b2⟩ s' ⟨hb', i, hz, hal, hI⟩
    simp only at hb'
    subst hb'
    have hge : min items.size items2.size ≤ i := by
      rcases Nat.lt_or_ge i (items.toList.zip items2.toList).length with h' | h'
      · rw [List.drop_eq_getElem_cons h'] at hz; cases hz
      · exact hZ ▸ h'
    rw [List.drop_of_length_le (by simpa using hge)] at hal
    have hR := fin i s' hI
    rw [← hal] at hR
    wp_walk
    simpa [Builtin.Tuple.tupleCompareSizes, bne] using hR
  case h =>
    exact ⟨rfl, 0, rfl, rfl, h0⟩
end
section
variable {prog : Program} {w : World} {A : Around} {E : Value → Shared → Prop} {s : Shared}
theorem rc_listB {l b : Addr} {N : Nat} {e : Nat → Bool} {Q : Value → Shared → Prop} (hu : A.units < cLine) (I : Nat → Shared → Prop) (hl : ListB prog w A E l b N e I)
    (fin : ∀ i s, I i s → Q (.bool ((List.range N).all e)) s) (h : I 0 s) : wpAny (model prog w) A (richCompare .Eq (.ref l) (.ref b)) Q E s := by
  obtain ⟨items, items2, n, n2, hl1, hb1, _, _, _⟩ := hl _ _ h
  refine wpAny_richCompare_same_room (op := .Eq) ⟨_, hl1, rfl⟩ ⟨_, hb1, rfl⟩ F.slot_list_eq (call_here F.slot_list_eq ⟨_, hl1, rfl⟩ F.entry_list_eq (F.args_list_eq_2 _ _) ?_) hu
  exact list_eqB (R := wants (fun v s' => v ≠ .notImplemented ∧ Q v s') E) l b N e I hl (fun i s' q => ⟨(fun x => nomatch x), fin i s' q⟩) h
theorem rc_listBn {l b : Addr} {N : Nat} {e : Nat → Bool} {Q : Value → Shared → Prop} (hu : A.units < cLine) (I : Nat → Shared → Prop) (hl : ListB prog w A E l b N e I)
    (fin : ∀ i s, I i s → Q (.bool (!(List.range N).all e)) s) (h : I 0 s) : wpAny (model prog w) A (richCompare .NotEq (.ref l) (.ref b)) Q E s := by
  obtain ⟨items, items2, n, n2, hl1, hb1, _, _, _⟩ := hl _ _ h
  refine wpAny_richCompare_same_room (op := .NotEq) ⟨_, hl1, rfl⟩ ⟨_, hb1, rfl⟩ F.slot_list_ne (call_here F.slot_list_ne ⟨_, hl1, rfl⟩ F.entry_list_ne (F.args_list_ne_2 _ _) ?_) hu
  exact list_neB (R := wants (fun v s' => v ≠ .notImplemented ∧ Q v s') E) l b N e I hl (fun i s' q => ⟨(fun x => nomatch x), fin i s' q⟩) h
theorem rc_tupB {l b : Addr} {items items2 : Array Value} {e : Nat → Bool} {Q : Value → Shared → Prop} (hu : A.units < cLine) (I : Nat → Shared → Prop)
    (hl : s.heap.IsTuple l items) (hb : s.heap.IsTuple b items2)
    (turn : ∀ i (h1 : i < items.size) (h2 : i < items2.size) s, I i s → wpAny (model prog w) A.in1 (eqBool items[i] items2[i]) (fun r s' => r = e i ∧ I (i + 1) s') E s)
    (fin : ∀ i s, I i s → Q (.bool ((List.range (min items.size items2.size)).all e && items.size == items2.size)) s) (h : I 0 s) : wpAny (model prog w) A (richCompare .Eq (.ref l) (.ref b)) Q E s := by
  obtain ⟨⟨cls, dd, data, sl⟩, ho, hc, n, hd⟩ := id hl
  obtain ⟨⟨cls2, dd2, data2, sl2⟩, ho2, hc2, n2, hd2⟩ := id hb
  simp only at hc hd hc2 hd2
  subst hc hd hc2 hd2
  refine wpAny_richCompare_same_room (op := .Eq) ⟨_, ho, rfl⟩ ⟨_, ho2, rfl⟩ F.slot_tuple_eq (call_here F.slot_tuple_eq ⟨_, ho, rfl⟩ F.entry_tuple_eq (F.args_tuple_eq_2 _ _) ?_) hu
  exact tuple_eqB (R := wants (fun v s' => v ≠ .notImplemented ∧ Q v s') E) l b items items2 n n2 dd dd2 sl sl2 e I turn (fun i s' q => ⟨(fun x => nomatch x), fin i s' q⟩) ho ho2 h
theorem rc_tupBn {l b : Addr} {items items2 : Array Value} {e : Nat → Bool} {Q : Value → Shared → Prop} (hu : A.units < cLine) (I : Nat → Shared → Prop)
    (hl : s.heap.IsTuple l items) (hb : s.heap.IsTuple b items2)
    (turn : ∀ i (h1 : i < items.size) (h2 : i < items2.size) s, I i s → wpAny (model prog w) A.in1 (eqBool items[i] items2[i]) (fun r s' => r = e i ∧ I (i + 1) s') E s)
    (fin : ∀ i s, I i s → Q (.bool (!((List.range (min items.size items2.size)).all e && items.size == items2.size))) s) (h : I 0 s) : wpAny (model prog w) A (richCompare .NotEq (.ref l) (.ref b)) Q E s := by
  obtain ⟨⟨cls, dd, data, sl⟩, ho, hc, n, hd⟩ := id hl
  obtain ⟨⟨cls2, dd2, data2, sl2⟩, ho2, hc2, n2, hd2⟩ := id hb
  simp only at hc hd hc2 hd2
  subst hc hd hc2 hd2
  refine wpAny_richCompare_same_room (op := .NotEq) ⟨_, ho, rfl⟩ ⟨_, ho2, rfl⟩ F.slot_tuple_ne (call_here F.slot_tuple_ne ⟨_, ho, rfl⟩ F.entry_tuple_ne (F.args_tuple_ne_2 _ _) ?_) hu
  exact tuple_neB (R := wants (fun v s' => v ≠ .notImplemented ∧ Q v s') E) l b items items2 n n2 dd dd2 sl sl2 e I turn (fun i s' q => ⟨(fun x => nomatch x), fin i s' q⟩) ho ho2 h
end
end Eqb
set_option maxHeartbeats 1000000
/-! == and != of data with instances of classes that have an own == -/
namespace Dl
open PySem PySem.Spec PyProof.Rows L2 Lcn Sq
section
variable {K : PySem.W.Frag} {av av' : Addr → Prop} {H : Hp}
theorem ext_ds {xs : List V} {ds es : List Dt} (l : xs.length = ds.length) (l2 : xs.length = es.length) (h : ∀ (i : Nat) (x : V) (d e : Dt), xs[i]? = some x → ds[i]? = some d → es[i]? = some e → d = e) : ds = es := by
  apply List.ext_getElem?
  intro i
  rcases Nat.lt_or_ge i ds.length with hi | hi
  · have h1 : ds[i]? = some ds[i] := List.getElem?_eq_getElem hi
    have h2 : es[i]? = some (es[i]'(by omega)) := List.getElem?_eq_getElem _
    have h3 : xs[i]? = some (xs[i]'(by omega)) := List.getElem?_eq_getElem _
    rw [h1, h2, h i _ _ _ h3 h1 h2]
  · rw [List.getElem?_eq_none hi, List.getElem?_eq_none (by omega)]
/-- a value stands for one thing alone -/
theorem Rep.fn {v : V} {d : Dt} (h : Rep K av H v d) : ∀ {e : Dt}, Rep K av' H v e → d = e := by
  induction h with
  | non => intro e h'; cases h'; rfl
  | bl b => intro e h'; cases h'; rfl
  | int i => intro e h'; cases h'; rfl
  | str s => intro e h'; cases h'; rfl
  | lst h l f ih =>
    intro e h'
    cases h' with
    | lst h2 l2 f2 =>
      have e1 := Option.some.inj (h.2.symm.trans h2.2)
      cases e1
      congr 1
      exact ext_ds l l2 fun i x d e hx hd he => ih i x d hx hd (f2 i x e hx he)
    | tup h2 => have e1 := Option.some.inj (h.2.symm.trans h2.2); cases e1
    | ins _ h2 => have e1 := Option.some.inj (h.2.symm.trans h2); cases e1
  | tup h l f ih =>
    intro e h'
    cases h' with
    | tup h2 l2 f2 =>
      have e1 := Option.some.inj (h.2.symm.trans h2.2)
      cases e1
      congr 1
      exact ext_ds l l2 fun i x d e hx hd he => ih i x d hx hd (f2 i x e hx he)
    | lst h2 => have e1 := Option.some.inj (h.2.symm.trans h2.2); cases e1
    | ins _ h2 => have e1 := Option.some.inj (h.2.symm.trans h2); cases e1
  | @ins a C dx fs es na h l f ih =>
    intro e h'
    cases h' with
    | lst h2 => have e1 := Option.some.inj (h.symm.trans h2.2); cases e1
    | tup h2 => have e1 := Option.some.inj (h.symm.trans h2.2); cases e1
    | @ins _ C' dx' fs' es' na2 h2 l2 f2 =>
      have e1 := Option.some.inj (h.symm.trans h2)
      cases e1
      congr 1
      apply List.ext_getElem?
      intro i
      have ll : fs.length = es.length := by simpa using congrArg List.length l
      have ll2 : fs.length = es'.length := by simpa using congrArg List.length l2
      rcases Nat.lt_or_ge i es.length with hi | hi
      · have h1 : es[i]? = some es[i] := List.getElem?_eq_getElem hi
        have h3 : es'[i]? = some (es'[i]'(by omega)) := List.getElem?_eq_getElem _
        have h4 : fs[i]? = some (fs[i]'(by omega)) := List.getElem?_eq_getElem _
        have q := ih i _ _ h4 h1 (f2 i _ _ h4 h3)
        have n1 : (fs.map Prod.fst)[i]? = some es[i].1 := by rw [l, List.getElem?_map, h1]; rfl
        have n2 : (fs.map Prod.fst)[i]? = some (es'[i]'(by omega)).1 := by rw [l2, List.getElem?_map, h3]; rfl
        have n3 := Option.some.inj (n1.symm.trans n2)
        rw [h1, h3]
        congr 1
        exact Prod.ext n3 q
      · rw [List.getElem?_eq_none hi, List.getElem?_eq_none (by omega)]
end
/-- what a comparison of instances gives -/
abbrev QP := Addr → Addr → List (Str × Dt) → List (Str × Dt) → Bool → Prop
inductive GQ (P : QP) : Nat → Dt → Dt → Bool → Prop
  | flat {n : Nat} {d e : Dt} (hd : d.flat = true) (he : e.flat = true) (sd : shD d = true) (se : shD e = true) : GQ P n d e (eqD d e)
  | lst {n : Nat} {xs ys : List Dt} (e : Nat → Bool) (l : xs.length = ys.length) (h : ∀ (i : Nat) (x y : Dt), xs[i]? = some x → ys[i]? = some y → GQ P n x y (e i)) : GQ P (n + 1) (.lst xs) (.lst ys) ((List.range xs.length).all e)
  | lstN {n : Nat} {xs ys : List Dt} (l : xs.length ≠ ys.length) : GQ P (n + 1) (.lst xs) (.lst ys) false
  | tup {n : Nat} {xs ys : List Dt} (e : Nat → Bool) (h : ∀ (i : Nat) (x y : Dt), xs[i]? = some x → ys[i]? = some y → GQ P n x y (e i)) : GQ P (n + 1) (.tup xs) (.tup ys) ((List.range (min xs.length ys.length)).all e && decide (xs.length = ys.length))
  | ins {n : Nat} {C D : Addr} {fs gs : List (Str × Dt)} {b : Bool} (h : P C D fs gs b) : GQ P n (.ins C fs) (.ins D gs) b
theorem flat_refl {d : Dt} (h : d.flat = true) : eqD d d = true := by
  cases d <;> first | (cases h; done) | (unfold eqD; simp [py, PyData.eqv])
/-- the same things are told alike -/
theorem GQ.self {P : QP} (hP : ∀ C fs b, P C C fs fs b → b = true) {n : Nat} {d e : Dt} {b : Bool} (h : GQ P n d e b) : d = e → b = true := by
  induction h with
  | flat hd he _ _ =>
    intro z
    subst z
    exact flat_refl hd
  | lst e l h ih =>
    intro z
    cases z
    rw [List.all_eq_true]
    intro i hi
    rw [List.mem_range] at hi
    have hx := List.getElem?_eq_getElem hi
    exact ih i _ _ hx hx rfl
  | lstN l =>
    intro z
    cases z
    exact absurd rfl l
  | tup e h ih =>
    intro z
    cases z
    rw [Bool.and_eq_true, List.all_eq_true]
    refine ⟨fun i hi => ?_, decide_eq_true rfl⟩
    rw [List.mem_range, Nat.min_self] at hi
    have hx := List.getElem?_eq_getElem hi
    exact ih i _ _ hx hx rfl
  | ins h =>
    intro z
    cases z
    exact hP _ _ _ h
section
variable {X : Cx} {n : Nat} {P : QP}
def EqX (X : Cx) (n : Nat) (D : Dt → Dt → Bool → Prop) : Prop :=
  ∀ (A : Around) (pins : List (Addr × Obj)) (s : Shared) (σ : L2.St) (H : Hp) (av : Addr → Prop) (x y : V) (u v : Value) (dx dy : Dt) (b : Bool), L2.Sub X n A → Inv X pins σ H s → RelV x u → RelV y v → Al av H → Rep X.K av H x dx → Rep X.K av H y dy → D dx dy b →
    wpAny (model X.prog X.w) A (eqBool u v) (fun r s' => r = b ∧ ∃ H', Inv X pins σ H' s' ∧ Same H H') X.xe s
def RcX (neg : Bool) (X : Cx) (n : Nat) (D : Dt → Dt → Bool → Prop) : Prop :=
  ∀ (A : Around) (pins : List (Addr × Obj)) (s : Shared) (σ : L2.St) (H : Hp) (av : Addr → Prop) (x y : V) (u v : Value) (dx dy : Dt) (b : Bool), L2.Sub X n A → Inv X pins σ H s → RelV x u → RelV y v → Al av H → Rep X.K av H x dx → Rep X.K av H y dy → D dx dy b →
    wpAny (model X.prog X.w) A (richCompare (if neg then .NotEq else .Eq) u v) (fun r s' => r = .bool (if neg then !b else b) ∧ ∃ H', Inv X pins σ H' s' ∧ Same H H') X.xe s
/-- an own == of the class at C, told for D -/
structure ClEqB (pr : Program) (w : World) (K : PySem.W.Frag) (mg : Str → Option Value) (base : Heap) (L : Nat) (P : QP) : Prop where
  ok : ∀ C D fs gs b, P C D fs gs b → ∃ (k : Nat) (f : Addr) (fd : FuncData) (ps : List Str) (sp : Spc), k + 1 ≤ L ∧ FnOk pr w K mg base CX0 k f fd ps (dsp K 2 sp) ∧ PySem.W.findIn K (.ref C) "__eq__" = some (some (.ref f)) ∧ PySem.W.isFn K (.ref f) = true ∧ Binds K fd ps [] ∧ PySem.W.notFirst K C (.ref D) = true ∧
    PySem.W.findIn K (.ref C) "__ne__" = some (some (.builtin "object.__ne__")) ∧ PySem.W.mroIn K C (.type "object") = some true ∧ sp [.val (.ins C fs), .val (.ins D gs)] (fun d => d = .bl b)
  self : ∀ C fs b, P C C fs fs b → b = true
abbrev ClEq (X : Cx) (L : Nat) (P : QP) : Prop := ClEqB X.prog X.w X.K X.mg X.base L P
theorem RcX.eqX {D : Dt → Dt → Bool → Prop} (h : RcX false X n D) (hr : ∀ x y b, D x y b → x.flat = false ∧ y.flat = false) (hs : ∀ x b, D x x b → b = true) : EqX X n D := by
  intro A pins s σ H av x y u v dx dy b sb I rx ry al r1 r2 d
  obtain ⟨f1, f2⟩ := hr _ _ _ d
  have isr : ∀ {v : V} {e : Dt}, Rep X.K av H v e → e.flat = false → ∃ a, v = .ref a := fun r f => by
    cases r <;> first | (cases f; done) | exact ⟨_, rfl⟩
  obtain ⟨p, rfl⟩ := isr r1 f1
  obtain ⟨q, rfl⟩ := isr r2 f2
  cases rx
  cases ry
  by_cases hpq : p = q
  · subst hpq
    have e := r1.fn r2
    subst e
    have hb := hs _ _ d
    subst hb
    exact SeqAt.EqAt.same (A := A) (s := s) (.ref p) X.prog X.w X.xe _ ⟨rfl, H, I, Same.refl H⟩
  · refine GQ.eqBool_refG hpq (wpAny_mono (h A pins s σ H av (.ref p) (.ref q) _ _ dx dy b sb I rfl rfl al r1 r2 d) (fun r s' z => ?_) fun _ _ x => x)
    obtain ⟨hr', q'⟩ := z
    exact ⟨_, hr', by rfl, q'⟩
theorem eqV_D {K : PySem.W.Frag} {av : Addr → Prop} {H : Hp} {x y : V} {d e : Dt} (r1 : Rep K av H x d) (r2 : Rep K av H y e) (f1 : d.flat = true) (f2 : e.flat = true) : eqV x y = eqD d e := by
  cases r1 <;> first | (cases f1; done) | (cases r2 <;> first | (cases f2; done) | (unfold eqD; simp [py, PyData.eqv, eqV]))
def GI (P : QP) (d e : Dt) (b : Bool) : Prop := ∃ C D fs gs, d = .ins C fs ∧ e = .ins D gs ∧ P C D fs gs b
theorem rc_ins {L : Nat} (cl : ClEq X L P) (neg : Bool) : RcX neg X L (GI P) := by
  intro A pins s σ H av x y u v dx dy b sb I rx ry al r1 r2 d
  obtain ⟨C, D, fs, gs, rfl, rfl, hp⟩ := d
  obtain ⟨k, f, fd, ps, sp, hk, F, hs, hf, hb, hn, hne, hm, hsp⟩ := cl.ok _ _ _ _ _ hp
  obtain ⟨a, dxa, fs', rfl, na, ha, la, ra⟩ := ins_fields r1
  obtain ⟨c, dxc, gs', rfl, nc, hc, lc, rc⟩ := ins_fields r2
  cases rx
  cases ry
  obtain ⟨mA, J, _⟩ := ins_get I.hok ha
  obtain ⟨mB, J', _⟩ := ins_get I.hok hc
  obtain ⟨od, J, _⟩ := J.look
  obtain ⟨od', J', _⟩ := J'.look
  obtain ⟨m, hF⟩ := I.fr
  have hsp' : dsp X.K 2 sp [.ref a, .ref c] H (fun v H' => v = .bl b ∧ Same H H') E0 := by
    refine ⟨none, av, [.val (.ins C fs), .val (.ins D gs)], _, fun _ h => h.elim, al, trivial, args_cons (s := .val (.ins C fs)) r1 (args_cons (s := .val (.ins D gs)) r2 ⟨rfl, fun i v s h => by cases i <;> cases h⟩), rfl, hsp, fun v d H' st rp e => ?_⟩
    have e : d = .bl b := e
    subst e
    exact ⟨rp.bl_inv, fun b' o h => st.keep b' o (fun z => z) h⟩
  have hl := F.len _ _ _ _ hsp'
  have r2' : Vals [V.ref a, V.ref c] [Value.ref a, Value.ref c] := .cons rfl (.cons rfl .nil)
  have key : ∀ A', L2.Sub X k A' → wpAny (model X.prog X.w) A' (call (.ref f) [.ref a, .ref c]) (fun v s' => v = .bool b ∧ ∃ H', Inv X pins σ H' s' ∧ Same H H') X.xe s := fun A' sb' => by
    have e0 : Env0 X.prog X.w X.K X.mg X.base A' X.stack s H := by
      have e := I.env0
      exact ⟨by rw [sb'.fr]; exact e.frames, e.mod, e.bs, e.bsz, e.funs, e.frf, e.hok, e.bare⟩
    refine wpAny_call (codeAny_mono (F.run A' X.stack s H ⟨[.ref a, .ref c], []⟩ [.ref a, .ref c] [.ref a, .ref c] _ E0 sb'.room e0 (by
      have := hb s [.ref a, .ref c] I.kIn (by simpa using hl)
      simpa using this) r2' hsp') fun r s' hq => ?_)
    cases r with
    | error e => exact pass0 pins σ H s e s' I hq
    | ok fl =>
      cases fl with
      | ret w =>
        obtain ⟨z, H', I', rz, ez, ex⟩ := I.after hq
        subst ez
        cases rz
        exact ⟨rfl, H', I', ex⟩
      | next => exact False.elim hq
      | brk => exact False.elim hq
      | cont => exact False.elim hq
  cases neg with
  | false =>
    refine PySem.W.cmp_K (op := .Eq) (tb := .ref D) sb.room.units0 hF I.ok.mod.kin J J'.type hn hs hf ?_
    refine wpAny_mono (key A (sb.mono (by omega))) (fun v s' q => ?_) fun _ _ e => e
    obtain ⟨rfl, q2⟩ := q
    exact ⟨rfl, q2⟩
  | true =>
    have sb1 : L2.Sub X k A.in1 := (sb.mono (m := k + 1) (by omega)).in1
    refine Ne.ne_K (tb := .ref D) (by have := sb1.room.units0; exact this) hF I.ok.mod.kin J J'.type hn hs hf hne hm ?_
    refine wpAny_mono (key A.in1 sb1) (fun v s' q => ?_) fun _ _ e => e
    exact ⟨b, q.1, rfl, q.2⟩
/-- what a loop over the items keeps -/
def LpI (X : Cx) (pins : List (Addr × Obj)) (σ : L2.St) (H : Hp) (s' : Shared) : Prop := ∃ H', Inv X pins σ H' s' ∧ Same H H'
theorem turnX {D : Dt → Dt → Bool → Prop} (h : EqX X n D) {A : Around} (sb : L2.Sub X (n + 1) A) {pins : List (Addr × Obj)} {σ : L2.St} {H : Hp} {av : Addr → Prop} {xs ys : List V} {ds es : List Dt} {its its2 : List Value} {e : Nat → Bool} (al : Al av H) (p1 : RepL X.K av H xs ds) (p2 : RepL X.K av H ys es) (hd : ∀ (i : Nat) (x y : Dt), ds[i]? = some x → es[i]? = some y → D x y (e i)) (r : Vals xs its) (r2 : Vals ys its2)
    (i : Nat) (h1 : i < its.toArray.size) (h2 : i < its2.toArray.size) (s' : Shared) (l : LpI X pins σ H s') :
    wpAny (model X.prog X.w) A.in1 (eqBool its.toArray[i] its2.toArray[i]) (fun r s2 => r = e i ∧ LpI X pins σ H s2) X.xe s' := by
  obtain ⟨H1, I1, e1⟩ := l
  have g1 : its[i]? = some its.toArray[i] := by
    have h1' : i < its.length := by simpa using h1
    rw [List.getElem?_eq_getElem h1'] <;> simp
  have g2 : its2[i]? = some its2.toArray[i] := by
    have h2' : i < its2.length := by simpa using h2
    rw [List.getElem?_eq_getElem h2'] <;> simp
  have k1 : i < xs.length := by rw [r.length]; simpa using h1
  have k2 : i < ys.length := by rw [r2.length]; simpa using h2
  obtain ⟨u, hu, ru⟩ := r.get (List.getElem?_eq_getElem k1)
  obtain ⟨v, hv, rv⟩ := r2.get (List.getElem?_eq_getElem k2)
  rw [g1] at hu
  rw [g2] at hv
  rw [Option.some.inj hu, Option.some.inj hv]
  have d1 : ds[i]? = some (ds[i]'(by rw [← p1.l]; exact k1)) := List.getElem?_eq_getElem _
  have d2 : es[i]? = some (es[i]'(by rw [← p2.l]; exact k2)) := List.getElem?_eq_getElem _
  refine wpAny_mono (h A.in1 pins s' σ H1 av _ _ u v _ _ (e i) sb.in1 I1 ru rv (al.same e1) ((p1.f i _ _ (List.getElem?_eq_getElem k1) d1).same e1) ((p2.f i _ _ (List.getElem?_eq_getElem k2) d2).same e1) (hd i _ _ d1 d2)) (fun r s2 q => ?_) fun _ _ x => x
  obtain ⟨hr, H2, I2, e2⟩ := q
  exact ⟨hr, H2, I2, e1.trans e2⟩
def GN (P : QP) (n : Nat) (d e : Dt) (b : Bool) : Prop := GQ P n d e b ∧ d.flat = false ∧ e.flat = false
theorem rc_flat {neg : Bool} {D : Dt → Dt → Bool → Prop} (h : RcX neg X n D) {m : Nat} (hm : n ≤ m) : RcX neg X m D := fun A pins s σ H av x y u v dx dy b sb => h A pins s σ H av x y u v dx dy b (sb.mono hm)
theorem rcX_all {L : Nat} (cl : ClEq X L P) (neg : Bool) : ∀ n, (∀ m, m < n → EqX X (L + m) (GQ P m)) → RcX neg X (L + n) (GN P n) := by
  intro n ih A pins s σ H av x y u v dx dy b sb I rx ry al r1 r2 d
  obtain ⟨g, f1, f2⟩ := d
  cases g with
  | flat hd => rw [hd] at f1; cases f1
  | ins h => exact rc_ins cl neg A pins s σ H av x y u v _ _ b (sb.mono (Nat.le_add_right _ _)) I rx ry al r1 r2 ⟨_, _, _, _, rfl, rfl, h⟩
  | @lst m xs ys e l h =>
    obtain ⟨a, vs, rfl, ha, la⟩ := r1.lst_inv
    obtain ⟨c, ws, rfl, hc, lc⟩ := r2.lst_inv
    cases rx
    cases ry
    have hE := ih m (Nat.lt_succ_self m)
    have hl : Eqb.ListB X.prog X.w A X.xe a c xs.length e (fun _ s' => LpI X pins σ H s') := fun i s' q => by
      obtain ⟨H1, I1, e1⟩ := id q
      obtain ⟨z, its, k, r, e'⟩ := I1.hok a _ (e1 _ _ ha.2)
      obtain ⟨z2, its2, k2, r2', e2'⟩ := I1.hok c _ (e1 _ _ hc.2)
      refine ⟨its.toArray, its2.toArray, k, k2, e', e2', by rw [List.size_toArray, ← r.length, la.l], by rw [List.size_toArray, ← r2'.length, lc.l, l], fun h1 h2 => ?_⟩
      exact turnX hE sb al la lc h r r2' i h1 h2 s' q
    cases neg with
    | false => exact Eqb.rc_listB sb.room.units0 _ hl (fun _ s' q => ⟨rfl, q⟩) ⟨H, I, Same.refl H⟩
    | true => exact Eqb.rc_listBn sb.room.units0 _ hl (fun _ s' q => ⟨rfl, q⟩) ⟨H, I, Same.refl H⟩
  | @lstN m xs ys l =>
    obtain ⟨a, vs, rfl, ha, la⟩ := r1.lst_inv
    obtain ⟨c, ws, rfl, hc, lc⟩ := r2.lst_inv
    cases rx
    cases ry
    obtain ⟨z, its, k, r, e'⟩ := I.hok a _ ha.2
    obtain ⟨z2, its2, k2, r2', e2'⟩ := I.hok c _ hc.2
    have hne : (its.toArray.size != its2.toArray.size) = true := by
      rw [List.size_toArray, List.size_toArray, ← r.length, ← r2'.length, la.l, lc.l]
      simpa using l
    cases neg with
    | false => exact SeqAt.RcAt.lists_lengths ⟨_, e', rfl, _, rfl⟩ ⟨_, e2', rfl, _, rfl⟩ hne sb.room.units0 X.prog X.w X.xe _ ⟨rfl, H, I, Same.refl H⟩
    | true => exact SeqAt.RcNeAt.lists_lengths ⟨_, e', rfl, _, rfl⟩ ⟨_, e2', rfl, _, rfl⟩ hne sb.room.units0 X.prog X.w X.xe _ ⟨rfl, H, I, Same.refl H⟩
  | @tup m xs ys e h =>
    obtain ⟨a, vs, rfl, ha, la⟩ := r1.tup_inv
    obtain ⟨c, ws, rfl, hc, lc⟩ := r2.tup_inv
    cases rx
    cases ry
    have hE := ih m (Nat.lt_succ_self m)
    obtain ⟨its, r, e', z⟩ := I.tuple ha.sq
    obtain ⟨its2, r2', e2', z2⟩ := I.tuple hc.sq
    have s1 : its.toArray.size = xs.length := by rw [List.size_toArray, ← r.length, la.l]
    have s2 : its2.toArray.size = ys.length := by rw [List.size_toArray, ← r2'.length, lc.l]
    have sz : ∀ b' : Bool, ((List.range (min its.toArray.size its2.toArray.size)).all e && its.toArray.size == its2.toArray.size) = ((List.range (min xs.length ys.length)).all e && decide (xs.length = ys.length)) := fun _ => by
      rw [s1, s2]
      congr 1
    cases neg with
    | false => exact Eqb.rc_tupB sb.room.units0 (fun _ s' => LpI X pins σ H s') e' e2' (fun i h1 h2 s' q => turnX hE sb al la lc h r r2' i h1 h2 s' q) (fun _ s' q => ⟨by rw [sz true]; rfl, q⟩) ⟨H, I, Same.refl H⟩
    | true => exact Eqb.rc_tupBn sb.room.units0 (fun _ s' => LpI X pins σ H s') e' e2' (fun i h1 h2 s' q => turnX hE sb al la lc h r r2' i h1 h2 s' q) (fun _ s' q => ⟨by rw [sz true]; rfl, q⟩) ⟨H, I, Same.refl H⟩
theorem eq_all {L : Nat} (cl : ClEq X L P) : ∀ n, EqX X (L + n) (GQ P n) := by
  intro n
  induction n using Nat.strongRecOn with
  | ind n ih =>
    have rc := rcX_all cl false n ih
    have ex := rc.eqX (fun x y b d => ⟨d.2.1, d.2.2⟩) fun x b d => d.1.self cl.self rfl
    intro A pins s σ H av x y u v dx dy b sb I rx ry al r1 r2 d
    cases f : dx.flat with
    | true =>
      cases d with
      | flat hd he _ _ =>
        have q := eqAt_V (A := A) (s := s) rx ry (rep_flatV r1 hd) (rep_flatV r2 he)
        rw [eqV_D r1 r2 hd he] at q
        exact q X.prog X.w X.xe _ ⟨rfl, H, I, Same.refl H⟩
      | _ => cases f
    | false =>
      have f2 : dy.flat = false := by
        cases d with
        | flat hd => rw [hd] at f; cases f
        | _ => rfl
      exact ex A pins s σ H av x y u v dx dy b sb I rx ry al r1 r2 ⟨d, f, f2⟩
theorem rc_every {L : Nat} (cl : ClEq X L P) (neg : Bool) (n : Nat) : RcX neg X (L + n) (GN P n) := rcX_all cl neg n fun m _ => eq_all cl m
/-! the rule -/
@[irreducible] def dEqG (P : QP) (n : Nat) (neg : Bool) (x y : Dt) (Q : Dt → Prop) : Prop := ∃ b, GN P n x y b ∧ Q (.bl (if neg then !b else b))
def rEqX (K : PySem.W.Frag) (P : QP) (n : Nat) (neg : Bool) : R2 := fun x y H Q => ∃ (av : Addr → Prop) (dx dy : Dt) (b : Bool), Al av H ∧ Rep K av H x dx ∧ Rep K av H y dy ∧ GN P n dx dy b ∧ ∀ H', Same H H' → Q (.bl (if neg then !b else b)) H'
theorem ro_eqG {K : PySem.W.Frag} {P : QP} {n : Nat} {neg : Bool} : ROk K (rEqX K P n neg) (dEqG P n neg) := fun av H x y dx dy Q Qd al rx ry d q => by
  unfold dEqG at d
  obtain ⟨b, g, d⟩ := d
  exact ⟨av, dx, dy, b, al, rx, ry, g, fun H' e => q _ _ H' e (.bl _) d⟩
theorem op_eqX {K : PySem.W.Frag} {L : Nat} (cl : ClEq X L P) (hK : X.K = K) (hr : Room (L + n) X.A) : OpR X (compareOp .Eq) (rEqX K P n false) := by
  subst hK
  intro pins s σ H x y v u Q I rx ry hq
  obtain ⟨av, dx, dy, b, al, r1, r2, g, q⟩ := hq
  show wpAny (model X.prog X.w) X.A (richCompare .Eq v u) (EP X pins σ Q) X.xe s
  refine wpAny_mono (rc_every cl false n X.A pins s σ H av x y v u dx dy b ⟨hr, rfl⟩ I rx ry al r1 r2 g) (fun r s' z => ?_) fun _ _ x => x
  obtain ⟨hr', H', I', e⟩ := z
  subst hr'
  exact ⟨.bl _, H', I', rfl, q H' e⟩
theorem op_neX {K : PySem.W.Frag} {L : Nat} (cl : ClEq X L P) (hK : X.K = K) (hr : Room (L + n) X.A) : OpR X (compareOp .NotEq) (rEqX K P n true) := by
  subst hK
  intro pins s σ H x y v u Q I rx ry hq
  obtain ⟨av, dx, dy, b, al, r1, r2, g, q⟩ := hq
  show wpAny (model X.prog X.w) X.A (richCompare .NotEq v u) (EP X pins σ Q) X.xe s
  refine wpAny_mono (rc_every cl true n X.A pins s σ H av x y v u dx dy b ⟨hr, rfl⟩ I rx ry al r1 r2 g) (fun r s' z => ?_) fun _ _ x => x
  obtain ⟨hr', H', I', e⟩ := z
  subst hr'
  exact ⟨.bl _, H', I', rfl, q H' e⟩
end
end Dl
set_option maxHeartbeats 1000000
/-! texts: s * n; == of texts; == by instances as rules -/
namespace Dl
open PySem PySem.Spec PyProof.Rows L2 Lcn Sq
def repS (z : Str) (n : Nat) : Str := ⟨(List.replicate n z.cps).foldl (· ++ ·) #[]⟩
def rRepS : R2 := fun x y H Q => ∃ (z : Str) (n : Int), x = .str z ∧ y = .int n ∧ 1 ≤ n ∧ n ≤ 1000 ∧ z.length ≤ 1000 ∧ 1 ≤ z.length ∧ Q (.str (repS z n.toNat)) H
theorem repS_one (z : Str) : repS z 1 = z := by
  unfold repS
  simp
theorem foldl_len (z : Str) : ∀ (n : Nat) (a : Array Nat), ((List.replicate n z.cps).foldl (· ++ ·) a).size = a.size + n * z.length
  | 0, a => by simp
  | n + 1, a => by
    rw [List.replicate_succ, List.foldl_cons, foldl_len z n, Array.size_append, Nat.succ_mul]
    show a.size + z.length + n * z.length = _
    omega
theorem repS_len (z : Str) (n : Nat) : (repS z n).length = n * z.length := by
  show ((List.replicate n z.cps).foldl (· ++ ·) #[]).size = _
  rw [foldl_len]
  simp
theorem op_repS {X : Cx} : OpR X (binaryOp .Mult) rRepS := by
  intro pins s σ H x y v u Q I rx ry h
  obtain ⟨z, n, rfl, rfl, h1, h2, h3, h4, q⟩ := h
  obtain ⟨t, rfl⟩ := rx
  obtain ⟨t2, rfl⟩ := ry
  refine P.mul_str (by rw [decide_eq_false (by omega), decide_eq_false (by omega)]; rfl) (fun _ _ => ?_) (fun _ _ => ?_) ?_
  · have a1 : ((2 : Int) ^ 63 - 1) / n ≥ ((2 : Int) ^ 63 - 1) / 1000 := by
      refine Int.le_ediv_of_mul_le (by omega) ?_
      have : ((2 : Int) ^ 63 - 1) / 1000 * n ≤ ((2 : Int) ^ 63 - 1) / 1000 * 1000 := Int.mul_le_mul_of_nonneg_left h2 (by decide)
      have b1 : ((2 : Int) ^ 63 - 1) / 1000 * 1000 ≤ 2 ^ 63 - 1 := by decide
      omega
    have b2 : ((2 : Int) ^ 63 - 1) / 1000 > 1000 := by decide
    omega
  · unfold Builtin.Str.tooLong
    have : z.length * n.toNat ≤ 1000 * 1000 := Nat.mul_le_mul h3 (by omega)
    rw [sizeLine_eq]
    exact decide_eq_false (by omega)
  · rw [if_neg (by omega)]
    split
    · rename_i hc
      have hn : n = 1 := by
        rcases Bool.or_eq_true_iff.mp hc with a | a
        · exact beq_iff_eq.mp a
        · have := beq_iff_eq.mp a
          omega
      subst hn
      refine ⟨.str z, H, I, ⟨t, rfl⟩, ?_⟩
      rw [show ((1 : Int).toNat) = 1 from rfl, repS_one] at q
      exact q
    · refine ⟨?_, .str (repS z n.toNat), H, I.tok _, ⟨_, rfl⟩, q⟩
      show (repS z n.toNat).length ≤ sizeLine
      rw [repS_len, sizeLine_eq]
      have : n.toNat * z.length ≤ 1000 * 1000 := Nat.mul_le_mul (by omega) h3
      omega
section
variable {ι : Type} {K : PySem.W.Frag} {X : ι → Cx} {z o : Bool} {pos pos' p2 : Pos} {a b c e : Expr} {es : List Expr} {ea eb : EvE} {et : EvA}
/-- a text so many times -/
def dMulS (x y : Dt) (Q : Dt → Prop) : Prop := match x, y with
  | .str t, .int n => (1 ≤ n ∧ n ≤ 1000 ∧ t.length ≤ 1000 ∧ 1 ≤ t.length) ∧ Q (.str (repS t n.toNat))
  | _, _ => False
theorem ro_mulS : ROk K rRepS dMulS := fun av H x y dx dy Q Qd al rx ry d q => by
  unfold dMulS at d
  split at d
  · exact ⟨_, _, rx.str_inv, ry.int_inv, d.1.1, d.1.2.1, d.1.2.2.1, d.1.2.2.2, q _ _ H (Same.refl H) (.str _) d.2⟩
  · exact d.elim
theorem de_mulS (ha : DE z K X a ea) (hb : DE z K X b eb) : DE z K X (.BinOp a .Mult b pos) (dOp dMulS ea eb) := de_op (fun i => op_repS) ro_mulS ha hb
/-! texts told apart -/
theorem sep_str : Sep Dt.str := fun x y => by
  unfold eqD
  simp only [py, PyData.eqv]
  exact Bool.beq_eq_decide_eq x y
theorem sh_str {x : Str} (h : PyData.strOk x = true) : shD (.str x) = true := by
  unfold shD
  rw [okD, h]
  simp [py, PyData.depth]
theorem dEq_str {x y : Str} {neg : Bool} {Q : Dt → Prop} (hx : PyData.strOk x = true) (hy : PyData.strOk y = true) (b : Bool) (hb : (if neg then !decide (x = y) else decide (x = y)) = b) (q : Q (.bl b)) : dEq neg (.str x) (.str y) Q := by
  unfold dEq
  refine ⟨sh_str hx, sh_str hy, ?_⟩
  rw [sep_str x y, hb]
  exact q
theorem foldl_all (z : Str) (p : Nat → Bool) (h : z.cps.all p = true) : ∀ (n : Nat) (a : Array Nat), a.all p = true → ((List.replicate n z.cps).foldl (· ++ ·) a).all p = true
  | 0, a, ha => ha
  | n + 1, a, ha => by
    rw [List.replicate_succ, List.foldl_cons]
    refine foldl_all z p h n _ ?_
    rw [Array.all_append, ha, h]
    rfl
theorem ok_rep {z : Str} (h : PyData.strOk z = true) (n : Nat) : PyData.strOk (repS z n) = true := foldl_all z _ h n #[] (by simp)
/-! a field of the instance that is being made -/
def dFldO (K : PySem.W.Frag) (i : Nat) (f : Str) : EvE := fun δ Q => match δ[i]? with
  | some (.own _ (.i C es)) => Cls K C ∧ NoAttr K C f ∧ ∃ d, es.lookup f = some d ∧ Q d
  | _ => False
theorem de_fldO {i : Nat} {x f : Str} (p : ∀ j, PE (X j) (.Name x p2) (tVar i)) (hb : ∀ i, attributeBase (.Name x p2) f (X i).env (eval (.Name x p2) (X i).env) = eval (.Name x p2) (X i).env := by intro _; rfl) (hK : ∀ i, (X i).K = K := by intro _; rfl) : DE true K X (.Attribute (.Name x p2) f pos) (dFldO K i f) := by
  refine ⟨_, fun j => pe_fldK (hK j) (p j) (hb j), fun C σ δ H Q Qd k s e q => ?_⟩
  subst k
  unfold dFldO at e
  split at e
  · rename_i a' C' es h
    obtain ⟨h1, h2, d, h3, e⟩ := e
    obtain ⟨g1, u, hu, ho⟩ := s.ownAt h
    obtain ⟨dx, fs, rfl, l, rl⟩ := ho.ins
    obtain ⟨w, hw, rw'⟩ := lookup_rep l rl h3
    exact ⟨.ref a', g1, a', C', dx, fs, w, rfl, hu, h1, h2, hw, q w d H (Stp.refl H) rw' e⟩
  · exact e.elim
/-! == with instances within -/
/-- instances, or what is told by value -/
@[irreducible] def dEqH (P : QP) (n : Nat) (neg : Bool) (x y : Dt) (Q : Dt → Prop) : Prop := dEqG P n neg x y Q ∨ dEq neg x y Q
theorem ro_eqH {P : QP} {n : Nat} : ROk K (fun x y H Q => rEqX K P n false x y H Q ∨ rEqD K x y H Q) (dEqH P n false) := (ro_eqG.or ro_eq).imp fun x y Q d => by
  unfold dEqH at d
  exact d
theorem ro_neH {P : QP} {n : Nat} : ROk K (fun x y H Q => rEqX K P n true x y H Q ∨ rNeD K x y H Q) (dEqH P n true) := (ro_eqG.or ro_ne).imp fun x y Q d => by
  unfold dEqH at d
  exact d
theorem cd_eqH {P : QP} {L n : Nat} (cl : ∀ i, ClEq (X i) L P) (hr : ∀ i, Room (L + n) (X i).A) (hK : ∀ i, (X i).K = K := by intro _; rfl) : CmpD K X .Eq (dEqH P n false) := ⟨_, fun i => (op_eqX (cl i) (hK i) (hr i)).or (op_eqK (hK i) (ru64 (hr i))), ro_eqH⟩
theorem cd_neH {P : QP} {L n : Nat} (cl : ∀ i, ClEq (X i) L P) (hr : ∀ i, Room (L + n) (X i).A) (hK : ∀ i, (X i).K = K := by intro _; rfl) : CmpD K X .NotEq (dEqH P n true) := ⟨_, fun i => (op_neX (cl i) (hK i) (hr i)).or (op_neK (hK i) (ru64 (hr i))), ro_neH⟩
end
theorem dEqH_of {P : QP} {n : Nat} {neg : Bool} {x y : Dt} {b : Bool} {Q : Dt → Prop} (g : GQ P n x y b) (q : Q (.bl (if neg then !b else b))) : dEqH P n neg x y Q := by
  unfold dEqH
  cases f : x.flat with
  | true =>
    cases g with
    | flat hd he sd se =>
      refine .inr ?_
      unfold dEq
      exact ⟨sd, se, q⟩
    | _ => cases f
  | false =>
    refine .inl ?_
    unfold dEqG
    refine ⟨b, ⟨g, f, ?_⟩, q⟩
    cases g with
    | flat hd => rw [hd] at f; cases f
    | _ => rfl
end Dl
set_option maxHeartbeats 1000000
/-! not of any thing; a try that runs through; constants of the module; defs that are never called -/
namespace Dl
open PySem PySem.Spec PyProof.Rows L2 Lcn Sq
def strSz : Dt → Prop
  | .str y => y.length ≤ sizeLine
  | _ => True
theorem tru_rep {K : PySem.W.Frag} {av : Addr → Prop} {H : Hp} {x : V} {dx : Dt} {b : Bool} (r1 : Rep K av H x dx) (g : strSz dx) (tb : truD dx = some b) : TruV K x H b := by
  cases r1 with
  | non => exact (Option.some.inj tb).symm
  | bl b => exact (Option.some.inj tb).symm
  | int i => exact (Option.some.inj tb).symm
  | str y => exact ⟨g, (Option.some.inj tb).symm⟩
  | lst h l f => exact .inl ⟨_, h.sq, (Option.some.inj tb).symm.trans (repl_empty (K := K) ⟨l, f⟩)⟩
  | tup h l f => exact .inr (.inl ⟨_, h.sq, (Option.some.inj tb).symm.trans (repl_empty (K := K) ⟨l, f⟩)⟩)
  | ins => cases tb
section
variable {ι : Type} {K : PySem.W.Frag} {X : ι → Cx} {z o : Bool} {pos pos' p2 : Pos} {a b c e : Expr} {es : List Expr} {ea eb : EvE} {et : EvA} {body : List Stmt} {sv : EvS}
def dNotA (ea : EvE) : EvE := fun δ Q => dTru ea δ fun b => Q (.bl (!b))
theorem de_notT (ha : DE false K X a ea) (hK : ∀ i, (X i).K = K := by intro _; rfl) : DE z K X (.UnaryOp .Not a pos) (dNotA ea) := by
  obtain ⟨t, p, v⟩ := ha
  refine ⟨tNotT K t, fun i => hK i ▸ pe_notT (p i), fun C σ δ H Q Qd k s e q => ?_⟩
  subst k
  refine v C σ δ H _ _ rfl s e fun x dx H1 e1 r1 e => ?_
  obtain ⟨g, b, tb, e⟩ := e
  refine ⟨b, tru_rep r1 ?_ tb, q _ _ H1 e1 (.bl _) e⟩
  cases dx <;> first | exact g | trivial
/-- a try whose body raises nothing -/
theorem ds_tryThru {h0 : ExceptHandler} {hs : List ExceptHandler} (h : DSs K (fun i => (X i).nox) body sv) : DS K X (.Try body (h0 :: hs) [] [] pos) sv := by
  obtain ⟨t, p, v⟩ := h
  exact ⟨t, fun i => ps_try_thru0 (p i), v⟩
end
theorem pe_gint {X : Cx} {x : Str} {p : Pos} {i : Int} (hg : Gl X x) (h : ∃ t, X.mg x = some (.int i t)) (hd : (x == ("__debug__" : Str)) = false := by decide) : PE X (.Name x p) (tC (.int i)) := by
  obtain ⟨t, h⟩ := h
  exact pe_glob (v := .int i) hg h ⟨t, rfl⟩ hd
theorem pe_gstr {X : Cx} {x : Str} {p : Pos} {i : Str} (hg : Gl X x) (h : ∃ t, X.mg x = some (.str i t)) (hd : (x == ("__debug__" : Str)) = false := by decide) : PE X (.Name x p) (tC (.str i)) := by
  obtain ⟨t, h⟩ := h
  exact pe_glob (v := .str i) hg h ⟨t, rfl⟩ hd
def sp_no : Spc := fun _ _ => False
section
variable {P : Program} {w : World} {K : PySem.W.Frag} {mg : Str → Option Value} {base : Heap}
theorem fn_no {x qual : Str} {params : Arguments} {body : List Stmt} {scope : Scope} {dvs : List V} {kws : List (Str × V)} {f : Addr} {fd : FuncData} {N ps : List Str} {k n : Nat} (F : FunD K x qual params body scope dvs kws f fd) (S : FnScope N ps scope) : FnOk P w K mg base CX0 (k + 1) f fd ps (dsp K n sp_no) :=
  F.ok S (fun vs H Q E h => by
    obtain ⟨_, _, _, _, _, _, _, _, _, h, _⟩ := h
    exact h.elim) fun cdv A outer s H vs Q E hr h => by
    obtain ⟨_, _, _, _, _, _, _, _, _, h, _⟩ := h
    exact h.elim
end
end Dl
/-! a law's start: the source stands, nothing else is known -/
namespace Dl
open PySem PySem.Spec PyProof.Rows L2 Lcn Sq
theorem sok_law {K : PySem.W.Frag} {a p L : Addr} {ns : List Int} {H : Hp} {n : Nat} (s : Src H p L ns) : Sok ⟨K, some (p, L, ns), fun b => b = p ∨ b = L, H, []⟩ H (some (.ref a) :: some (.ref p) :: List.replicate n none) (.any :: .src :: List.replicate n .any) := by
  have noo : ∀ (i : Nat) (a' : Addr) (ds : Oc), (Sl.any :: Sl.src :: List.replicate n Sl.any)[i]? ≠ some (.own a' ds) := fun i a' ds h => by
    match i with
    | 0 => cases h
    | 1 => cases h
    | i + 2 =>
      have h : (List.replicate n Sl.any)[i]? = some (.own a' ds) := h
      rw [List.getElem?_replicate] at h
      split at h <;> cases h
  refine ⟨by simp, fun i x h => ?_, fun i j a' ds es h => absurd h (noo i a' ds), s, Stp.refl H, fun b h => h, fun b h => ?_, fun p m => nomatch m⟩
  · match i with
    | 0 =>
      cases h
      trivial
    | 1 =>
      cases h
      exact ⟨_, rfl, rfl⟩
    | i + 2 =>
      have h : (List.replicate n Sl.any)[i]? = some x := h
      rw [List.getElem?_replicate] at h
      split at h
      · cases h
        trivial
      · cases h
  · obtain ⟨_, _, _, q⟩ := s
    rcases h with rfl | rfl
    · exact ⟨_, q.at_⟩
    · exact ⟨_, q.ls⟩
/-- the end: True is given back -/
theorem ends_law {C : Ctx} {D : Ends} (h : ∀ H, D.rt (.bl true) H) : EndsR C D { nx := fun _ => False, rt := fun d => d = .bl true } :=
  ⟨fun _ _ _ _ e => e.elim, fun v d H e r _ qd => by
    subst qd
    rw [r.bl_inv]
    exact h H, fun _ _ _ _ e => e.elim, fun _ _ _ _ e => e.elim⟩
end Dl
set_option maxHeartbeats 4000000
namespace My
open PySem L2
def topS (i : Nat) : Stmt := PySem.Challenge.pw_pressedwords_k99_results_equal_by_all_at.main.body.getD i (.Pass ⟨0, 0, 0, 0⟩)
abbrev s__wall : Stmt := topS 0
abbrev s_BadBook_init : Stmt := inClass (topS 3) 0
abbrev s_BadGrammar_init : Stmt := inClass (topS 4) 0
abbrev s_NoSymbol_init : Stmt := inClass (topS 5) 0
abbrev s_TooLong_init : Stmt := inClass (topS 6) 0
abbrev s_BadFilling_init : Stmt := inClass (topS 7) 0
abbrev s_is_whole : Stmt := topS 9
abbrev s_is_sequence : Stmt := topS 10
abbrev s_is_couple : Stmt := topS 11
abbrev s_is_state : Stmt := topS 12
abbrev s_is_deed : Stmt := topS 13
abbrev s_is_goals : Stmt := topS 14
abbrev s_is_ends : Stmt := topS 15
abbrev s_is_side : Stmt := topS 16
abbrev s_is_row : Stmt := topS 17
abbrev s_sign_stands : Stmt := topS 18
abbrev s_Book_init : Stmt := inClass (topS 19) 0
abbrev s_Book_key : Stmt := inClass (topS 19) 1
abbrev s_Book_eq : Stmt := inClass (topS 19) 2
abbrev s_Clash_init : Stmt := inClass (topS 20) 0
abbrev s_Clash_eq : Stmt := inClass (topS 20) 1
abbrev s_Canon_init : Stmt := inClass (topS 23) 0
abbrev s_Canon_eq : Stmt := inClass (topS 23) 1
abbrev s_Settled_init : Stmt := inClass (topS 25) 0
abbrev s_Settled_eq : Stmt := inClass (topS 25) 1
abbrev s_Guess_init : Stmt := inClass (topS 27) 0
abbrev s_Guess_eq : Stmt := inClass (topS 27) 1
abbrev s_Shape_init : Stmt := inClass (topS 29) 0
abbrev s_Shape_eq : Stmt := inClass (topS 29) 1
abbrev s_Answer_init : Stmt := inClass (topS 31) 0
abbrev s_Answer_eq : Stmt := inClass (topS 31) 1
abbrev s_Carries_init : Stmt := inClass (topS 32) 0
abbrev s_Carries_eq : Stmt := inClass (topS 32) 1
abbrev s_is_name : Stmt := topS 36
abbrev s_Case_init : Stmt := inClass (topS 38) 0
abbrev s_Case_eq : Stmt := inClass (topS 38) 1
abbrev s_Case_names : Stmt := inClass (topS 38) 2
abbrev s_Look_init : Stmt := inClass (topS 40) 0
abbrev s_Look_eq : Stmt := inClass (topS 40) 1
abbrev s_Entry_init : Stmt := inClass (topS 42) 0
abbrev s_Entry_eq : Stmt := inClass (topS 42) 1
abbrev s_Shut_init : Stmt := inClass (topS 43) 0
abbrev s_Shut_eq : Stmt := inClass (topS 43) 1
abbrev s_Paper_init : Stmt := inClass (topS 44) 0
abbrev s_Paper_eq : Stmt := inClass (topS 44) 1
abbrev s_Paper_len : Stmt := inClass (topS 44) 2
abbrev s_Paper_iter : Stmt := inClass (topS 44) 3
abbrev s_Paper_contains : Stmt := inClass (topS 44) 4
abbrev s_Paper_books : Stmt := inClass (topS 44) 5
abbrev s_Run_init : Stmt := inClass (topS 46) 0
abbrev s_Run_eq : Stmt := inClass (topS 46) 1
abbrev s_Grammar_init : Stmt := inClass (topS 50) 0
abbrev s_Grammar_eq : Stmt := inClass (topS 50) 1
abbrev s_Grammar_word_length : Stmt := inClass (topS 50) 2
abbrev s_Grammar_letters_in : Stmt := inClass (topS 50) 3
abbrev s_Grammar_letter_at : Stmt := inClass (topS 50) 4
abbrev s_Grammar_plain_text : Stmt := inClass (topS 50) 5
abbrev s_is_rule : Stmt := topS 51
abbrev s_is_text : Stmt := topS 52
abbrev s_rule_length : Stmt := topS 53
abbrev s_check_word : Stmt := topS 54
abbrev s_Pressed_init : Stmt := inClass (topS 56) 0
abbrev s_Pressed_eq : Stmt := inClass (topS 56) 1
abbrev s_Filling_init : Stmt := inClass (topS 59) 0
abbrev s_Filling_eq : Stmt := inClass (topS 59) 1
abbrev s_Filling_names : Stmt := inClass (topS 59) 2
abbrev s_Filling_word_of : Stmt := inClass (topS 59) 3
abbrev s_Filling_texts : Stmt := inClass (topS 59) 4
abbrev s_goes_on : Stmt := topS 60
abbrev s_is_fresh_name : Stmt := topS 61
abbrev s_is_word : Stmt := topS 62
abbrev s_filling_of : Stmt := topS 63
abbrev s_Root_init : Stmt := inClass (topS 65) 0
abbrev s_Root_eq : Stmt := inClass (topS 65) 1
abbrev s_Trail_init : Stmt := inClass (topS 67) 0
abbrev s_Trail_eq : Stmt := inClass (topS 67) 1
abbrev s_Stages_init : Stmt := inClass (topS 69) 0
abbrev s_Stages_eq : Stmt := inClass (topS 69) 1
abbrev s_Way_init : Stmt := inClass (topS 71) 0
abbrev s_Way_eq : Stmt := inClass (topS 71) 1
abbrev s_Found_init : Stmt := inClass (topS 72) 0
abbrev s_Found_eq : Stmt := inClass (topS 72) 1
abbrev s_Never_init : Stmt := inClass (topS 73) 0
abbrev s_Never_eq : Stmt := inClass (topS 73) 1
abbrev s_Trial_init : Stmt := inClass (topS 75) 0
abbrev s_Trial_eq : Stmt := inClass (topS 75) 1
abbrev s__law_source : Stmt := topS 77
abbrev s__law_take : Stmt := topS 78
abbrev s__law_book : Stmt := topS 79
abbrev s__law_part : Stmt := topS 80
abbrev s__law_made : Stmt := topS 81
abbrev s__law_made_later : Stmt := topS 82
abbrev s__law_told : Stmt := topS 83
abbrev s__law_told_later : Stmt := topS 84
abbrev s__law_result_right : Stmt := topS 85
abbrev s_law : Stmt := topS 86
/-- a def of the module, where it stands -/
structure Dn (K : PySem.W.Frag) (mg : Str → Option Value) (x : Str) (st : Stmt) (ps : List Str) where
  f : Addr
  fd : FuncData
  F : FunD K x x (defArgs st) (defBody st) (defScope st) [] [] f fd
  m : mg x = some (.ref f)
  b : Binds K fd ps []
/-- the built-in names that the module leaves alone -/
structure TB (mg : Str → Option Value) : Prop where
  len : mg "len" = none
  int : mg "int" = none
  bool : mg "bool" = none
  list_ : mg "list" = none
  tuple_ : mg "tuple" = none
  isinstance : mg "isinstance" = none
  all_ : mg "all" = none
  range : mg "range" = none
  min_ : mg "min" = none
  enumerate : mg "enumerate" = none
  zip : mg "zip" = none
  any_ : mg "any" = none
  sum_ : mg "sum" = none
  max_ : mg "max" = none
  sorted : mg "sorted" = none
  dict : mg "dict" = none
  repr : mg "repr" = none
  str_ : mg "str" = none
  set_ : mg "set" = none
section
variable {P : Program} {w : World} {K : PySem.W.Frag} {mg : Str → Option Value} {base : Heap}
theorem ok0 {x qual : Str} {params : Arguments} {body : List Stmt} {scope : Scope} {dvs : List V} {kws : List (Str × V)} {f : Addr} {fd : FuncData} {N ps : List Str} {k : Nat} {sp : Sp} (F : FunD K x qual params body scope dvs kws f fd) (S : FnScope N ps scope) (len : ∀ vs H Q E, sp vs H Q E → vs.length = ps.length)
    (hbody : ∀ (cdv : Value) (A : Around) (outer : List Env) (s : Shared) (H : Hp) (vs : List V) (Q : VK) (E : XK), Room k (A.deeper (PyProof.Rows.envOfC qual scope s.heap.objs.size f cdv)) → sp vs H Q E →
      ∃ t, PSs (cxOf CX0 P w K mg base N qual scope f cdv A outer s H E).nox body t ∧ t { nx := fun _ H' => Q .non H', rt := Q } (start N vs) H) : FnOk P w K mg base CX0 (k + 1) f fd ps sp := by
  refine F.ok S len fun cdv A outer s H vs Q E hr hsp => ?_
  obtain ⟨t, h, q⟩ := hbody cdv A outer s H vs Q E hr hsp
  exact ⟨t, h.nox, q⟩
end
end My
set_option maxHeartbeats 4000000
namespace My
open PySem PySem.Spec PyProof.Rows L2 Lcn Sq Dl
theorem pA_rfl {f : Str} {d : Dt} {es fs : List (Str × Dt)} (h : putA f d es = fs) : putA f d es = fs := h
theorem kit_self {K : PySem.W.Frag} (C : Addr) : PySem.W.kitOne K (.ref C) (.ref C) = some true := by
  unfold PySem.W.kitOne
  rw [if_pos (by simp)]
/-- how the instances of one class compare: by fields named ns -/
def EqF (Pr : QP) (n : Nat) (ns : List Str) (fs gs : List (Str × Dt)) (b : Bool) : Prop := ∃ e : Str → Bool, (∀ x, x ∈ ns → ∃ d d', fs.lookup x = some d ∧ gs.lookup x = some d' ∧ GQ Pr n d d' (e x)) ∧ b = ns.all e
def sp_eq (Kc : Addr → Addr → Prop) (Pr : QP) (n : Nat) (C : Addr) (ns : List Str) : Spc := fun δ Q => ∃ (D : Addr) (fs gs : List (Str × Dt)) (b : Bool), δ = [.val (.ins C fs), .val (.ins D gs)] ∧ ((Kc C D ∧ b = false) ∨ (C = D ∧ EqF Pr n ns fs gs b)) ∧ Q (.bl b)
def P0 : QP := fun _ _ _ _ _ => False
theorem clEq0 {P : Program} {w : World} {K : PySem.W.Frag} {mg : Str → Option Value} {base : Heap} : ClEqB P w K mg base 0 P0 := ⟨fun _ _ _ _ _ h => h.elim, fun _ _ _ h => h.elim⟩
/-- an own == that keeps its promise, where a comparison finds it -/
def EqAt (pr : Program) (w : World) (K : PySem.W.Frag) (mg : Str → Option Value) (base : Heap) (Kc : Addr → Addr → Prop) (Pr : QP) (n lv : Nat) (C : Addr) (ns : List Str) : Prop := ∃ (f : Addr) (fd : FuncData), FnOk pr w K mg base CX0 lv f fd ["self", "other"] (dsp K 2 (sp_eq Kc Pr n C ns)) ∧ PySem.W.findIn K (.ref C) "__eq__" = some (some (.ref f)) ∧ PySem.W.isFn K (.ref f) = true ∧ L2.Binds K fd ["self", "other"] [] ∧
    PySem.W.findIn K (.ref C) "__ne__" = some (some (.builtin "object.__ne__")) ∧ PySem.W.mroIn K C (.type "object") = some true
abbrev Tb := List (Str × List Str)
/-- comparisons of one rank more -/
def PA (Kc : Addr → Addr → Prop) (tb : Tb) (cs : Str → Addr) (Pr : QP) (n : Nat) : QP := fun C D fs gs b => Pr C D fs gs b ∨ ∃ x ns, (x, ns) ∈ tb ∧ C = cs x ∧ ((Kc C D ∧ b = false) ∨ (C = D ∧ EqF Pr n ns fs gs b))
theorem clEqS {P : Program} {w : World} {K : PySem.W.Frag} {mg : Str → Option Value} {base : Heap} {Kc : Addr → Addr → Prop} {tb : Tb} {cs : Str → Addr} {Pr : QP} {n lv L L' : Nat} (cl : ClEqB P w K mg base L Pr) (hE : ∀ x ns, (x, ns) ∈ tb → EqAt P w K mg base Kc Pr n lv (cs x) ns) (far : ∀ C D, Kc C D → PySem.W.notFirst K C (.ref D) = true ∧ C ≠ D) (h1 : L ≤ L') (h2 : lv + 1 ≤ L') : ClEqB P w K mg base L' (PA Kc tb cs Pr n) := by
  refine ⟨fun C D fs gs b h => ?_, fun C fs b h => ?_⟩
  · rcases h with h | ⟨x, ns, hx, rfl, h⟩
    · obtain ⟨k, f, fd, ps, sp, hk, r⟩ := cl.ok _ _ _ _ _ h
      exact ⟨k, f, fd, ps, sp, by omega, r⟩
    · obtain ⟨f, fd, F, h3, h4, h5, h6, h7⟩ := hE x ns hx
      refine ⟨lv, f, fd, _, _, h2, F, h3, h4, h5, ?_, h6, h7, D, fs, gs, b, rfl, h, rfl⟩
      rcases h with ⟨h, _⟩ | ⟨h, _⟩
      · exact (far _ _ h).1
      · subst h
        simp [PySem.W.notFirst]
  · rcases h with h | ⟨x, ns, hx, rfl, h⟩
    · exact cl.self _ _ _ h
    · rcases h with ⟨h, _⟩ | ⟨_, e, h, rfl⟩
      · exact absurd rfl (far _ _ h).2
      · rw [List.all_eq_true]
        intro y hy
        obtain ⟨d, d', h3, h4, g⟩ := h y hy
        rw [h3] at h4
        exact g.self cl.self (Option.some.inj h4)
def tb0 : Tb := [(("Clash" : Str), (["why", "at"] : List Str)), (("Shape" : Str), (["front", "stays", "back", "ends"] : List Str)), (("Answer" : Str), (["numbers"] : List Str)), (("Carries" : Str), (["rows"] : List Str)), (("Look" : Str), (["step", "outcomes"] : List Str)), (("Trail" : Str), (["root", "turns"] : List Str)), (("Case" : Str), (["rows", "sets", "full"] : List Str)), (("Run" : Str), (["turns", "used", "ends", "stop"] : List Str)), (("Way" : Str), (["turns", "reads", "sayings", "ends", "stop"] : List Str)), (("Never" : Str), (["papers"] : List Str)), (("Trial" : Str), (["tolds", "refused"] : List Str)), (("Book" : Str), (["rows", "deeds", "ends", "states"] : List Str)), (("Grammar" : Str), (["rules"] : List Str))]
def tb1 : Tb := [(("Canon" : Str), (["book", "letters", "unknowns"] : List Str)), (("Settled" : Str), (["told", "letters", "unknowns", "spares"] : List Str)), (("Guess" : Str), (["parts", "news", "told", "letters", "unknowns", "spares", "equations"] : List Str)), (("Pressed" : Str), (["table", "ends"] : List Str)), (("Stages" : Str), (["grammar", "stages"] : List Str)), (("Entry" : Str), (["book", "step", "lots"] : List Str)), (("Root" : Str), (["told", "letters", "unknowns", "spares", "empties"] : List Str)), (("Filling" : Str), (["grammar", "words"] : List Str))]
def tb2 : Tb := [(("Found" : Str), (["turns", "filling"] : List Str)), (("Paper" : Str), (["deeds", "entries"] : List Str))]
def tb3 : Tb := [(("Shut" : Str), (["paper"] : List Str))]
section
variable (Kc : Addr → Addr → Prop) (cs : Str → Addr)
@[irreducible] def P1 : QP := PA Kc tb0 cs P0 4
@[irreducible] def P2 : QP := PA Kc tb1 cs (P1 Kc cs) 4
@[irreducible] def P3 : QP := PA Kc tb2 cs (P2 Kc cs) 4
@[irreducible] def P4 : QP := PA Kc tb3 cs (P3 Kc cs) 4
end
structure OC_Clash (K : PySem.W.Frag) (mg : Str → Option Value) where
  C : Addr
  f : Addr
  fd : FuncData
  F : FunD K "__init__" "Clash.__init__" (defArgs s_Clash_init) (defBody s_Clash_init) (defScope s_Clash_init) [] [] f fd
  m : mg "Clash" = some (.ref C)
  M : Mk K C f
  cl : Cls K C
  na : ∀ f, f ∈ [("why" : Str), ("at" : Str)] → NoAttr K C f
  v0 : List Value
  w0 : Vals [] v0
  b0 : L2.Binds K fd ["self", "why", "at"] v0
  ins : C8.InsC K C
  fe : Addr
  fde : FuncData
  FE : FunD K "__eq__" "Clash.__eq__" (defArgs s_Clash_eq) (defBody s_Clash_eq) (defScope s_Clash_eq) [] [] fe fde
  ie : PySem.W.findIn K (.ref C) "__eq__" = some (some (.ref fe))
  je : PySem.W.isFn K (.ref fe) = true
  be : L2.Binds K fde ["self", "other"] []
  ne : PySem.W.findIn K (.ref C) "__ne__" = some (some (.builtin "object.__ne__"))
  mo : PySem.W.mroIn K C (.type "object") = some true
def sp_Clash : SpcI := fun δ Q => ∃ d0 d1 : Dt, δ = [.val d0, .val d1] ∧ Q [("why", d0), ("at", d1)]
theorem sc_Clash_init : FnScope ["self", "why", "at"] ["self", "why", "at"] (defScope s_Clash_init) := ⟨rfl, rfl, rfl, by decide +kernel, rfl, by decide +kernel, by decide +kernel⟩
section
variable {P : Program} {w : World} {K : PySem.W.Frag} {mg : Str → Option Value} {base : Heap}
theorem ok_Clash_init (C_Clash : OC_Clash K mg) (T : TB mg) : FnOk P w K mg base CX0 1 C_Clash.f C_Clash.fd ["self", "why", "at"] (dspI K C_Clash.C 2 sp_Clash) := by
  refine fn_init (k := 0) C_Clash.F sc_Clash_init (fun cdv A outer s H E hr => (dss_cons (ds_fld (fun _ => pv 0) (de_var (fun _ => pv 1)))
  (dss_one (ds_fld (fun _ => pv 0) (de_var (fun _ => pv 2)))))) (fun δ Qd a l h => ?_)
  obtain ⟨d0, d1, rfl, hq⟩ := h
  refine ⟨C_Clash.cl, C_Clash.na _ (by simp), (by show 0 < 1000; decide), ?_⟩
  rw [show putA ("why" : Str) d0 [] = [(("why" : Str), d0)] from pA_rfl rfl]
  refine ⟨C_Clash.cl, C_Clash.na _ (by simp), (by show 1 < 1000; decide), ?_⟩
  rw [show putA ("at" : Str) d1 [(("why" : Str), d0)] = [(("why" : Str), d0), (("at" : Str), d1)] from pA_rfl rfl]
  exact ⟨_, rfl, hq⟩
end
theorem sc_Clash_eq : FnScope ["self", "other"] ["self", "other"] (defScope s_Clash_eq) := ⟨rfl, rfl, rfl, by decide +kernel, rfl, by decide +kernel, by decide +kernel⟩
section
variable {P : Program} {w : World} {K : PySem.W.Frag} {mg : Str → Option Value} {base : Heap}
theorem ok_Clash_eq (C_Clash : OC_Clash K mg) (Kc : Addr → Addr → Prop) (cs : Str → Addr) (FAR : ∀ D, Kc C_Clash.C D → C8.InsC K D ∧ PySem.W.kitOne K (.ref D) (.ref C_Clash.C) = some false) (EQ : ClEqB P w K mg base 0 P0) (T : TB mg) : FnOk P w K mg base CX0 5 C_Clash.fe C_Clash.fde ["self", "other"] (dsp K 2 (sp_eq Kc P0 4 C_Clash.C ["why", "at"])) := by
  refine fn_d (k := 4) C_Clash.FE sc_Clash_eq (fun cdv A outer s H E hr => (dss_one (ds_ret (de_and (de_isiC (de_var (fun _ => pv 1)) (fun _ => pe_glob (v := .ref C_Clash.C) (by rfl) C_Clash.m rfl) (fun _ => by rfl) (fun _ => T.isinstance)) (de_and (de_cmpC (cd_eqH (n := 4) (fun _ => EQ) (fun _ => hr.mono (by decide))) (de_fld (de_var (fun _ => pv 0))) (de_fld (de_var (fun _ => pv 1))) (nomark _)) (de_one (de_cmpC (cd_eqH (n := 4) (fun _ => EQ) (fun _ => hr.mono (by decide))) (de_fld (de_var (fun _ => pv 0))) (de_fld (de_var (fun _ => pv 1))) (nomark _)))))))) (fun δ Qd l h => ?_)
  obtain ⟨D, fs, gs, b, rfl, hc, hq⟩ := h
  rcases hc with ⟨hk, rfl⟩ | ⟨rfl, e, hf, rfl⟩
  · exact ⟨(FAR D hk).1, false, (FAR D hk).2, false, rfl, hq⟩
  obtain ⟨a0, b0, ha0, hb0, g0⟩ := hf "why" (by simp)
  obtain ⟨a1, b1, ha1, hb1, g1⟩ := hf "at" (by simp)
  simp only [List.all_cons, List.all_nil, Bool.and_true] at hq
  refine ⟨C_Clash.ins, true, kit_self _, true, rfl, ?_⟩
  refine ⟨C_Clash.cl, C_Clash.na _ (by simp), a0, ha0, C_Clash.cl, C_Clash.na _ (by simp), b0, hb0, dEqH_of g0 ?_⟩
  refine ⟨e "why", rfl, ?_⟩
  cases he0 : e "why"
  · rw [he0, Bool.false_and] at hq
    exact hq
  rw [he0, Bool.true_and] at hq
  refine ⟨C_Clash.cl, C_Clash.na _ (by simp), a1, ha1, C_Clash.cl, C_Clash.na _ (by simp), b1, hb1, dEqH_of g1 ?_⟩
  exact hq
end
structure OC_Shape (K : PySem.W.Frag) (mg : Str → Option Value) where
  C : Addr
  f : Addr
  fd : FuncData
  F : FunD K "__init__" "Shape.__init__" (defArgs s_Shape_init) (defBody s_Shape_init) (defScope s_Shape_init) [] [] f fd
  m : mg "Shape" = some (.ref C)
  M : Mk K C f
  cl : Cls K C
  na : ∀ f, f ∈ [("front" : Str), ("stays" : Str), ("back" : Str), ("ends" : Str)] → NoAttr K C f
  v0 : List Value
  w0 : Vals [] v0
  b0 : L2.Binds K fd ["self", "front", "stays", "back", "ends"] v0
  ins : C8.InsC K C
  fe : Addr
  fde : FuncData
  FE : FunD K "__eq__" "Shape.__eq__" (defArgs s_Shape_eq) (defBody s_Shape_eq) (defScope s_Shape_eq) [] [] fe fde
  ie : PySem.W.findIn K (.ref C) "__eq__" = some (some (.ref fe))
  je : PySem.W.isFn K (.ref fe) = true
  be : L2.Binds K fde ["self", "other"] []
  ne : PySem.W.findIn K (.ref C) "__ne__" = some (some (.builtin "object.__ne__"))
  mo : PySem.W.mroIn K C (.type "object") = some true
def sp_Shape : SpcI := fun δ Q => ∃ d0 d1 d2 d3 : Dt, δ = [.val d0, .val d1, .val d2, .val d3] ∧ Q [("front", d0), ("stays", d1), ("back", d2), ("ends", d3)]
theorem sc_Shape_init : FnScope ["self", "front", "stays", "back", "ends"] ["self", "front", "stays", "back", "ends"] (defScope s_Shape_init) := ⟨rfl, rfl, rfl, by decide +kernel, rfl, by decide +kernel, by decide +kernel⟩
section
variable {P : Program} {w : World} {K : PySem.W.Frag} {mg : Str → Option Value} {base : Heap}
theorem ok_Shape_init (C_Shape : OC_Shape K mg) (T : TB mg) : FnOk P w K mg base CX0 1 C_Shape.f C_Shape.fd ["self", "front", "stays", "back", "ends"] (dspI K C_Shape.C 4 sp_Shape) := by
  refine fn_init (k := 0) C_Shape.F sc_Shape_init (fun cdv A outer s H E hr => (dss_cons (ds_fld (fun _ => pv 0) (de_var (fun _ => pv 1)))
  (dss_cons (ds_fld (fun _ => pv 0) (de_var (fun _ => pv 2)))
  (dss_cons (ds_fld (fun _ => pv 0) (de_var (fun _ => pv 3)))
  (dss_one (ds_fld (fun _ => pv 0) (de_var (fun _ => pv 4)))))))) (fun δ Qd a l h => ?_)
  obtain ⟨d0, d1, d2, d3, rfl, hq⟩ := h
  refine ⟨C_Shape.cl, C_Shape.na _ (by simp), (by show 0 < 1000; decide), ?_⟩
  rw [show putA ("front" : Str) d0 [] = [(("front" : Str), d0)] from pA_rfl rfl]
  refine ⟨C_Shape.cl, C_Shape.na _ (by simp), (by show 1 < 1000; decide), ?_⟩
  rw [show putA ("stays" : Str) d1 [(("front" : Str), d0)] = [(("front" : Str), d0), (("stays" : Str), d1)] from pA_rfl rfl]
  refine ⟨C_Shape.cl, C_Shape.na _ (by simp), (by show 2 < 1000; decide), ?_⟩
  rw [show putA ("back" : Str) d2 [(("front" : Str), d0), (("stays" : Str), d1)] = [(("front" : Str), d0), (("stays" : Str), d1), (("back" : Str), d2)] from pA_rfl rfl]
  refine ⟨C_Shape.cl, C_Shape.na _ (by simp), (by show 3 < 1000; decide), ?_⟩
  rw [show putA ("ends" : Str) d3 [(("front" : Str), d0), (("stays" : Str), d1), (("back" : Str), d2)] = [(("front" : Str), d0), (("stays" : Str), d1), (("back" : Str), d2), (("ends" : Str), d3)] from pA_rfl rfl]
  exact ⟨_, rfl, hq⟩
end
theorem sc_Shape_eq : FnScope ["self", "other"] ["self", "other"] (defScope s_Shape_eq) := ⟨rfl, rfl, rfl, by decide +kernel, rfl, by decide +kernel, by decide +kernel⟩
section
variable {P : Program} {w : World} {K : PySem.W.Frag} {mg : Str → Option Value} {base : Heap}
theorem ok_Shape_eq (C_Shape : OC_Shape K mg) (Kc : Addr → Addr → Prop) (cs : Str → Addr) (FAR : ∀ D, Kc C_Shape.C D → C8.InsC K D ∧ PySem.W.kitOne K (.ref D) (.ref C_Shape.C) = some false) (EQ : ClEqB P w K mg base 0 P0) (T : TB mg) : FnOk P w K mg base CX0 5 C_Shape.fe C_Shape.fde ["self", "other"] (dsp K 2 (sp_eq Kc P0 4 C_Shape.C ["front", "stays", "back", "ends"])) := by
  refine fn_d (k := 4) C_Shape.FE sc_Shape_eq (fun cdv A outer s H E hr => (dss_one (ds_ret (de_and (de_isiC (de_var (fun _ => pv 1)) (fun _ => pe_glob (v := .ref C_Shape.C) (by rfl) C_Shape.m rfl) (fun _ => by rfl) (fun _ => T.isinstance)) (de_and (de_cmpC (cd_eqH (n := 4) (fun _ => EQ) (fun _ => hr.mono (by decide))) (de_fld (de_var (fun _ => pv 0))) (de_fld (de_var (fun _ => pv 1))) (nomark _)) (de_and (de_cmpC (cd_eqH (n := 4) (fun _ => EQ) (fun _ => hr.mono (by decide))) (de_fld (de_var (fun _ => pv 0))) (de_fld (de_var (fun _ => pv 1))) (nomark _)) (de_and (de_cmpC (cd_eqH (n := 4) (fun _ => EQ) (fun _ => hr.mono (by decide))) (de_fld (de_var (fun _ => pv 0))) (de_fld (de_var (fun _ => pv 1))) (nomark _)) (de_one (de_cmpC (cd_eqH (n := 4) (fun _ => EQ) (fun _ => hr.mono (by decide))) (de_fld (de_var (fun _ => pv 0))) (de_fld (de_var (fun _ => pv 1))) (nomark _)))))))))) (fun δ Qd l h => ?_)
  obtain ⟨D, fs, gs, b, rfl, hc, hq⟩ := h
  rcases hc with ⟨hk, rfl⟩ | ⟨rfl, e, hf, rfl⟩
  · exact ⟨(FAR D hk).1, false, (FAR D hk).2, false, rfl, hq⟩
  obtain ⟨a0, b0, ha0, hb0, g0⟩ := hf "front" (by simp)
  obtain ⟨a1, b1, ha1, hb1, g1⟩ := hf "stays" (by simp)
  obtain ⟨a2, b2, ha2, hb2, g2⟩ := hf "back" (by simp)
  obtain ⟨a3, b3, ha3, hb3, g3⟩ := hf "ends" (by simp)
  simp only [List.all_cons, List.all_nil, Bool.and_true] at hq
  refine ⟨C_Shape.ins, true, kit_self _, true, rfl, ?_⟩
  refine ⟨C_Shape.cl, C_Shape.na _ (by simp), a0, ha0, C_Shape.cl, C_Shape.na _ (by simp), b0, hb0, dEqH_of g0 ?_⟩
  refine ⟨e "front", rfl, ?_⟩
  cases he0 : e "front"
  · rw [he0, Bool.false_and] at hq
    exact hq
  rw [he0, Bool.true_and] at hq
  refine ⟨C_Shape.cl, C_Shape.na _ (by simp), a1, ha1, C_Shape.cl, C_Shape.na _ (by simp), b1, hb1, dEqH_of g1 ?_⟩
  refine ⟨e "stays", rfl, ?_⟩
  cases he1 : e "stays"
  · rw [he1, Bool.false_and] at hq
    exact hq
  rw [he1, Bool.true_and] at hq
  refine ⟨C_Shape.cl, C_Shape.na _ (by simp), a2, ha2, C_Shape.cl, C_Shape.na _ (by simp), b2, hb2, dEqH_of g2 ?_⟩
  refine ⟨e "back", rfl, ?_⟩
  cases he2 : e "back"
  · rw [he2, Bool.false_and] at hq
    exact hq
  rw [he2, Bool.true_and] at hq
  refine ⟨C_Shape.cl, C_Shape.na _ (by simp), a3, ha3, C_Shape.cl, C_Shape.na _ (by simp), b3, hb3, dEqH_of g3 ?_⟩
  exact hq
end
structure OC_Answer (K : PySem.W.Frag) (mg : Str → Option Value) where
  C : Addr
  f : Addr
  fd : FuncData
  F : FunD K "__init__" "Answer.__init__" (defArgs s_Answer_init) (defBody s_Answer_init) (defScope s_Answer_init) [] [] f fd
  m : mg "Answer" = some (.ref C)
  M : Mk K C f
  cl : Cls K C
  na : ∀ f, f ∈ [("numbers" : Str)] → NoAttr K C f
  v0 : List Value
  w0 : Vals [] v0
  b0 : L2.Binds K fd ["self", "numbers"] v0
  ins : C8.InsC K C
  fe : Addr
  fde : FuncData
  FE : FunD K "__eq__" "Answer.__eq__" (defArgs s_Answer_eq) (defBody s_Answer_eq) (defScope s_Answer_eq) [] [] fe fde
  ie : PySem.W.findIn K (.ref C) "__eq__" = some (some (.ref fe))
  je : PySem.W.isFn K (.ref fe) = true
  be : L2.Binds K fde ["self", "other"] []
  ne : PySem.W.findIn K (.ref C) "__ne__" = some (some (.builtin "object.__ne__"))
  mo : PySem.W.mroIn K C (.type "object") = some true
def sp_Answer : SpcI := fun δ Q => ∃ d0 : Dt, δ = [.val d0] ∧ Q [("numbers", d0)]
theorem sc_Answer_init : FnScope ["self", "numbers"] ["self", "numbers"] (defScope s_Answer_init) := ⟨rfl, rfl, rfl, by decide +kernel, rfl, by decide +kernel, by decide +kernel⟩
section
variable {P : Program} {w : World} {K : PySem.W.Frag} {mg : Str → Option Value} {base : Heap}
theorem ok_Answer_init (C_Answer : OC_Answer K mg) (T : TB mg) : FnOk P w K mg base CX0 1 C_Answer.f C_Answer.fd ["self", "numbers"] (dspI K C_Answer.C 1 sp_Answer) := by
  refine fn_init (k := 0) C_Answer.F sc_Answer_init (fun cdv A outer s H E hr => (dss_one (ds_fld (fun _ => pv 0) (de_var (fun _ => pv 1))))) (fun δ Qd a l h => ?_)
  obtain ⟨d0, rfl, hq⟩ := h
  refine ⟨C_Answer.cl, C_Answer.na _ (by simp), (by show 0 < 1000; decide), ?_⟩
  rw [show putA ("numbers" : Str) d0 [] = [(("numbers" : Str), d0)] from pA_rfl rfl]
  exact ⟨_, rfl, hq⟩
end
theorem sc_Answer_eq : FnScope ["self", "other"] ["self", "other"] (defScope s_Answer_eq) := ⟨rfl, rfl, rfl, by decide +kernel, rfl, by decide +kernel, by decide +kernel⟩
section
variable {P : Program} {w : World} {K : PySem.W.Frag} {mg : Str → Option Value} {base : Heap}
theorem ok_Answer_eq (C_Answer : OC_Answer K mg) (Kc : Addr → Addr → Prop) (cs : Str → Addr) (FAR : ∀ D, Kc C_Answer.C D → C8.InsC K D ∧ PySem.W.kitOne K (.ref D) (.ref C_Answer.C) = some false) (EQ : ClEqB P w K mg base 0 P0) (T : TB mg) : FnOk P w K mg base CX0 5 C_Answer.fe C_Answer.fde ["self", "other"] (dsp K 2 (sp_eq Kc P0 4 C_Answer.C ["numbers"])) := by
  refine fn_d (k := 4) C_Answer.FE sc_Answer_eq (fun cdv A outer s H E hr => (dss_one (ds_ret (de_and (de_isiC (de_var (fun _ => pv 1)) (fun _ => pe_glob (v := .ref C_Answer.C) (by rfl) C_Answer.m rfl) (fun _ => by rfl) (fun _ => T.isinstance)) (de_one (de_cmpC (cd_eqH (n := 4) (fun _ => EQ) (fun _ => hr.mono (by decide))) (de_fld (de_var (fun _ => pv 0))) (de_fld (de_var (fun _ => pv 1))) (nomark _))))))) (fun δ Qd l h => ?_)
  obtain ⟨D, fs, gs, b, rfl, hc, hq⟩ := h
  rcases hc with ⟨hk, rfl⟩ | ⟨rfl, e, hf, rfl⟩
  · exact ⟨(FAR D hk).1, false, (FAR D hk).2, false, rfl, hq⟩
  obtain ⟨a0, b0, ha0, hb0, g0⟩ := hf "numbers" (by simp)
  simp only [List.all_cons, List.all_nil, Bool.and_true] at hq
  refine ⟨C_Answer.ins, true, kit_self _, true, rfl, ?_⟩
  refine ⟨C_Answer.cl, C_Answer.na _ (by simp), a0, ha0, C_Answer.cl, C_Answer.na _ (by simp), b0, hb0, dEqH_of g0 ?_⟩
  exact hq
end
structure OC_Carries (K : PySem.W.Frag) (mg : Str → Option Value) where
  C : Addr
  f : Addr
  fd : FuncData
  F : FunD K "__init__" "Carries.__init__" (defArgs s_Carries_init) (defBody s_Carries_init) (defScope s_Carries_init) [] [] f fd
  m : mg "Carries" = some (.ref C)
  M : Mk K C f
  cl : Cls K C
  na : ∀ f, f ∈ [("rows" : Str)] → NoAttr K C f
  v0 : List Value
  w0 : Vals [] v0
  b0 : L2.Binds K fd ["self", "rows"] v0
  ins : C8.InsC K C
  fe : Addr
  fde : FuncData
  FE : FunD K "__eq__" "Carries.__eq__" (defArgs s_Carries_eq) (defBody s_Carries_eq) (defScope s_Carries_eq) [] [] fe fde
  ie : PySem.W.findIn K (.ref C) "__eq__" = some (some (.ref fe))
  je : PySem.W.isFn K (.ref fe) = true
  be : L2.Binds K fde ["self", "other"] []
  ne : PySem.W.findIn K (.ref C) "__ne__" = some (some (.builtin "object.__ne__"))
  mo : PySem.W.mroIn K C (.type "object") = some true
def sp_Carries : SpcI := fun δ Q => ∃ d0 : Dt, δ = [.val d0] ∧ Q [("rows", d0)]
theorem sc_Carries_init : FnScope ["self", "rows"] ["self", "rows"] (defScope s_Carries_init) := ⟨rfl, rfl, rfl, by decide +kernel, rfl, by decide +kernel, by decide +kernel⟩
section
variable {P : Program} {w : World} {K : PySem.W.Frag} {mg : Str → Option Value} {base : Heap}
theorem ok_Carries_init (C_Carries : OC_Carries K mg) (T : TB mg) : FnOk P w K mg base CX0 1 C_Carries.f C_Carries.fd ["self", "rows"] (dspI K C_Carries.C 1 sp_Carries) := by
  refine fn_init (k := 0) C_Carries.F sc_Carries_init (fun cdv A outer s H E hr => (dss_one (ds_fld (fun _ => pv 0) (de_var (fun _ => pv 1))))) (fun δ Qd a l h => ?_)
  obtain ⟨d0, rfl, hq⟩ := h
  refine ⟨C_Carries.cl, C_Carries.na _ (by simp), (by show 0 < 1000; decide), ?_⟩
  rw [show putA ("rows" : Str) d0 [] = [(("rows" : Str), d0)] from pA_rfl rfl]
  exact ⟨_, rfl, hq⟩
end
theorem sc_Carries_eq : FnScope ["self", "other"] ["self", "other"] (defScope s_Carries_eq) := ⟨rfl, rfl, rfl, by decide +kernel, rfl, by decide +kernel, by decide +kernel⟩
section
variable {P : Program} {w : World} {K : PySem.W.Frag} {mg : Str → Option Value} {base : Heap}
theorem ok_Carries_eq (C_Carries : OC_Carries K mg) (Kc : Addr → Addr → Prop) (cs : Str → Addr) (FAR : ∀ D, Kc C_Carries.C D → C8.InsC K D ∧ PySem.W.kitOne K (.ref D) (.ref C_Carries.C) = some false) (EQ : ClEqB P w K mg base 0 P0) (T : TB mg) : FnOk P w K mg base CX0 5 C_Carries.fe C_Carries.fde ["self", "other"] (dsp K 2 (sp_eq Kc P0 4 C_Carries.C ["rows"])) := by
  refine fn_d (k := 4) C_Carries.FE sc_Carries_eq (fun cdv A outer s H E hr => (dss_one (ds_ret (de_and (de_isiC (de_var (fun _ => pv 1)) (fun _ => pe_glob (v := .ref C_Carries.C) (by rfl) C_Carries.m rfl) (fun _ => by rfl) (fun _ => T.isinstance)) (de_one (de_cmpC (cd_eqH (n := 4) (fun _ => EQ) (fun _ => hr.mono (by decide))) (de_fld (de_var (fun _ => pv 0))) (de_fld (de_var (fun _ => pv 1))) (nomark _))))))) (fun δ Qd l h => ?_)
  obtain ⟨D, fs, gs, b, rfl, hc, hq⟩ := h
  rcases hc with ⟨hk, rfl⟩ | ⟨rfl, e, hf, rfl⟩
  · exact ⟨(FAR D hk).1, false, (FAR D hk).2, false, rfl, hq⟩
  obtain ⟨a0, b0, ha0, hb0, g0⟩ := hf "rows" (by simp)
  simp only [List.all_cons, List.all_nil, Bool.and_true] at hq
  refine ⟨C_Carries.ins, true, kit_self _, true, rfl, ?_⟩
  refine ⟨C_Carries.cl, C_Carries.na _ (by simp), a0, ha0, C_Carries.cl, C_Carries.na _ (by simp), b0, hb0, dEqH_of g0 ?_⟩
  exact hq
end
structure OC_Look (K : PySem.W.Frag) (mg : Str → Option Value) where
  C : Addr
  f : Addr
  fd : FuncData
  F : FunD K "__init__" "Look.__init__" (defArgs s_Look_init) (defBody s_Look_init) (defScope s_Look_init) [] [] f fd
  m : mg "Look" = some (.ref C)
  M : Mk K C f
  cl : Cls K C
  na : ∀ f, f ∈ [("step" : Str), ("outcomes" : Str)] → NoAttr K C f
  v0 : List Value
  w0 : Vals [] v0
  b0 : L2.Binds K fd ["self", "step", "outcomes"] v0
  ins : C8.InsC K C
  fe : Addr
  fde : FuncData
  FE : FunD K "__eq__" "Look.__eq__" (defArgs s_Look_eq) (defBody s_Look_eq) (defScope s_Look_eq) [] [] fe fde
  ie : PySem.W.findIn K (.ref C) "__eq__" = some (some (.ref fe))
  je : PySem.W.isFn K (.ref fe) = true
  be : L2.Binds K fde ["self", "other"] []
  ne : PySem.W.findIn K (.ref C) "__ne__" = some (some (.builtin "object.__ne__"))
  mo : PySem.W.mroIn K C (.type "object") = some true
def sp_Look : SpcI := fun δ Q => ∃ d0 d1 : Dt, δ = [.val d0, .val d1] ∧ Q [("step", d0), ("outcomes", d1)]
theorem sc_Look_init : FnScope ["self", "step", "outcomes"] ["self", "step", "outcomes"] (defScope s_Look_init) := ⟨rfl, rfl, rfl, by decide +kernel, rfl, by decide +kernel, by decide +kernel⟩
section
variable {P : Program} {w : World} {K : PySem.W.Frag} {mg : Str → Option Value} {base : Heap}
theorem ok_Look_init (C_Look : OC_Look K mg) (T : TB mg) : FnOk P w K mg base CX0 1 C_Look.f C_Look.fd ["self", "step", "outcomes"] (dspI K C_Look.C 2 sp_Look) := by
  refine fn_init (k := 0) C_Look.F sc_Look_init (fun cdv A outer s H E hr => (dss_cons (ds_fld (fun _ => pv 0) (de_var (fun _ => pv 1)))
  (dss_one (ds_fld (fun _ => pv 0) (de_var (fun _ => pv 2)))))) (fun δ Qd a l h => ?_)
  obtain ⟨d0, d1, rfl, hq⟩ := h
  refine ⟨C_Look.cl, C_Look.na _ (by simp), (by show 0 < 1000; decide), ?_⟩
  rw [show putA ("step" : Str) d0 [] = [(("step" : Str), d0)] from pA_rfl rfl]
  refine ⟨C_Look.cl, C_Look.na _ (by simp), (by show 1 < 1000; decide), ?_⟩
  rw [show putA ("outcomes" : Str) d1 [(("step" : Str), d0)] = [(("step" : Str), d0), (("outcomes" : Str), d1)] from pA_rfl rfl]
  exact ⟨_, rfl, hq⟩
end
theorem sc_Look_eq : FnScope ["self", "other"] ["self", "other"] (defScope s_Look_eq) := ⟨rfl, rfl, rfl, by decide +kernel, rfl, by decide +kernel, by decide +kernel⟩
section
variable {P : Program} {w : World} {K : PySem.W.Frag} {mg : Str → Option Value} {base : Heap}
theorem ok_Look_eq (C_Look : OC_Look K mg) (Kc : Addr → Addr → Prop) (cs : Str → Addr) (FAR : ∀ D, Kc C_Look.C D → C8.InsC K D ∧ PySem.W.kitOne K (.ref D) (.ref C_Look.C) = some false) (EQ : ClEqB P w K mg base 0 P0) (T : TB mg) : FnOk P w K mg base CX0 5 C_Look.fe C_Look.fde ["self", "other"] (dsp K 2 (sp_eq Kc P0 4 C_Look.C ["step", "outcomes"])) := by
  refine fn_d (k := 4) C_Look.FE sc_Look_eq (fun cdv A outer s H E hr => (dss_one (ds_ret (de_and (de_isiC (de_var (fun _ => pv 1)) (fun _ => pe_glob (v := .ref C_Look.C) (by rfl) C_Look.m rfl) (fun _ => by rfl) (fun _ => T.isinstance)) (de_and (de_cmpC (cd_eqH (n := 4) (fun _ => EQ) (fun _ => hr.mono (by decide))) (de_fld (de_var (fun _ => pv 0))) (de_fld (de_var (fun _ => pv 1))) (nomark _)) (de_one (de_cmpC (cd_eqH (n := 4) (fun _ => EQ) (fun _ => hr.mono (by decide))) (de_fld (de_var (fun _ => pv 0))) (de_fld (de_var (fun _ => pv 1))) (nomark _)))))))) (fun δ Qd l h => ?_)
  obtain ⟨D, fs, gs, b, rfl, hc, hq⟩ := h
  rcases hc with ⟨hk, rfl⟩ | ⟨rfl, e, hf, rfl⟩
  · exact ⟨(FAR D hk).1, false, (FAR D hk).2, false, rfl, hq⟩
  obtain ⟨a0, b0, ha0, hb0, g0⟩ := hf "step" (by simp)
  obtain ⟨a1, b1, ha1, hb1, g1⟩ := hf "outcomes" (by simp)
  simp only [List.all_cons, List.all_nil, Bool.and_true] at hq
  refine ⟨C_Look.ins, true, kit_self _, true, rfl, ?_⟩
  refine ⟨C_Look.cl, C_Look.na _ (by simp), a0, ha0, C_Look.cl, C_Look.na _ (by simp), b0, hb0, dEqH_of g0 ?_⟩
  refine ⟨e "step", rfl, ?_⟩
  cases he0 : e "step"
  · rw [he0, Bool.false_and] at hq
    exact hq
  rw [he0, Bool.true_and] at hq
  refine ⟨C_Look.cl, C_Look.na _ (by simp), a1, ha1, C_Look.cl, C_Look.na _ (by simp), b1, hb1, dEqH_of g1 ?_⟩
  exact hq
end
structure OC_Trail (K : PySem.W.Frag) (mg : Str → Option Value) where
  C : Addr
  f : Addr
  fd : FuncData
  F : FunD K "__init__" "Trail.__init__" (defArgs s_Trail_init) (defBody s_Trail_init) (defScope s_Trail_init) [] [] f fd
  m : mg "Trail" = some (.ref C)
  M : Mk K C f
  cl : Cls K C
  na : ∀ f, f ∈ [("root" : Str), ("turns" : Str)] → NoAttr K C f
  v0 : List Value
  w0 : Vals [] v0
  b0 : L2.Binds K fd ["self", "root", "turns"] v0
  ins : C8.InsC K C
  fe : Addr
  fde : FuncData
  FE : FunD K "__eq__" "Trail.__eq__" (defArgs s_Trail_eq) (defBody s_Trail_eq) (defScope s_Trail_eq) [] [] fe fde
  ie : PySem.W.findIn K (.ref C) "__eq__" = some (some (.ref fe))
  je : PySem.W.isFn K (.ref fe) = true
  be : L2.Binds K fde ["self", "other"] []
  ne : PySem.W.findIn K (.ref C) "__ne__" = some (some (.builtin "object.__ne__"))
  mo : PySem.W.mroIn K C (.type "object") = some true
def sp_Trail : SpcI := fun δ Q => ∃ d0 d1 : Dt, δ = [.val d0, .val d1] ∧ Q [("root", d0), ("turns", d1)]
theorem sc_Trail_init : FnScope ["self", "root", "turns"] ["self", "root", "turns"] (defScope s_Trail_init) := ⟨rfl, rfl, rfl, by decide +kernel, rfl, by decide +kernel, by decide +kernel⟩
section
variable {P : Program} {w : World} {K : PySem.W.Frag} {mg : Str → Option Value} {base : Heap}
theorem ok_Trail_init (C_Trail : OC_Trail K mg) (T : TB mg) : FnOk P w K mg base CX0 1 C_Trail.f C_Trail.fd ["self", "root", "turns"] (dspI K C_Trail.C 2 sp_Trail) := by
  refine fn_init (k := 0) C_Trail.F sc_Trail_init (fun cdv A outer s H E hr => (dss_cons (ds_fld (fun _ => pv 0) (de_var (fun _ => pv 1)))
  (dss_one (ds_fld (fun _ => pv 0) (de_var (fun _ => pv 2)))))) (fun δ Qd a l h => ?_)
  obtain ⟨d0, d1, rfl, hq⟩ := h
  refine ⟨C_Trail.cl, C_Trail.na _ (by simp), (by show 0 < 1000; decide), ?_⟩
  rw [show putA ("root" : Str) d0 [] = [(("root" : Str), d0)] from pA_rfl rfl]
  refine ⟨C_Trail.cl, C_Trail.na _ (by simp), (by show 1 < 1000; decide), ?_⟩
  rw [show putA ("turns" : Str) d1 [(("root" : Str), d0)] = [(("root" : Str), d0), (("turns" : Str), d1)] from pA_rfl rfl]
  exact ⟨_, rfl, hq⟩
end
theorem sc_Trail_eq : FnScope ["self", "other"] ["self", "other"] (defScope s_Trail_eq) := ⟨rfl, rfl, rfl, by decide +kernel, rfl, by decide +kernel, by decide +kernel⟩
section
variable {P : Program} {w : World} {K : PySem.W.Frag} {mg : Str → Option Value} {base : Heap}
theorem ok_Trail_eq (C_Trail : OC_Trail K mg) (Kc : Addr → Addr → Prop) (cs : Str → Addr) (FAR : ∀ D, Kc C_Trail.C D → C8.InsC K D ∧ PySem.W.kitOne K (.ref D) (.ref C_Trail.C) = some false) (EQ : ClEqB P w K mg base 0 P0) (T : TB mg) : FnOk P w K mg base CX0 5 C_Trail.fe C_Trail.fde ["self", "other"] (dsp K 2 (sp_eq Kc P0 4 C_Trail.C ["root", "turns"])) := by
  refine fn_d (k := 4) C_Trail.FE sc_Trail_eq (fun cdv A outer s H E hr => (dss_one (ds_ret (de_and (de_isiC (de_var (fun _ => pv 1)) (fun _ => pe_glob (v := .ref C_Trail.C) (by rfl) C_Trail.m rfl) (fun _ => by rfl) (fun _ => T.isinstance)) (de_and (de_cmpC (cd_eqH (n := 4) (fun _ => EQ) (fun _ => hr.mono (by decide))) (de_fld (de_var (fun _ => pv 0))) (de_fld (de_var (fun _ => pv 1))) (nomark _)) (de_one (de_cmpC (cd_eqH (n := 4) (fun _ => EQ) (fun _ => hr.mono (by decide))) (de_fld (de_var (fun _ => pv 0))) (de_fld (de_var (fun _ => pv 1))) (nomark _)))))))) (fun δ Qd l h => ?_)
  obtain ⟨D, fs, gs, b, rfl, hc, hq⟩ := h
  rcases hc with ⟨hk, rfl⟩ | ⟨rfl, e, hf, rfl⟩
  · exact ⟨(FAR D hk).1, false, (FAR D hk).2, false, rfl, hq⟩
  obtain ⟨a0, b0, ha0, hb0, g0⟩ := hf "root" (by simp)
  obtain ⟨a1, b1, ha1, hb1, g1⟩ := hf "turns" (by simp)
  simp only [List.all_cons, List.all_nil, Bool.and_true] at hq
  refine ⟨C_Trail.ins, true, kit_self _, true, rfl, ?_⟩
  refine ⟨C_Trail.cl, C_Trail.na _ (by simp), a0, ha0, C_Trail.cl, C_Trail.na _ (by simp), b0, hb0, dEqH_of g0 ?_⟩
  refine ⟨e "root", rfl, ?_⟩
  cases he0 : e "root"
  · rw [he0, Bool.false_and] at hq
    exact hq
  rw [he0, Bool.true_and] at hq
  refine ⟨C_Trail.cl, C_Trail.na _ (by simp), a1, ha1, C_Trail.cl, C_Trail.na _ (by simp), b1, hb1, dEqH_of g1 ?_⟩
  exact hq
end
structure OC_Case (K : PySem.W.Frag) (mg : Str → Option Value) where
  C : Addr
  f : Addr
  fd : FuncData
  F : FunD K "__init__" "Case.__init__" (defArgs s_Case_init) (defBody s_Case_init) (defScope s_Case_init) [] [] f fd
  m : mg "Case" = some (.ref C)
  M : Mk K C f
  cl : Cls K C
  na : ∀ f, f ∈ [("rows" : Str), ("sets" : Str), ("full" : Str)] → NoAttr K C f
  v0 : List Value
  w0 : Vals [] v0
  b0 : L2.Binds K fd ["self", "rows", "sets", "full"] v0
  ins : C8.InsC K C
  fe : Addr
  fde : FuncData
  FE : FunD K "__eq__" "Case.__eq__" (defArgs s_Case_eq) (defBody s_Case_eq) (defScope s_Case_eq) [] [] fe fde
  ie : PySem.W.findIn K (.ref C) "__eq__" = some (some (.ref fe))
  je : PySem.W.isFn K (.ref fe) = true
  be : L2.Binds K fde ["self", "other"] []
  ne : PySem.W.findIn K (.ref C) "__ne__" = some (some (.builtin "object.__ne__"))
  mo : PySem.W.mroIn K C (.type "object") = some true
def sp_Case : SpcI := fun δ Q => ∃ d0 d1 d2 : Dt, δ = [.val d0, .val d1, .val d2] ∧ Q [("rows", d0), ("sets", d1), ("full", d2)]
theorem sc_Case_init : FnScope ["self", "rows", "sets", "full"] ["self", "rows", "sets", "full"] (defScope s_Case_init) := ⟨rfl, rfl, rfl, by decide +kernel, rfl, by decide +kernel, by decide +kernel⟩
section
variable {P : Program} {w : World} {K : PySem.W.Frag} {mg : Str → Option Value} {base : Heap}
theorem ok_Case_init (C_Case : OC_Case K mg) (T : TB mg) : FnOk P w K mg base CX0 1 C_Case.f C_Case.fd ["self", "rows", "sets", "full"] (dspI K C_Case.C 3 sp_Case) := by
  refine fn_init (k := 0) C_Case.F sc_Case_init (fun cdv A outer s H E hr => (dss_cons (ds_fld (fun _ => pv 0) (de_var (fun _ => pv 1)))
  (dss_cons (ds_fld (fun _ => pv 0) (de_var (fun _ => pv 2)))
  (dss_one (ds_fld (fun _ => pv 0) (de_var (fun _ => pv 3))))))) (fun δ Qd a l h => ?_)
  obtain ⟨d0, d1, d2, rfl, hq⟩ := h
  refine ⟨C_Case.cl, C_Case.na _ (by simp), (by show 0 < 1000; decide), ?_⟩
  rw [show putA ("rows" : Str) d0 [] = [(("rows" : Str), d0)] from pA_rfl rfl]
  refine ⟨C_Case.cl, C_Case.na _ (by simp), (by show 1 < 1000; decide), ?_⟩
  rw [show putA ("sets" : Str) d1 [(("rows" : Str), d0)] = [(("rows" : Str), d0), (("sets" : Str), d1)] from pA_rfl rfl]
  refine ⟨C_Case.cl, C_Case.na _ (by simp), (by show 2 < 1000; decide), ?_⟩
  rw [show putA ("full" : Str) d2 [(("rows" : Str), d0), (("sets" : Str), d1)] = [(("rows" : Str), d0), (("sets" : Str), d1), (("full" : Str), d2)] from pA_rfl rfl]
  exact ⟨_, rfl, hq⟩
end
theorem sc_Case_eq : FnScope ["self", "other"] ["self", "other"] (defScope s_Case_eq) := ⟨rfl, rfl, rfl, by decide +kernel, rfl, by decide +kernel, by decide +kernel⟩
section
variable {P : Program} {w : World} {K : PySem.W.Frag} {mg : Str → Option Value} {base : Heap}
theorem ok_Case_eq (C_Case : OC_Case K mg) (Kc : Addr → Addr → Prop) (cs : Str → Addr) (FAR : ∀ D, Kc C_Case.C D → C8.InsC K D ∧ PySem.W.kitOne K (.ref D) (.ref C_Case.C) = some false) (EQ : ClEqB P w K mg base 0 P0) (T : TB mg) : FnOk P w K mg base CX0 5 C_Case.fe C_Case.fde ["self", "other"] (dsp K 2 (sp_eq Kc P0 4 C_Case.C ["rows", "sets", "full"])) := by
  refine fn_d (k := 4) C_Case.FE sc_Case_eq (fun cdv A outer s H E hr => (dss_one (ds_ret (de_and (de_isiC (de_var (fun _ => pv 1)) (fun _ => pe_glob (v := .ref C_Case.C) (by rfl) C_Case.m rfl) (fun _ => by rfl) (fun _ => T.isinstance)) (de_and (de_cmpC (cd_eqH (n := 4) (fun _ => EQ) (fun _ => hr.mono (by decide))) (de_fld (de_var (fun _ => pv 0))) (de_fld (de_var (fun _ => pv 1))) (nomark _)) (de_and (de_cmpC (cd_eqH (n := 4) (fun _ => EQ) (fun _ => hr.mono (by decide))) (de_fld (de_var (fun _ => pv 0))) (de_fld (de_var (fun _ => pv 1))) (nomark _)) (de_one (de_cmpC (cd_eqH (n := 4) (fun _ => EQ) (fun _ => hr.mono (by decide))) (de_fld (de_var (fun _ => pv 0))) (de_fld (de_var (fun _ => pv 1))) (nomark _))))))))) (fun δ Qd l h => ?_)
  obtain ⟨D, fs, gs, b, rfl, hc, hq⟩ := h
  rcases hc with ⟨hk, rfl⟩ | ⟨rfl, e, hf, rfl⟩
  · exact ⟨(FAR D hk).1, false, (FAR D hk).2, false, rfl, hq⟩
  obtain ⟨a0, b0, ha0, hb0, g0⟩ := hf "rows" (by simp)
  obtain ⟨a1, b1, ha1, hb1, g1⟩ := hf "sets" (by simp)
  obtain ⟨a2, b2, ha2, hb2, g2⟩ := hf "full" (by simp)
  simp only [List.all_cons, List.all_nil, Bool.and_true] at hq
  refine ⟨C_Case.ins, true, kit_self _, true, rfl, ?_⟩
  refine ⟨C_Case.cl, C_Case.na _ (by simp), a0, ha0, C_Case.cl, C_Case.na _ (by simp), b0, hb0, dEqH_of g0 ?_⟩
  refine ⟨e "rows", rfl, ?_⟩
  cases he0 : e "rows"
  · rw [he0, Bool.false_and] at hq
    exact hq
  rw [he0, Bool.true_and] at hq
  refine ⟨C_Case.cl, C_Case.na _ (by simp), a1, ha1, C_Case.cl, C_Case.na _ (by simp), b1, hb1, dEqH_of g1 ?_⟩
  refine ⟨e "sets", rfl, ?_⟩
  cases he1 : e "sets"
  · rw [he1, Bool.false_and] at hq
    exact hq
  rw [he1, Bool.true_and] at hq
  refine ⟨C_Case.cl, C_Case.na _ (by simp), a2, ha2, C_Case.cl, C_Case.na _ (by simp), b2, hb2, dEqH_of g2 ?_⟩
  exact hq
end
structure OC_Run (K : PySem.W.Frag) (mg : Str → Option Value) where
  C : Addr
  f : Addr
  fd : FuncData
  F : FunD K "__init__" "Run.__init__" (defArgs s_Run_init) (defBody s_Run_init) (defScope s_Run_init) [] [] f fd
  m : mg "Run" = some (.ref C)
  M : Mk K C f
  cl : Cls K C
  na : ∀ f, f ∈ [("turns" : Str), ("used" : Str), ("ends" : Str), ("stop" : Str)] → NoAttr K C f
  v0 : List Value
  w0 : Vals [] v0
  b0 : L2.Binds K fd ["self", "turns", "used", "ends", "stop"] v0
  ins : C8.InsC K C
  fe : Addr
  fde : FuncData
  FE : FunD K "__eq__" "Run.__eq__" (defArgs s_Run_eq) (defBody s_Run_eq) (defScope s_Run_eq) [] [] fe fde
  ie : PySem.W.findIn K (.ref C) "__eq__" = some (some (.ref fe))
  je : PySem.W.isFn K (.ref fe) = true
  be : L2.Binds K fde ["self", "other"] []
  ne : PySem.W.findIn K (.ref C) "__ne__" = some (some (.builtin "object.__ne__"))
  mo : PySem.W.mroIn K C (.type "object") = some true
def sp_Run : SpcI := fun δ Q => ∃ d0 d1 d2 d3 : Dt, δ = [.val d0, .val d1, .val d2, .val d3] ∧ Q [("turns", d0), ("used", d1), ("ends", d2), ("stop", d3)]
theorem sc_Run_init : FnScope ["self", "turns", "used", "ends", "stop"] ["self", "turns", "used", "ends", "stop"] (defScope s_Run_init) := ⟨rfl, rfl, rfl, by decide +kernel, rfl, by decide +kernel, by decide +kernel⟩
section
variable {P : Program} {w : World} {K : PySem.W.Frag} {mg : Str → Option Value} {base : Heap}
theorem ok_Run_init (C_Run : OC_Run K mg) (T : TB mg) : FnOk P w K mg base CX0 1 C_Run.f C_Run.fd ["self", "turns", "used", "ends", "stop"] (dspI K C_Run.C 4 sp_Run) := by
  refine fn_init (k := 0) C_Run.F sc_Run_init (fun cdv A outer s H E hr => (dss_cons (ds_fld (fun _ => pv 0) (de_var (fun _ => pv 1)))
  (dss_cons (ds_fld (fun _ => pv 0) (de_var (fun _ => pv 2)))
  (dss_cons (ds_fld (fun _ => pv 0) (de_var (fun _ => pv 3)))
  (dss_one (ds_fld (fun _ => pv 0) (de_var (fun _ => pv 4)))))))) (fun δ Qd a l h => ?_)
  obtain ⟨d0, d1, d2, d3, rfl, hq⟩ := h
  refine ⟨C_Run.cl, C_Run.na _ (by simp), (by show 0 < 1000; decide), ?_⟩
  rw [show putA ("turns" : Str) d0 [] = [(("turns" : Str), d0)] from pA_rfl rfl]
  refine ⟨C_Run.cl, C_Run.na _ (by simp), (by show 1 < 1000; decide), ?_⟩
  rw [show putA ("used" : Str) d1 [(("turns" : Str), d0)] = [(("turns" : Str), d0), (("used" : Str), d1)] from pA_rfl rfl]
  refine ⟨C_Run.cl, C_Run.na _ (by simp), (by show 2 < 1000; decide), ?_⟩
  rw [show putA ("ends" : Str) d2 [(("turns" : Str), d0), (("used" : Str), d1)] = [(("turns" : Str), d0), (("used" : Str), d1), (("ends" : Str), d2)] from pA_rfl rfl]
  refine ⟨C_Run.cl, C_Run.na _ (by simp), (by show 3 < 1000; decide), ?_⟩
  rw [show putA ("stop" : Str) d3 [(("turns" : Str), d0), (("used" : Str), d1), (("ends" : Str), d2)] = [(("turns" : Str), d0), (("used" : Str), d1), (("ends" : Str), d2), (("stop" : Str), d3)] from pA_rfl rfl]
  exact ⟨_, rfl, hq⟩
end
theorem sc_Run_eq : FnScope ["self", "other"] ["self", "other"] (defScope s_Run_eq) := ⟨rfl, rfl, rfl, by decide +kernel, rfl, by decide +kernel, by decide +kernel⟩
section
variable {P : Program} {w : World} {K : PySem.W.Frag} {mg : Str → Option Value} {base : Heap}
theorem ok_Run_eq (C_Run : OC_Run K mg) (Kc : Addr → Addr → Prop) (cs : Str → Addr) (FAR : ∀ D, Kc C_Run.C D → C8.InsC K D ∧ PySem.W.kitOne K (.ref D) (.ref C_Run.C) = some false) (EQ : ClEqB P w K mg base 0 P0) (T : TB mg) : FnOk P w K mg base CX0 5 C_Run.fe C_Run.fde ["self", "other"] (dsp K 2 (sp_eq Kc P0 4 C_Run.C ["turns", "used", "ends", "stop"])) := by
  refine fn_d (k := 4) C_Run.FE sc_Run_eq (fun cdv A outer s H E hr => (dss_one (ds_ret (de_and (de_isiC (de_var (fun _ => pv 1)) (fun _ => pe_glob (v := .ref C_Run.C) (by rfl) C_Run.m rfl) (fun _ => by rfl) (fun _ => T.isinstance)) (de_and (de_cmpC (cd_eqH (n := 4) (fun _ => EQ) (fun _ => hr.mono (by decide))) (de_fld (de_var (fun _ => pv 0))) (de_fld (de_var (fun _ => pv 1))) (nomark _)) (de_and (de_cmpC (cd_eqH (n := 4) (fun _ => EQ) (fun _ => hr.mono (by decide))) (de_fld (de_var (fun _ => pv 0))) (de_fld (de_var (fun _ => pv 1))) (nomark _)) (de_and (de_cmpC (cd_eqH (n := 4) (fun _ => EQ) (fun _ => hr.mono (by decide))) (de_fld (de_var (fun _ => pv 0))) (de_fld (de_var (fun _ => pv 1))) (nomark _)) (de_one (de_cmpC (cd_eqH (n := 4) (fun _ => EQ) (fun _ => hr.mono (by decide))) (de_fld (de_var (fun _ => pv 0))) (de_fld (de_var (fun _ => pv 1))) (nomark _)))))))))) (fun δ Qd l h => ?_)
  obtain ⟨D, fs, gs, b, rfl, hc, hq⟩ := h
  rcases hc with ⟨hk, rfl⟩ | ⟨rfl, e, hf, rfl⟩
  · exact ⟨(FAR D hk).1, false, (FAR D hk).2, false, rfl, hq⟩
  obtain ⟨a0, b0, ha0, hb0, g0⟩ := hf "turns" (by simp)
  obtain ⟨a1, b1, ha1, hb1, g1⟩ := hf "used" (by simp)
  obtain ⟨a2, b2, ha2, hb2, g2⟩ := hf "ends" (by simp)
  obtain ⟨a3, b3, ha3, hb3, g3⟩ := hf "stop" (by simp)
  simp only [List.all_cons, List.all_nil, Bool.and_true] at hq
  refine ⟨C_Run.ins, true, kit_self _, true, rfl, ?_⟩
  refine ⟨C_Run.cl, C_Run.na _ (by simp), a0, ha0, C_Run.cl, C_Run.na _ (by simp), b0, hb0, dEqH_of g0 ?_⟩
  refine ⟨e "turns", rfl, ?_⟩
  cases he0 : e "turns"
  · rw [he0, Bool.false_and] at hq
    exact hq
  rw [he0, Bool.true_and] at hq
  refine ⟨C_Run.cl, C_Run.na _ (by simp), a1, ha1, C_Run.cl, C_Run.na _ (by simp), b1, hb1, dEqH_of g1 ?_⟩
  refine ⟨e "used", rfl, ?_⟩
  cases he1 : e "used"
  · rw [he1, Bool.false_and] at hq
    exact hq
  rw [he1, Bool.true_and] at hq
  refine ⟨C_Run.cl, C_Run.na _ (by simp), a2, ha2, C_Run.cl, C_Run.na _ (by simp), b2, hb2, dEqH_of g2 ?_⟩
  refine ⟨e "ends", rfl, ?_⟩
  cases he2 : e "ends"
  · rw [he2, Bool.false_and] at hq
    exact hq
  rw [he2, Bool.true_and] at hq
  refine ⟨C_Run.cl, C_Run.na _ (by simp), a3, ha3, C_Run.cl, C_Run.na _ (by simp), b3, hb3, dEqH_of g3 ?_⟩
  exact hq
end
structure OC_Way (K : PySem.W.Frag) (mg : Str → Option Value) where
  C : Addr
  f : Addr
  fd : FuncData
  F : FunD K "__init__" "Way.__init__" (defArgs s_Way_init) (defBody s_Way_init) (defScope s_Way_init) [] [] f fd
  m : mg "Way" = some (.ref C)
  M : Mk K C f
  cl : Cls K C
  na : ∀ f, f ∈ [("turns" : Str), ("reads" : Str), ("sayings" : Str), ("ends" : Str), ("stop" : Str)] → NoAttr K C f
  v0 : List Value
  w0 : Vals [] v0
  b0 : L2.Binds K fd ["self", "turns", "reads", "sayings", "ends", "stop"] v0
  ins : C8.InsC K C
  fe : Addr
  fde : FuncData
  FE : FunD K "__eq__" "Way.__eq__" (defArgs s_Way_eq) (defBody s_Way_eq) (defScope s_Way_eq) [] [] fe fde
  ie : PySem.W.findIn K (.ref C) "__eq__" = some (some (.ref fe))
  je : PySem.W.isFn K (.ref fe) = true
  be : L2.Binds K fde ["self", "other"] []
  ne : PySem.W.findIn K (.ref C) "__ne__" = some (some (.builtin "object.__ne__"))
  mo : PySem.W.mroIn K C (.type "object") = some true
def sp_Way : SpcI := fun δ Q => ∃ d0 d1 d2 d3 d4 : Dt, δ = [.val d0, .val d1, .val d2, .val d3, .val d4] ∧ Q [("turns", d0), ("reads", d1), ("sayings", d2), ("ends", d3), ("stop", d4)]
theorem sc_Way_init : FnScope ["self", "turns", "reads", "sayings", "ends", "stop"] ["self", "turns", "reads", "sayings", "ends", "stop"] (defScope s_Way_init) := ⟨rfl, rfl, rfl, by decide +kernel, rfl, by decide +kernel, by decide +kernel⟩
section
variable {P : Program} {w : World} {K : PySem.W.Frag} {mg : Str → Option Value} {base : Heap}
theorem ok_Way_init (C_Way : OC_Way K mg) (T : TB mg) : FnOk P w K mg base CX0 1 C_Way.f C_Way.fd ["self", "turns", "reads", "sayings", "ends", "stop"] (dspI K C_Way.C 5 sp_Way) := by
  refine fn_init (k := 0) C_Way.F sc_Way_init (fun cdv A outer s H E hr => (dss_cons (ds_fld (fun _ => pv 0) (de_var (fun _ => pv 1)))
  (dss_cons (ds_fld (fun _ => pv 0) (de_var (fun _ => pv 2)))
  (dss_cons (ds_fld (fun _ => pv 0) (de_var (fun _ => pv 3)))
  (dss_cons (ds_fld (fun _ => pv 0) (de_var (fun _ => pv 4)))
  (dss_one (ds_fld (fun _ => pv 0) (de_var (fun _ => pv 5))))))))) (fun δ Qd a l h => ?_)
  obtain ⟨d0, d1, d2, d3, d4, rfl, hq⟩ := h
  refine ⟨C_Way.cl, C_Way.na _ (by simp), (by show 0 < 1000; decide), ?_⟩
  rw [show putA ("turns" : Str) d0 [] = [(("turns" : Str), d0)] from pA_rfl rfl]
  refine ⟨C_Way.cl, C_Way.na _ (by simp), (by show 1 < 1000; decide), ?_⟩
  rw [show putA ("reads" : Str) d1 [(("turns" : Str), d0)] = [(("turns" : Str), d0), (("reads" : Str), d1)] from pA_rfl rfl]
  refine ⟨C_Way.cl, C_Way.na _ (by simp), (by show 2 < 1000; decide), ?_⟩
  rw [show putA ("sayings" : Str) d2 [(("turns" : Str), d0), (("reads" : Str), d1)] = [(("turns" : Str), d0), (("reads" : Str), d1), (("sayings" : Str), d2)] from pA_rfl rfl]
  refine ⟨C_Way.cl, C_Way.na _ (by simp), (by show 3 < 1000; decide), ?_⟩
  rw [show putA ("ends" : Str) d3 [(("turns" : Str), d0), (("reads" : Str), d1), (("sayings" : Str), d2)] = [(("turns" : Str), d0), (("reads" : Str), d1), (("sayings" : Str), d2), (("ends" : Str), d3)] from pA_rfl rfl]
  refine ⟨C_Way.cl, C_Way.na _ (by simp), (by show 4 < 1000; decide), ?_⟩
  rw [show putA ("stop" : Str) d4 [(("turns" : Str), d0), (("reads" : Str), d1), (("sayings" : Str), d2), (("ends" : Str), d3)] = [(("turns" : Str), d0), (("reads" : Str), d1), (("sayings" : Str), d2), (("ends" : Str), d3), (("stop" : Str), d4)] from pA_rfl rfl]
  exact ⟨_, rfl, hq⟩
end
theorem sc_Way_eq : FnScope ["self", "other"] ["self", "other"] (defScope s_Way_eq) := ⟨rfl, rfl, rfl, by decide +kernel, rfl, by decide +kernel, by decide +kernel⟩
section
variable {P : Program} {w : World} {K : PySem.W.Frag} {mg : Str → Option Value} {base : Heap}
theorem ok_Way_eq (C_Way : OC_Way K mg) (Kc : Addr → Addr → Prop) (cs : Str → Addr) (FAR : ∀ D, Kc C_Way.C D → C8.InsC K D ∧ PySem.W.kitOne K (.ref D) (.ref C_Way.C) = some false) (EQ : ClEqB P w K mg base 0 P0) (T : TB mg) : FnOk P w K mg base CX0 5 C_Way.fe C_Way.fde ["self", "other"] (dsp K 2 (sp_eq Kc P0 4 C_Way.C ["turns", "reads", "sayings", "ends", "stop"])) := by
  refine fn_d (k := 4) C_Way.FE sc_Way_eq (fun cdv A outer s H E hr => (dss_one (ds_ret (de_and (de_isiC (de_var (fun _ => pv 1)) (fun _ => pe_glob (v := .ref C_Way.C) (by rfl) C_Way.m rfl) (fun _ => by rfl) (fun _ => T.isinstance)) (de_and (de_cmpC (cd_eqH (n := 4) (fun _ => EQ) (fun _ => hr.mono (by decide))) (de_fld (de_var (fun _ => pv 0))) (de_fld (de_var (fun _ => pv 1))) (nomark _)) (de_and (de_cmpC (cd_eqH (n := 4) (fun _ => EQ) (fun _ => hr.mono (by decide))) (de_fld (de_var (fun _ => pv 0))) (de_fld (de_var (fun _ => pv 1))) (nomark _)) (de_and (de_cmpC (cd_eqH (n := 4) (fun _ => EQ) (fun _ => hr.mono (by decide))) (de_fld (de_var (fun _ => pv 0))) (de_fld (de_var (fun _ => pv 1))) (nomark _)) (de_and (de_cmpC (cd_eqH (n := 4) (fun _ => EQ) (fun _ => hr.mono (by decide))) (de_fld (de_var (fun _ => pv 0))) (de_fld (de_var (fun _ => pv 1))) (nomark _)) (de_one (de_cmpC (cd_eqH (n := 4) (fun _ => EQ) (fun _ => hr.mono (by decide))) (de_fld (de_var (fun _ => pv 0))) (de_fld (de_var (fun _ => pv 1))) (nomark _))))))))))) (fun δ Qd l h => ?_)
  obtain ⟨D, fs, gs, b, rfl, hc, hq⟩ := h
  rcases hc with ⟨hk, rfl⟩ | ⟨rfl, e, hf, rfl⟩
  · exact ⟨(FAR D hk).1, false, (FAR D hk).2, false, rfl, hq⟩
  obtain ⟨a0, b0, ha0, hb0, g0⟩ := hf "turns" (by simp)
  obtain ⟨a1, b1, ha1, hb1, g1⟩ := hf "reads" (by simp)
  obtain ⟨a2, b2, ha2, hb2, g2⟩ := hf "sayings" (by simp)
  obtain ⟨a3, b3, ha3, hb3, g3⟩ := hf "ends" (by simp)
  obtain ⟨a4, b4, ha4, hb4, g4⟩ := hf "stop" (by simp)
  simp only [List.all_cons, List.all_nil, Bool.and_true] at hq
  refine ⟨C_Way.ins, true, kit_self _, true, rfl, ?_⟩
  refine ⟨C_Way.cl, C_Way.na _ (by simp), a0, ha0, C_Way.cl, C_Way.na _ (by simp), b0, hb0, dEqH_of g0 ?_⟩
  refine ⟨e "turns", rfl, ?_⟩
  cases he0 : e "turns"
  · rw [he0, Bool.false_and] at hq
    exact hq
  rw [he0, Bool.true_and] at hq
  refine ⟨C_Way.cl, C_Way.na _ (by simp), a1, ha1, C_Way.cl, C_Way.na _ (by simp), b1, hb1, dEqH_of g1 ?_⟩
  refine ⟨e "reads", rfl, ?_⟩
  cases he1 : e "reads"
  · rw [he1, Bool.false_and] at hq
    exact hq
  rw [he1, Bool.true_and] at hq
  refine ⟨C_Way.cl, C_Way.na _ (by simp), a2, ha2, C_Way.cl, C_Way.na _ (by simp), b2, hb2, dEqH_of g2 ?_⟩
  refine ⟨e "sayings", rfl, ?_⟩
  cases he2 : e "sayings"
  · rw [he2, Bool.false_and] at hq
    exact hq
  rw [he2, Bool.true_and] at hq
  refine ⟨C_Way.cl, C_Way.na _ (by simp), a3, ha3, C_Way.cl, C_Way.na _ (by simp), b3, hb3, dEqH_of g3 ?_⟩
  refine ⟨e "ends", rfl, ?_⟩
  cases he3 : e "ends"
  · rw [he3, Bool.false_and] at hq
    exact hq
  rw [he3, Bool.true_and] at hq
  refine ⟨C_Way.cl, C_Way.na _ (by simp), a4, ha4, C_Way.cl, C_Way.na _ (by simp), b4, hb4, dEqH_of g4 ?_⟩
  exact hq
end
structure OC_Never (K : PySem.W.Frag) (mg : Str → Option Value) where
  C : Addr
  f : Addr
  fd : FuncData
  F : FunD K "__init__" "Never.__init__" (defArgs s_Never_init) (defBody s_Never_init) (defScope s_Never_init) [] [] f fd
  m : mg "Never" = some (.ref C)
  M : Mk K C f
  cl : Cls K C
  na : ∀ f, f ∈ [("papers" : Str)] → NoAttr K C f
  v0 : List Value
  w0 : Vals [] v0
  b0 : L2.Binds K fd ["self", "papers"] v0
  ins : C8.InsC K C
  fe : Addr
  fde : FuncData
  FE : FunD K "__eq__" "Never.__eq__" (defArgs s_Never_eq) (defBody s_Never_eq) (defScope s_Never_eq) [] [] fe fde
  ie : PySem.W.findIn K (.ref C) "__eq__" = some (some (.ref fe))
  je : PySem.W.isFn K (.ref fe) = true
  be : L2.Binds K fde ["self", "other"] []
  ne : PySem.W.findIn K (.ref C) "__ne__" = some (some (.builtin "object.__ne__"))
  mo : PySem.W.mroIn K C (.type "object") = some true
def sp_Never : SpcI := fun δ Q => ∃ d0 : Dt, δ = [.val d0] ∧ Q [("papers", d0)]
theorem sc_Never_init : FnScope ["self", "papers"] ["self", "papers"] (defScope s_Never_init) := ⟨rfl, rfl, rfl, by decide +kernel, rfl, by decide +kernel, by decide +kernel⟩
section
variable {P : Program} {w : World} {K : PySem.W.Frag} {mg : Str → Option Value} {base : Heap}
theorem ok_Never_init (C_Never : OC_Never K mg) (T : TB mg) : FnOk P w K mg base CX0 1 C_Never.f C_Never.fd ["self", "papers"] (dspI K C_Never.C 1 sp_Never) := by
  refine fn_init (k := 0) C_Never.F sc_Never_init (fun cdv A outer s H E hr => (dss_one (ds_fld (fun _ => pv 0) (de_var (fun _ => pv 1))))) (fun δ Qd a l h => ?_)
  obtain ⟨d0, rfl, hq⟩ := h
  refine ⟨C_Never.cl, C_Never.na _ (by simp), (by show 0 < 1000; decide), ?_⟩
  rw [show putA ("papers" : Str) d0 [] = [(("papers" : Str), d0)] from pA_rfl rfl]
  exact ⟨_, rfl, hq⟩
end
theorem sc_Never_eq : FnScope ["self", "other"] ["self", "other"] (defScope s_Never_eq) := ⟨rfl, rfl, rfl, by decide +kernel, rfl, by decide +kernel, by decide +kernel⟩
section
variable {P : Program} {w : World} {K : PySem.W.Frag} {mg : Str → Option Value} {base : Heap}
theorem ok_Never_eq (C_Never : OC_Never K mg) (Kc : Addr → Addr → Prop) (cs : Str → Addr) (FAR : ∀ D, Kc C_Never.C D → C8.InsC K D ∧ PySem.W.kitOne K (.ref D) (.ref C_Never.C) = some false) (EQ : ClEqB P w K mg base 0 P0) (T : TB mg) : FnOk P w K mg base CX0 5 C_Never.fe C_Never.fde ["self", "other"] (dsp K 2 (sp_eq Kc P0 4 C_Never.C ["papers"])) := by
  refine fn_d (k := 4) C_Never.FE sc_Never_eq (fun cdv A outer s H E hr => (dss_one (ds_ret (de_and (de_isiC (de_var (fun _ => pv 1)) (fun _ => pe_glob (v := .ref C_Never.C) (by rfl) C_Never.m rfl) (fun _ => by rfl) (fun _ => T.isinstance)) (de_one (de_cmpC (cd_eqH (n := 4) (fun _ => EQ) (fun _ => hr.mono (by decide))) (de_fld (de_var (fun _ => pv 0))) (de_fld (de_var (fun _ => pv 1))) (nomark _))))))) (fun δ Qd l h => ?_)
  obtain ⟨D, fs, gs, b, rfl, hc, hq⟩ := h
  rcases hc with ⟨hk, rfl⟩ | ⟨rfl, e, hf, rfl⟩
  · exact ⟨(FAR D hk).1, false, (FAR D hk).2, false, rfl, hq⟩
  obtain ⟨a0, b0, ha0, hb0, g0⟩ := hf "papers" (by simp)
  simp only [List.all_cons, List.all_nil, Bool.and_true] at hq
  refine ⟨C_Never.ins, true, kit_self _, true, rfl, ?_⟩
  refine ⟨C_Never.cl, C_Never.na _ (by simp), a0, ha0, C_Never.cl, C_Never.na _ (by simp), b0, hb0, dEqH_of g0 ?_⟩
  exact hq
end
structure OC_Trial (K : PySem.W.Frag) (mg : Str → Option Value) where
  C : Addr
  f : Addr
  fd : FuncData
  F : FunD K "__init__" "Trial.__init__" (defArgs s_Trial_init) (defBody s_Trial_init) (defScope s_Trial_init) [] [] f fd
  m : mg "Trial" = some (.ref C)
  M : Mk K C f
  cl : Cls K C
  na : ∀ f, f ∈ [("tolds" : Str), ("refused" : Str)] → NoAttr K C f
  v0 : List Value
  w0 : Vals [] v0
  b0 : L2.Binds K fd ["self", "tolds", "refused"] v0
  ins : C8.InsC K C
  fe : Addr
  fde : FuncData
  FE : FunD K "__eq__" "Trial.__eq__" (defArgs s_Trial_eq) (defBody s_Trial_eq) (defScope s_Trial_eq) [] [] fe fde
  ie : PySem.W.findIn K (.ref C) "__eq__" = some (some (.ref fe))
  je : PySem.W.isFn K (.ref fe) = true
  be : L2.Binds K fde ["self", "other"] []
  ne : PySem.W.findIn K (.ref C) "__ne__" = some (some (.builtin "object.__ne__"))
  mo : PySem.W.mroIn K C (.type "object") = some true
def sp_Trial : SpcI := fun δ Q => ∃ d0 d1 : Dt, δ = [.val d0, .val d1] ∧ Q [("tolds", d0), ("refused", d1)]
theorem sc_Trial_init : FnScope ["self", "tolds", "refused"] ["self", "tolds", "refused"] (defScope s_Trial_init) := ⟨rfl, rfl, rfl, by decide +kernel, rfl, by decide +kernel, by decide +kernel⟩
section
variable {P : Program} {w : World} {K : PySem.W.Frag} {mg : Str → Option Value} {base : Heap}
theorem ok_Trial_init (C_Trial : OC_Trial K mg) (T : TB mg) : FnOk P w K mg base CX0 1 C_Trial.f C_Trial.fd ["self", "tolds", "refused"] (dspI K C_Trial.C 2 sp_Trial) := by
  refine fn_init (k := 0) C_Trial.F sc_Trial_init (fun cdv A outer s H E hr => (dss_cons (ds_fld (fun _ => pv 0) (de_var (fun _ => pv 1)))
  (dss_one (ds_fld (fun _ => pv 0) (de_var (fun _ => pv 2)))))) (fun δ Qd a l h => ?_)
  obtain ⟨d0, d1, rfl, hq⟩ := h
  refine ⟨C_Trial.cl, C_Trial.na _ (by simp), (by show 0 < 1000; decide), ?_⟩
  rw [show putA ("tolds" : Str) d0 [] = [(("tolds" : Str), d0)] from pA_rfl rfl]
  refine ⟨C_Trial.cl, C_Trial.na _ (by simp), (by show 1 < 1000; decide), ?_⟩
  rw [show putA ("refused" : Str) d1 [(("tolds" : Str), d0)] = [(("tolds" : Str), d0), (("refused" : Str), d1)] from pA_rfl rfl]
  exact ⟨_, rfl, hq⟩
end
theorem sc_Trial_eq : FnScope ["self", "other"] ["self", "other"] (defScope s_Trial_eq) := ⟨rfl, rfl, rfl, by decide +kernel, rfl, by decide +kernel, by decide +kernel⟩
section
variable {P : Program} {w : World} {K : PySem.W.Frag} {mg : Str → Option Value} {base : Heap}
theorem ok_Trial_eq (C_Trial : OC_Trial K mg) (Kc : Addr → Addr → Prop) (cs : Str → Addr) (FAR : ∀ D, Kc C_Trial.C D → C8.InsC K D ∧ PySem.W.kitOne K (.ref D) (.ref C_Trial.C) = some false) (EQ : ClEqB P w K mg base 0 P0) (T : TB mg) : FnOk P w K mg base CX0 5 C_Trial.fe C_Trial.fde ["self", "other"] (dsp K 2 (sp_eq Kc P0 4 C_Trial.C ["tolds", "refused"])) := by
  refine fn_d (k := 4) C_Trial.FE sc_Trial_eq (fun cdv A outer s H E hr => (dss_one (ds_ret (de_and (de_isiC (de_var (fun _ => pv 1)) (fun _ => pe_glob (v := .ref C_Trial.C) (by rfl) C_Trial.m rfl) (fun _ => by rfl) (fun _ => T.isinstance)) (de_and (de_cmpC (cd_eqH (n := 4) (fun _ => EQ) (fun _ => hr.mono (by decide))) (de_fld (de_var (fun _ => pv 0))) (de_fld (de_var (fun _ => pv 1))) (nomark _)) (de_one (de_cmpC (cd_eqH (n := 4) (fun _ => EQ) (fun _ => hr.mono (by decide))) (de_fld (de_var (fun _ => pv 0))) (de_fld (de_var (fun _ => pv 1))) (nomark _)))))))) (fun δ Qd l h => ?_)
  obtain ⟨D, fs, gs, b, rfl, hc, hq⟩ := h
  rcases hc with ⟨hk, rfl⟩ | ⟨rfl, e, hf, rfl⟩
  · exact ⟨(FAR D hk).1, false, (FAR D hk).2, false, rfl, hq⟩
  obtain ⟨a0, b0, ha0, hb0, g0⟩ := hf "tolds" (by simp)
  obtain ⟨a1, b1, ha1, hb1, g1⟩ := hf "refused" (by simp)
  simp only [List.all_cons, List.all_nil, Bool.and_true] at hq
  refine ⟨C_Trial.ins, true, kit_self _, true, rfl, ?_⟩
  refine ⟨C_Trial.cl, C_Trial.na _ (by simp), a0, ha0, C_Trial.cl, C_Trial.na _ (by simp), b0, hb0, dEqH_of g0 ?_⟩
  refine ⟨e "tolds", rfl, ?_⟩
  cases he0 : e "tolds"
  · rw [he0, Bool.false_and] at hq
    exact hq
  rw [he0, Bool.true_and] at hq
  refine ⟨C_Trial.cl, C_Trial.na _ (by simp), a1, ha1, C_Trial.cl, C_Trial.na _ (by simp), b1, hb1, dEqH_of g1 ?_⟩
  exact hq
end
structure OC_Canon (K : PySem.W.Frag) (mg : Str → Option Value) where
  C : Addr
  f : Addr
  fd : FuncData
  F : FunD K "__init__" "Canon.__init__" (defArgs s_Canon_init) (defBody s_Canon_init) (defScope s_Canon_init) [] [] f fd
  m : mg "Canon" = some (.ref C)
  M : Mk K C f
  cl : Cls K C
  na : ∀ f, f ∈ [("book" : Str), ("letters" : Str), ("unknowns" : Str)] → NoAttr K C f
  v0 : List Value
  w0 : Vals [] v0
  b0 : L2.Binds K fd ["self", "book", "letters", "unknowns"] v0
  ins : C8.InsC K C
  fe : Addr
  fde : FuncData
  FE : FunD K "__eq__" "Canon.__eq__" (defArgs s_Canon_eq) (defBody s_Canon_eq) (defScope s_Canon_eq) [] [] fe fde
  ie : PySem.W.findIn K (.ref C) "__eq__" = some (some (.ref fe))
  je : PySem.W.isFn K (.ref fe) = true
  be : L2.Binds K fde ["self", "other"] []
  ne : PySem.W.findIn K (.ref C) "__ne__" = some (some (.builtin "object.__ne__"))
  mo : PySem.W.mroIn K C (.type "object") = some true
def sp_Canon : SpcI := fun δ Q => ∃ d0 d1 d2 : Dt, δ = [.val d0, .val d1, .val d2] ∧ Q [("book", d0), ("letters", d1), ("unknowns", d2)]
theorem sc_Canon_init : FnScope ["self", "book", "letters", "unknowns"] ["self", "book", "letters", "unknowns"] (defScope s_Canon_init) := ⟨rfl, rfl, rfl, by decide +kernel, rfl, by decide +kernel, by decide +kernel⟩
section
variable {P : Program} {w : World} {K : PySem.W.Frag} {mg : Str → Option Value} {base : Heap}
theorem ok_Canon_init (C_Canon : OC_Canon K mg) (T : TB mg) : FnOk P w K mg base CX0 1 C_Canon.f C_Canon.fd ["self", "book", "letters", "unknowns"] (dspI K C_Canon.C 3 sp_Canon) := by
  refine fn_init (k := 0) C_Canon.F sc_Canon_init (fun cdv A outer s H E hr => (dss_cons (ds_fld (fun _ => pv 0) (de_var (fun _ => pv 1)))
  (dss_cons (ds_fld (fun _ => pv 0) (de_var (fun _ => pv 2)))
  (dss_one (ds_fld (fun _ => pv 0) (de_var (fun _ => pv 3))))))) (fun δ Qd a l h => ?_)
  obtain ⟨d0, d1, d2, rfl, hq⟩ := h
  refine ⟨C_Canon.cl, C_Canon.na _ (by simp), (by show 0 < 1000; decide), ?_⟩
  rw [show putA ("book" : Str) d0 [] = [(("book" : Str), d0)] from pA_rfl rfl]
  refine ⟨C_Canon.cl, C_Canon.na _ (by simp), (by show 1 < 1000; decide), ?_⟩
  rw [show putA ("letters" : Str) d1 [(("book" : Str), d0)] = [(("book" : Str), d0), (("letters" : Str), d1)] from pA_rfl rfl]
  refine ⟨C_Canon.cl, C_Canon.na _ (by simp), (by show 2 < 1000; decide), ?_⟩
  rw [show putA ("unknowns" : Str) d2 [(("book" : Str), d0), (("letters" : Str), d1)] = [(("book" : Str), d0), (("letters" : Str), d1), (("unknowns" : Str), d2)] from pA_rfl rfl]
  exact ⟨_, rfl, hq⟩
end
theorem sc_Canon_eq : FnScope ["self", "other"] ["self", "other"] (defScope s_Canon_eq) := ⟨rfl, rfl, rfl, by decide +kernel, rfl, by decide +kernel, by decide +kernel⟩
section
variable {P : Program} {w : World} {K : PySem.W.Frag} {mg : Str → Option Value} {base : Heap}
theorem ok_Canon_eq (C_Canon : OC_Canon K mg) (Kc : Addr → Addr → Prop) (cs : Str → Addr) (FAR : ∀ D, Kc C_Canon.C D → C8.InsC K D ∧ PySem.W.kitOne K (.ref D) (.ref C_Canon.C) = some false) (EQ : ClEqB P w K mg base 6 (P1 Kc cs)) (T : TB mg) : FnOk P w K mg base CX0 11 C_Canon.fe C_Canon.fde ["self", "other"] (dsp K 2 (sp_eq Kc (P1 Kc cs) 4 C_Canon.C ["book", "letters", "unknowns"])) := by
  refine fn_d (k := 10) C_Canon.FE sc_Canon_eq (fun cdv A outer s H E hr => (dss_one (ds_ret (de_and (de_isiC (de_var (fun _ => pv 1)) (fun _ => pe_glob (v := .ref C_Canon.C) (by rfl) C_Canon.m rfl) (fun _ => by rfl) (fun _ => T.isinstance)) (de_and (de_cmpC (cd_eqH (n := 4) (fun _ => EQ) (fun _ => hr.mono (by decide))) (de_fld (de_var (fun _ => pv 0))) (de_fld (de_var (fun _ => pv 1))) (nomark _)) (de_and (de_cmpC (cd_eqH (n := 4) (fun _ => EQ) (fun _ => hr.mono (by decide))) (de_fld (de_var (fun _ => pv 0))) (de_fld (de_var (fun _ => pv 1))) (nomark _)) (de_one (de_cmpC (cd_eqH (n := 4) (fun _ => EQ) (fun _ => hr.mono (by decide))) (de_fld (de_var (fun _ => pv 0))) (de_fld (de_var (fun _ => pv 1))) (nomark _))))))))) (fun δ Qd l h => ?_)
  obtain ⟨D, fs, gs, b, rfl, hc, hq⟩ := h
  rcases hc with ⟨hk, rfl⟩ | ⟨rfl, e, hf, rfl⟩
  · exact ⟨(FAR D hk).1, false, (FAR D hk).2, false, rfl, hq⟩
  obtain ⟨a0, b0, ha0, hb0, g0⟩ := hf "book" (by simp)
  obtain ⟨a1, b1, ha1, hb1, g1⟩ := hf "letters" (by simp)
  obtain ⟨a2, b2, ha2, hb2, g2⟩ := hf "unknowns" (by simp)
  simp only [List.all_cons, List.all_nil, Bool.and_true] at hq
  refine ⟨C_Canon.ins, true, kit_self _, true, rfl, ?_⟩
  refine ⟨C_Canon.cl, C_Canon.na _ (by simp), a0, ha0, C_Canon.cl, C_Canon.na _ (by simp), b0, hb0, dEqH_of g0 ?_⟩
  refine ⟨e "book", rfl, ?_⟩
  cases he0 : e "book"
  · rw [he0, Bool.false_and] at hq
    exact hq
  rw [he0, Bool.true_and] at hq
  refine ⟨C_Canon.cl, C_Canon.na _ (by simp), a1, ha1, C_Canon.cl, C_Canon.na _ (by simp), b1, hb1, dEqH_of g1 ?_⟩
  refine ⟨e "letters", rfl, ?_⟩
  cases he1 : e "letters"
  · rw [he1, Bool.false_and] at hq
    exact hq
  rw [he1, Bool.true_and] at hq
  refine ⟨C_Canon.cl, C_Canon.na _ (by simp), a2, ha2, C_Canon.cl, C_Canon.na _ (by simp), b2, hb2, dEqH_of g2 ?_⟩
  exact hq
end
structure OC_Settled (K : PySem.W.Frag) (mg : Str → Option Value) where
  C : Addr
  f : Addr
  fd : FuncData
  F : FunD K "__init__" "Settled.__init__" (defArgs s_Settled_init) (defBody s_Settled_init) (defScope s_Settled_init) [] [] f fd
  m : mg "Settled" = some (.ref C)
  M : Mk K C f
  cl : Cls K C
  na : ∀ f, f ∈ [("told" : Str), ("letters" : Str), ("unknowns" : Str), ("spares" : Str)] → NoAttr K C f
  v0 : List Value
  w0 : Vals [] v0
  b0 : L2.Binds K fd ["self", "told", "letters", "unknowns", "spares"] v0
  ins : C8.InsC K C
  fe : Addr
  fde : FuncData
  FE : FunD K "__eq__" "Settled.__eq__" (defArgs s_Settled_eq) (defBody s_Settled_eq) (defScope s_Settled_eq) [] [] fe fde
  ie : PySem.W.findIn K (.ref C) "__eq__" = some (some (.ref fe))
  je : PySem.W.isFn K (.ref fe) = true
  be : L2.Binds K fde ["self", "other"] []
  ne : PySem.W.findIn K (.ref C) "__ne__" = some (some (.builtin "object.__ne__"))
  mo : PySem.W.mroIn K C (.type "object") = some true
def sp_Settled : SpcI := fun δ Q => ∃ d0 d1 d2 d3 : Dt, δ = [.val d0, .val d1, .val d2, .val d3] ∧ Q [("told", d0), ("letters", d1), ("unknowns", d2), ("spares", d3)]
theorem sc_Settled_init : FnScope ["self", "told", "letters", "unknowns", "spares"] ["self", "told", "letters", "unknowns", "spares"] (defScope s_Settled_init) := ⟨rfl, rfl, rfl, by decide +kernel, rfl, by decide +kernel, by decide +kernel⟩
section
variable {P : Program} {w : World} {K : PySem.W.Frag} {mg : Str → Option Value} {base : Heap}
theorem ok_Settled_init (C_Settled : OC_Settled K mg) (T : TB mg) : FnOk P w K mg base CX0 1 C_Settled.f C_Settled.fd ["self", "told", "letters", "unknowns", "spares"] (dspI K C_Settled.C 4 sp_Settled) := by
  refine fn_init (k := 0) C_Settled.F sc_Settled_init (fun cdv A outer s H E hr => (dss_cons (ds_fld (fun _ => pv 0) (de_var (fun _ => pv 1)))
  (dss_cons (ds_fld (fun _ => pv 0) (de_var (fun _ => pv 2)))
  (dss_cons (ds_fld (fun _ => pv 0) (de_var (fun _ => pv 3)))
  (dss_one (ds_fld (fun _ => pv 0) (de_var (fun _ => pv 4)))))))) (fun δ Qd a l h => ?_)
  obtain ⟨d0, d1, d2, d3, rfl, hq⟩ := h
  refine ⟨C_Settled.cl, C_Settled.na _ (by simp), (by show 0 < 1000; decide), ?_⟩
  rw [show putA ("told" : Str) d0 [] = [(("told" : Str), d0)] from pA_rfl rfl]
  refine ⟨C_Settled.cl, C_Settled.na _ (by simp), (by show 1 < 1000; decide), ?_⟩
  rw [show putA ("letters" : Str) d1 [(("told" : Str), d0)] = [(("told" : Str), d0), (("letters" : Str), d1)] from pA_rfl rfl]
  refine ⟨C_Settled.cl, C_Settled.na _ (by simp), (by show 2 < 1000; decide), ?_⟩
  rw [show putA ("unknowns" : Str) d2 [(("told" : Str), d0), (("letters" : Str), d1)] = [(("told" : Str), d0), (("letters" : Str), d1), (("unknowns" : Str), d2)] from pA_rfl rfl]
  refine ⟨C_Settled.cl, C_Settled.na _ (by simp), (by show 3 < 1000; decide), ?_⟩
  rw [show putA ("spares" : Str) d3 [(("told" : Str), d0), (("letters" : Str), d1), (("unknowns" : Str), d2)] = [(("told" : Str), d0), (("letters" : Str), d1), (("unknowns" : Str), d2), (("spares" : Str), d3)] from pA_rfl rfl]
  exact ⟨_, rfl, hq⟩
end
theorem sc_Settled_eq : FnScope ["self", "other"] ["self", "other"] (defScope s_Settled_eq) := ⟨rfl, rfl, rfl, by decide +kernel, rfl, by decide +kernel, by decide +kernel⟩
section
variable {P : Program} {w : World} {K : PySem.W.Frag} {mg : Str → Option Value} {base : Heap}
theorem ok_Settled_eq (C_Settled : OC_Settled K mg) (Kc : Addr → Addr → Prop) (cs : Str → Addr) (FAR : ∀ D, Kc C_Settled.C D → C8.InsC K D ∧ PySem.W.kitOne K (.ref D) (.ref C_Settled.C) = some false) (EQ : ClEqB P w K mg base 6 (P1 Kc cs)) (T : TB mg) : FnOk P w K mg base CX0 11 C_Settled.fe C_Settled.fde ["self", "other"] (dsp K 2 (sp_eq Kc (P1 Kc cs) 4 C_Settled.C ["told", "letters", "unknowns", "spares"])) := by
  refine fn_d (k := 10) C_Settled.FE sc_Settled_eq (fun cdv A outer s H E hr => (dss_one (ds_ret (de_and (de_isiC (de_var (fun _ => pv 1)) (fun _ => pe_glob (v := .ref C_Settled.C) (by rfl) C_Settled.m rfl) (fun _ => by rfl) (fun _ => T.isinstance)) (de_and (de_cmpC (cd_eqH (n := 4) (fun _ => EQ) (fun _ => hr.mono (by decide))) (de_fld (de_var (fun _ => pv 0))) (de_fld (de_var (fun _ => pv 1))) (nomark _)) (de_and (de_cmpC (cd_eqH (n := 4) (fun _ => EQ) (fun _ => hr.mono (by decide))) (de_fld (de_var (fun _ => pv 0))) (de_fld (de_var (fun _ => pv 1))) (nomark _)) (de_and (de_cmpC (cd_eqH (n := 4) (fun _ => EQ) (fun _ => hr.mono (by decide))) (de_fld (de_var (fun _ => pv 0))) (de_fld (de_var (fun _ => pv 1))) (nomark _)) (de_one (de_cmpC (cd_eqH (n := 4) (fun _ => EQ) (fun _ => hr.mono (by decide))) (de_fld (de_var (fun _ => pv 0))) (de_fld (de_var (fun _ => pv 1))) (nomark _)))))))))) (fun δ Qd l h => ?_)
  obtain ⟨D, fs, gs, b, rfl, hc, hq⟩ := h
  rcases hc with ⟨hk, rfl⟩ | ⟨rfl, e, hf, rfl⟩
  · exact ⟨(FAR D hk).1, false, (FAR D hk).2, false, rfl, hq⟩
  obtain ⟨a0, b0, ha0, hb0, g0⟩ := hf "told" (by simp)
  obtain ⟨a1, b1, ha1, hb1, g1⟩ := hf "letters" (by simp)
  obtain ⟨a2, b2, ha2, hb2, g2⟩ := hf "unknowns" (by simp)
  obtain ⟨a3, b3, ha3, hb3, g3⟩ := hf "spares" (by simp)
  simp only [List.all_cons, List.all_nil, Bool.and_true] at hq
  refine ⟨C_Settled.ins, true, kit_self _, true, rfl, ?_⟩
  refine ⟨C_Settled.cl, C_Settled.na _ (by simp), a0, ha0, C_Settled.cl, C_Settled.na _ (by simp), b0, hb0, dEqH_of g0 ?_⟩
  refine ⟨e "told", rfl, ?_⟩
  cases he0 : e "told"
  · rw [he0, Bool.false_and] at hq
    exact hq
  rw [he0, Bool.true_and] at hq
  refine ⟨C_Settled.cl, C_Settled.na _ (by simp), a1, ha1, C_Settled.cl, C_Settled.na _ (by simp), b1, hb1, dEqH_of g1 ?_⟩
  refine ⟨e "letters", rfl, ?_⟩
  cases he1 : e "letters"
  · rw [he1, Bool.false_and] at hq
    exact hq
  rw [he1, Bool.true_and] at hq
  refine ⟨C_Settled.cl, C_Settled.na _ (by simp), a2, ha2, C_Settled.cl, C_Settled.na _ (by simp), b2, hb2, dEqH_of g2 ?_⟩
  refine ⟨e "unknowns", rfl, ?_⟩
  cases he2 : e "unknowns"
  · rw [he2, Bool.false_and] at hq
    exact hq
  rw [he2, Bool.true_and] at hq
  refine ⟨C_Settled.cl, C_Settled.na _ (by simp), a3, ha3, C_Settled.cl, C_Settled.na _ (by simp), b3, hb3, dEqH_of g3 ?_⟩
  exact hq
end
structure OC_Guess (K : PySem.W.Frag) (mg : Str → Option Value) where
  C : Addr
  f : Addr
  fd : FuncData
  F : FunD K "__init__" "Guess.__init__" (defArgs s_Guess_init) (defBody s_Guess_init) (defScope s_Guess_init) [] [] f fd
  m : mg "Guess" = some (.ref C)
  M : Mk K C f
  cl : Cls K C
  na : ∀ f, f ∈ [("parts" : Str), ("news" : Str), ("told" : Str), ("letters" : Str), ("unknowns" : Str), ("spares" : Str), ("equations" : Str)] → NoAttr K C f
  v0 : List Value
  w0 : Vals [] v0
  b0 : L2.Binds K fd ["self", "parts", "news", "told", "letters", "unknowns", "spares", "equations"] v0
  ins : C8.InsC K C
  fe : Addr
  fde : FuncData
  FE : FunD K "__eq__" "Guess.__eq__" (defArgs s_Guess_eq) (defBody s_Guess_eq) (defScope s_Guess_eq) [] [] fe fde
  ie : PySem.W.findIn K (.ref C) "__eq__" = some (some (.ref fe))
  je : PySem.W.isFn K (.ref fe) = true
  be : L2.Binds K fde ["self", "other"] []
  ne : PySem.W.findIn K (.ref C) "__ne__" = some (some (.builtin "object.__ne__"))
  mo : PySem.W.mroIn K C (.type "object") = some true
def sp_Guess : SpcI := fun δ Q => ∃ d0 d1 d2 d3 d4 d5 d6 : Dt, δ = [.val d0, .val d1, .val d2, .val d3, .val d4, .val d5, .val d6] ∧ Q [("parts", d0), ("news", d1), ("told", d2), ("letters", d3), ("unknowns", d4), ("spares", d5), ("equations", d6)]
theorem sc_Guess_init : FnScope ["self", "parts", "news", "told", "letters", "unknowns", "spares", "equations"] ["self", "parts", "news", "told", "letters", "unknowns", "spares", "equations"] (defScope s_Guess_init) := ⟨rfl, rfl, rfl, by decide +kernel, rfl, by decide +kernel, by decide +kernel⟩
section
variable {P : Program} {w : World} {K : PySem.W.Frag} {mg : Str → Option Value} {base : Heap}
theorem ok_Guess_init (C_Guess : OC_Guess K mg) (T : TB mg) : FnOk P w K mg base CX0 1 C_Guess.f C_Guess.fd ["self", "parts", "news", "told", "letters", "unknowns", "spares", "equations"] (dspI K C_Guess.C 7 sp_Guess) := by
  refine fn_init (k := 0) C_Guess.F sc_Guess_init (fun cdv A outer s H E hr => (dss_cons (ds_fld (fun _ => pv 0) (de_var (fun _ => pv 1)))
  (dss_cons (ds_fld (fun _ => pv 0) (de_var (fun _ => pv 2)))
  (dss_cons (ds_fld (fun _ => pv 0) (de_var (fun _ => pv 3)))
  (dss_cons (ds_fld (fun _ => pv 0) (de_var (fun _ => pv 4)))
  (dss_cons (ds_fld (fun _ => pv 0) (de_var (fun _ => pv 5)))
  (dss_cons (ds_fld (fun _ => pv 0) (de_var (fun _ => pv 6)))
  (dss_one (ds_fld (fun _ => pv 0) (de_var (fun _ => pv 7))))))))))) (fun δ Qd a l h => ?_)
  obtain ⟨d0, d1, d2, d3, d4, d5, d6, rfl, hq⟩ := h
  refine ⟨C_Guess.cl, C_Guess.na _ (by simp), (by show 0 < 1000; decide), ?_⟩
  rw [show putA ("parts" : Str) d0 [] = [(("parts" : Str), d0)] from pA_rfl rfl]
  refine ⟨C_Guess.cl, C_Guess.na _ (by simp), (by show 1 < 1000; decide), ?_⟩
  rw [show putA ("news" : Str) d1 [(("parts" : Str), d0)] = [(("parts" : Str), d0), (("news" : Str), d1)] from pA_rfl rfl]
  refine ⟨C_Guess.cl, C_Guess.na _ (by simp), (by show 2 < 1000; decide), ?_⟩
  rw [show putA ("told" : Str) d2 [(("parts" : Str), d0), (("news" : Str), d1)] = [(("parts" : Str), d0), (("news" : Str), d1), (("told" : Str), d2)] from pA_rfl rfl]
  refine ⟨C_Guess.cl, C_Guess.na _ (by simp), (by show 3 < 1000; decide), ?_⟩
  rw [show putA ("letters" : Str) d3 [(("parts" : Str), d0), (("news" : Str), d1), (("told" : Str), d2)] = [(("parts" : Str), d0), (("news" : Str), d1), (("told" : Str), d2), (("letters" : Str), d3)] from pA_rfl rfl]
  refine ⟨C_Guess.cl, C_Guess.na _ (by simp), (by show 4 < 1000; decide), ?_⟩
  rw [show putA ("unknowns" : Str) d4 [(("parts" : Str), d0), (("news" : Str), d1), (("told" : Str), d2), (("letters" : Str), d3)] = [(("parts" : Str), d0), (("news" : Str), d1), (("told" : Str), d2), (("letters" : Str), d3), (("unknowns" : Str), d4)] from pA_rfl rfl]
  refine ⟨C_Guess.cl, C_Guess.na _ (by simp), (by show 5 < 1000; decide), ?_⟩
  rw [show putA ("spares" : Str) d5 [(("parts" : Str), d0), (("news" : Str), d1), (("told" : Str), d2), (("letters" : Str), d3), (("unknowns" : Str), d4)] = [(("parts" : Str), d0), (("news" : Str), d1), (("told" : Str), d2), (("letters" : Str), d3), (("unknowns" : Str), d4), (("spares" : Str), d5)] from pA_rfl rfl]
  refine ⟨C_Guess.cl, C_Guess.na _ (by simp), (by show 6 < 1000; decide), ?_⟩
  rw [show putA ("equations" : Str) d6 [(("parts" : Str), d0), (("news" : Str), d1), (("told" : Str), d2), (("letters" : Str), d3), (("unknowns" : Str), d4), (("spares" : Str), d5)] = [(("parts" : Str), d0), (("news" : Str), d1), (("told" : Str), d2), (("letters" : Str), d3), (("unknowns" : Str), d4), (("spares" : Str), d5), (("equations" : Str), d6)] from pA_rfl rfl]
  exact ⟨_, rfl, hq⟩
end
theorem sc_Guess_eq : FnScope ["self", "other"] ["self", "other"] (defScope s_Guess_eq) := ⟨rfl, rfl, rfl, by decide +kernel, rfl, by decide +kernel, by decide +kernel⟩
section
variable {P : Program} {w : World} {K : PySem.W.Frag} {mg : Str → Option Value} {base : Heap}
theorem ok_Guess_eq (C_Guess : OC_Guess K mg) (Kc : Addr → Addr → Prop) (cs : Str → Addr) (FAR : ∀ D, Kc C_Guess.C D → C8.InsC K D ∧ PySem.W.kitOne K (.ref D) (.ref C_Guess.C) = some false) (EQ : ClEqB P w K mg base 6 (P1 Kc cs)) (T : TB mg) : FnOk P w K mg base CX0 11 C_Guess.fe C_Guess.fde ["self", "other"] (dsp K 2 (sp_eq Kc (P1 Kc cs) 4 C_Guess.C ["parts", "news", "told", "letters", "unknowns", "spares", "equations"])) := by
  refine fn_d (k := 10) C_Guess.FE sc_Guess_eq (fun cdv A outer s H E hr => (dss_one (ds_ret (de_and (de_isiC (de_var (fun _ => pv 1)) (fun _ => pe_glob (v := .ref C_Guess.C) (by rfl) C_Guess.m rfl) (fun _ => by rfl) (fun _ => T.isinstance)) (de_and (de_cmpC (cd_eqH (n := 4) (fun _ => EQ) (fun _ => hr.mono (by decide))) (de_fld (de_var (fun _ => pv 0))) (de_fld (de_var (fun _ => pv 1))) (nomark _)) (de_and (de_cmpC (cd_eqH (n := 4) (fun _ => EQ) (fun _ => hr.mono (by decide))) (de_fld (de_var (fun _ => pv 0))) (de_fld (de_var (fun _ => pv 1))) (nomark _)) (de_and (de_cmpC (cd_eqH (n := 4) (fun _ => EQ) (fun _ => hr.mono (by decide))) (de_fld (de_var (fun _ => pv 0))) (de_fld (de_var (fun _ => pv 1))) (nomark _)) (de_and (de_cmpC (cd_eqH (n := 4) (fun _ => EQ) (fun _ => hr.mono (by decide))) (de_fld (de_var (fun _ => pv 0))) (de_fld (de_var (fun _ => pv 1))) (nomark _)) (de_and (de_cmpC (cd_eqH (n := 4) (fun _ => EQ) (fun _ => hr.mono (by decide))) (de_fld (de_var (fun _ => pv 0))) (de_fld (de_var (fun _ => pv 1))) (nomark _)) (de_and (de_cmpC (cd_eqH (n := 4) (fun _ => EQ) (fun _ => hr.mono (by decide))) (de_fld (de_var (fun _ => pv 0))) (de_fld (de_var (fun _ => pv 1))) (nomark _)) (de_one (de_cmpC (cd_eqH (n := 4) (fun _ => EQ) (fun _ => hr.mono (by decide))) (de_fld (de_var (fun _ => pv 0))) (de_fld (de_var (fun _ => pv 1))) (nomark _))))))))))))) (fun δ Qd l h => ?_)
  obtain ⟨D, fs, gs, b, rfl, hc, hq⟩ := h
  rcases hc with ⟨hk, rfl⟩ | ⟨rfl, e, hf, rfl⟩
  · exact ⟨(FAR D hk).1, false, (FAR D hk).2, false, rfl, hq⟩
  obtain ⟨a0, b0, ha0, hb0, g0⟩ := hf "parts" (by simp)
  obtain ⟨a1, b1, ha1, hb1, g1⟩ := hf "news" (by simp)
  obtain ⟨a2, b2, ha2, hb2, g2⟩ := hf "told" (by simp)
  obtain ⟨a3, b3, ha3, hb3, g3⟩ := hf "letters" (by simp)
  obtain ⟨a4, b4, ha4, hb4, g4⟩ := hf "unknowns" (by simp)
  obtain ⟨a5, b5, ha5, hb5, g5⟩ := hf "spares" (by simp)
  obtain ⟨a6, b6, ha6, hb6, g6⟩ := hf "equations" (by simp)
  simp only [List.all_cons, List.all_nil, Bool.and_true] at hq
  refine ⟨C_Guess.ins, true, kit_self _, true, rfl, ?_⟩
  refine ⟨C_Guess.cl, C_Guess.na _ (by simp), a0, ha0, C_Guess.cl, C_Guess.na _ (by simp), b0, hb0, dEqH_of g0 ?_⟩
  refine ⟨e "parts", rfl, ?_⟩
  cases he0 : e "parts"
  · rw [he0, Bool.false_and] at hq
    exact hq
  rw [he0, Bool.true_and] at hq
  refine ⟨C_Guess.cl, C_Guess.na _ (by simp), a1, ha1, C_Guess.cl, C_Guess.na _ (by simp), b1, hb1, dEqH_of g1 ?_⟩
  refine ⟨e "news", rfl, ?_⟩
  cases he1 : e "news"
  · rw [he1, Bool.false_and] at hq
    exact hq
  rw [he1, Bool.true_and] at hq
  refine ⟨C_Guess.cl, C_Guess.na _ (by simp), a2, ha2, C_Guess.cl, C_Guess.na _ (by simp), b2, hb2, dEqH_of g2 ?_⟩
  refine ⟨e "told", rfl, ?_⟩
  cases he2 : e "told"
  · rw [he2, Bool.false_and] at hq
    exact hq
  rw [he2, Bool.true_and] at hq
  refine ⟨C_Guess.cl, C_Guess.na _ (by simp), a3, ha3, C_Guess.cl, C_Guess.na _ (by simp), b3, hb3, dEqH_of g3 ?_⟩
  refine ⟨e "letters", rfl, ?_⟩
  cases he3 : e "letters"
  · rw [he3, Bool.false_and] at hq
    exact hq
  rw [he3, Bool.true_and] at hq
  refine ⟨C_Guess.cl, C_Guess.na _ (by simp), a4, ha4, C_Guess.cl, C_Guess.na _ (by simp), b4, hb4, dEqH_of g4 ?_⟩
  refine ⟨e "unknowns", rfl, ?_⟩
  cases he4 : e "unknowns"
  · rw [he4, Bool.false_and] at hq
    exact hq
  rw [he4, Bool.true_and] at hq
  refine ⟨C_Guess.cl, C_Guess.na _ (by simp), a5, ha5, C_Guess.cl, C_Guess.na _ (by simp), b5, hb5, dEqH_of g5 ?_⟩
  refine ⟨e "spares", rfl, ?_⟩
  cases he5 : e "spares"
  · rw [he5, Bool.false_and] at hq
    exact hq
  rw [he5, Bool.true_and] at hq
  refine ⟨C_Guess.cl, C_Guess.na _ (by simp), a6, ha6, C_Guess.cl, C_Guess.na _ (by simp), b6, hb6, dEqH_of g6 ?_⟩
  exact hq
end
structure OC_Pressed (K : PySem.W.Frag) (mg : Str → Option Value) where
  C : Addr
  f : Addr
  fd : FuncData
  F : FunD K "__init__" "Pressed.__init__" (defArgs s_Pressed_init) (defBody s_Pressed_init) (defScope s_Pressed_init) [] [] f fd
  m : mg "Pressed" = some (.ref C)
  M : Mk K C f
  cl : Cls K C
  na : ∀ f, f ∈ [("table" : Str), ("ends" : Str)] → NoAttr K C f
  v0 : List Value
  w0 : Vals [] v0
  b0 : L2.Binds K fd ["self", "table", "ends"] v0
  ins : C8.InsC K C
  fe : Addr
  fde : FuncData
  FE : FunD K "__eq__" "Pressed.__eq__" (defArgs s_Pressed_eq) (defBody s_Pressed_eq) (defScope s_Pressed_eq) [] [] fe fde
  ie : PySem.W.findIn K (.ref C) "__eq__" = some (some (.ref fe))
  je : PySem.W.isFn K (.ref fe) = true
  be : L2.Binds K fde ["self", "other"] []
  ne : PySem.W.findIn K (.ref C) "__ne__" = some (some (.builtin "object.__ne__"))
  mo : PySem.W.mroIn K C (.type "object") = some true
def sp_Pressed : SpcI := fun δ Q => ∃ d0 d1 : Dt, δ = [.val d0, .val d1] ∧ Q [("table", d0), ("ends", d1)]
theorem sc_Pressed_init : FnScope ["self", "table", "ends"] ["self", "table", "ends"] (defScope s_Pressed_init) := ⟨rfl, rfl, rfl, by decide +kernel, rfl, by decide +kernel, by decide +kernel⟩
section
variable {P : Program} {w : World} {K : PySem.W.Frag} {mg : Str → Option Value} {base : Heap}
theorem ok_Pressed_init (C_Pressed : OC_Pressed K mg) (T : TB mg) : FnOk P w K mg base CX0 1 C_Pressed.f C_Pressed.fd ["self", "table", "ends"] (dspI K C_Pressed.C 2 sp_Pressed) := by
  refine fn_init (k := 0) C_Pressed.F sc_Pressed_init (fun cdv A outer s H E hr => (dss_cons (ds_fld (fun _ => pv 0) (de_var (fun _ => pv 1)))
  (dss_one (ds_fld (fun _ => pv 0) (de_var (fun _ => pv 2)))))) (fun δ Qd a l h => ?_)
  obtain ⟨d0, d1, rfl, hq⟩ := h
  refine ⟨C_Pressed.cl, C_Pressed.na _ (by simp), (by show 0 < 1000; decide), ?_⟩
  rw [show putA ("table" : Str) d0 [] = [(("table" : Str), d0)] from pA_rfl rfl]
  refine ⟨C_Pressed.cl, C_Pressed.na _ (by simp), (by show 1 < 1000; decide), ?_⟩
  rw [show putA ("ends" : Str) d1 [(("table" : Str), d0)] = [(("table" : Str), d0), (("ends" : Str), d1)] from pA_rfl rfl]
  exact ⟨_, rfl, hq⟩
end
theorem sc_Pressed_eq : FnScope ["self", "other"] ["self", "other"] (defScope s_Pressed_eq) := ⟨rfl, rfl, rfl, by decide +kernel, rfl, by decide +kernel, by decide +kernel⟩
section
variable {P : Program} {w : World} {K : PySem.W.Frag} {mg : Str → Option Value} {base : Heap}
theorem ok_Pressed_eq (C_Pressed : OC_Pressed K mg) (Kc : Addr → Addr → Prop) (cs : Str → Addr) (FAR : ∀ D, Kc C_Pressed.C D → C8.InsC K D ∧ PySem.W.kitOne K (.ref D) (.ref C_Pressed.C) = some false) (EQ : ClEqB P w K mg base 6 (P1 Kc cs)) (T : TB mg) : FnOk P w K mg base CX0 11 C_Pressed.fe C_Pressed.fde ["self", "other"] (dsp K 2 (sp_eq Kc (P1 Kc cs) 4 C_Pressed.C ["table", "ends"])) := by
  refine fn_d (k := 10) C_Pressed.FE sc_Pressed_eq (fun cdv A outer s H E hr => (dss_one (ds_ret (de_and (de_isiC (de_var (fun _ => pv 1)) (fun _ => pe_glob (v := .ref C_Pressed.C) (by rfl) C_Pressed.m rfl) (fun _ => by rfl) (fun _ => T.isinstance)) (de_and (de_cmpC (cd_eqH (n := 4) (fun _ => EQ) (fun _ => hr.mono (by decide))) (de_fld (de_var (fun _ => pv 0))) (de_fld (de_var (fun _ => pv 1))) (nomark _)) (de_one (de_cmpC (cd_eqH (n := 4) (fun _ => EQ) (fun _ => hr.mono (by decide))) (de_fld (de_var (fun _ => pv 0))) (de_fld (de_var (fun _ => pv 1))) (nomark _)))))))) (fun δ Qd l h => ?_)
  obtain ⟨D, fs, gs, b, rfl, hc, hq⟩ := h
  rcases hc with ⟨hk, rfl⟩ | ⟨rfl, e, hf, rfl⟩
  · exact ⟨(FAR D hk).1, false, (FAR D hk).2, false, rfl, hq⟩
  obtain ⟨a0, b0, ha0, hb0, g0⟩ := hf "table" (by simp)
  obtain ⟨a1, b1, ha1, hb1, g1⟩ := hf "ends" (by simp)
  simp only [List.all_cons, List.all_nil, Bool.and_true] at hq
  refine ⟨C_Pressed.ins, true, kit_self _, true, rfl, ?_⟩
  refine ⟨C_Pressed.cl, C_Pressed.na _ (by simp), a0, ha0, C_Pressed.cl, C_Pressed.na _ (by simp), b0, hb0, dEqH_of g0 ?_⟩
  refine ⟨e "table", rfl, ?_⟩
  cases he0 : e "table"
  · rw [he0, Bool.false_and] at hq
    exact hq
  rw [he0, Bool.true_and] at hq
  refine ⟨C_Pressed.cl, C_Pressed.na _ (by simp), a1, ha1, C_Pressed.cl, C_Pressed.na _ (by simp), b1, hb1, dEqH_of g1 ?_⟩
  exact hq
end
structure OC_Stages (K : PySem.W.Frag) (mg : Str → Option Value) where
  C : Addr
  f : Addr
  fd : FuncData
  F : FunD K "__init__" "Stages.__init__" (defArgs s_Stages_init) (defBody s_Stages_init) (defScope s_Stages_init) [] [] f fd
  m : mg "Stages" = some (.ref C)
  M : Mk K C f
  cl : Cls K C
  na : ∀ f, f ∈ [("grammar" : Str), ("stages" : Str)] → NoAttr K C f
  v0 : List Value
  w0 : Vals [] v0
  b0 : L2.Binds K fd ["self", "grammar", "stages"] v0
  ins : C8.InsC K C
  fe : Addr
  fde : FuncData
  FE : FunD K "__eq__" "Stages.__eq__" (defArgs s_Stages_eq) (defBody s_Stages_eq) (defScope s_Stages_eq) [] [] fe fde
  ie : PySem.W.findIn K (.ref C) "__eq__" = some (some (.ref fe))
  je : PySem.W.isFn K (.ref fe) = true
  be : L2.Binds K fde ["self", "other"] []
  ne : PySem.W.findIn K (.ref C) "__ne__" = some (some (.builtin "object.__ne__"))
  mo : PySem.W.mroIn K C (.type "object") = some true
def sp_Stages : SpcI := fun δ Q => ∃ d0 d1 : Dt, δ = [.val d0, .val d1] ∧ Q [("grammar", d0), ("stages", d1)]
theorem sc_Stages_init : FnScope ["self", "grammar", "stages"] ["self", "grammar", "stages"] (defScope s_Stages_init) := ⟨rfl, rfl, rfl, by decide +kernel, rfl, by decide +kernel, by decide +kernel⟩
section
variable {P : Program} {w : World} {K : PySem.W.Frag} {mg : Str → Option Value} {base : Heap}
theorem ok_Stages_init (C_Stages : OC_Stages K mg) (T : TB mg) : FnOk P w K mg base CX0 1 C_Stages.f C_Stages.fd ["self", "grammar", "stages"] (dspI K C_Stages.C 2 sp_Stages) := by
  refine fn_init (k := 0) C_Stages.F sc_Stages_init (fun cdv A outer s H E hr => (dss_cons (ds_fld (fun _ => pv 0) (de_var (fun _ => pv 1)))
  (dss_one (ds_fld (fun _ => pv 0) (de_var (fun _ => pv 2)))))) (fun δ Qd a l h => ?_)
  obtain ⟨d0, d1, rfl, hq⟩ := h
  refine ⟨C_Stages.cl, C_Stages.na _ (by simp), (by show 0 < 1000; decide), ?_⟩
  rw [show putA ("grammar" : Str) d0 [] = [(("grammar" : Str), d0)] from pA_rfl rfl]
  refine ⟨C_Stages.cl, C_Stages.na _ (by simp), (by show 1 < 1000; decide), ?_⟩
  rw [show putA ("stages" : Str) d1 [(("grammar" : Str), d0)] = [(("grammar" : Str), d0), (("stages" : Str), d1)] from pA_rfl rfl]
  exact ⟨_, rfl, hq⟩
end
theorem sc_Stages_eq : FnScope ["self", "other"] ["self", "other"] (defScope s_Stages_eq) := ⟨rfl, rfl, rfl, by decide +kernel, rfl, by decide +kernel, by decide +kernel⟩
section
variable {P : Program} {w : World} {K : PySem.W.Frag} {mg : Str → Option Value} {base : Heap}
theorem ok_Stages_eq (C_Stages : OC_Stages K mg) (Kc : Addr → Addr → Prop) (cs : Str → Addr) (FAR : ∀ D, Kc C_Stages.C D → C8.InsC K D ∧ PySem.W.kitOne K (.ref D) (.ref C_Stages.C) = some false) (EQ : ClEqB P w K mg base 6 (P1 Kc cs)) (T : TB mg) : FnOk P w K mg base CX0 11 C_Stages.fe C_Stages.fde ["self", "other"] (dsp K 2 (sp_eq Kc (P1 Kc cs) 4 C_Stages.C ["grammar", "stages"])) := by
  refine fn_d (k := 10) C_Stages.FE sc_Stages_eq (fun cdv A outer s H E hr => (dss_one (ds_ret (de_and (de_isiC (de_var (fun _ => pv 1)) (fun _ => pe_glob (v := .ref C_Stages.C) (by rfl) C_Stages.m rfl) (fun _ => by rfl) (fun _ => T.isinstance)) (de_and (de_cmpC (cd_eqH (n := 4) (fun _ => EQ) (fun _ => hr.mono (by decide))) (de_fld (de_var (fun _ => pv 0))) (de_fld (de_var (fun _ => pv 1))) (nomark _)) (de_one (de_cmpC (cd_eqH (n := 4) (fun _ => EQ) (fun _ => hr.mono (by decide))) (de_fld (de_var (fun _ => pv 0))) (de_fld (de_var (fun _ => pv 1))) (nomark _)))))))) (fun δ Qd l h => ?_)
  obtain ⟨D, fs, gs, b, rfl, hc, hq⟩ := h
  rcases hc with ⟨hk, rfl⟩ | ⟨rfl, e, hf, rfl⟩
  · exact ⟨(FAR D hk).1, false, (FAR D hk).2, false, rfl, hq⟩
  obtain ⟨a0, b0, ha0, hb0, g0⟩ := hf "grammar" (by simp)
  obtain ⟨a1, b1, ha1, hb1, g1⟩ := hf "stages" (by simp)
  simp only [List.all_cons, List.all_nil, Bool.and_true] at hq
  refine ⟨C_Stages.ins, true, kit_self _, true, rfl, ?_⟩
  refine ⟨C_Stages.cl, C_Stages.na _ (by simp), a0, ha0, C_Stages.cl, C_Stages.na _ (by simp), b0, hb0, dEqH_of g0 ?_⟩
  refine ⟨e "grammar", rfl, ?_⟩
  cases he0 : e "grammar"
  · rw [he0, Bool.false_and] at hq
    exact hq
  rw [he0, Bool.true_and] at hq
  refine ⟨C_Stages.cl, C_Stages.na _ (by simp), a1, ha1, C_Stages.cl, C_Stages.na _ (by simp), b1, hb1, dEqH_of g1 ?_⟩
  exact hq
end
structure OC_Entry (K : PySem.W.Frag) (mg : Str → Option Value) where
  C : Addr
  f : Addr
  fd : FuncData
  F : FunD K "__init__" "Entry.__init__" (defArgs s_Entry_init) (defBody s_Entry_init) (defScope s_Entry_init) [] [] f fd
  m : mg "Entry" = some (.ref C)
  M : Mk K C f
  cl : Cls K C
  na : ∀ f, f ∈ [("book" : Str), ("step" : Str), ("lots" : Str)] → NoAttr K C f
  v0 : List Value
  w0 : Vals [] v0
  b0 : L2.Binds K fd ["self", "book", "step", "lots"] v0
  ins : C8.InsC K C
  fe : Addr
  fde : FuncData
  FE : FunD K "__eq__" "Entry.__eq__" (defArgs s_Entry_eq) (defBody s_Entry_eq) (defScope s_Entry_eq) [] [] fe fde
  ie : PySem.W.findIn K (.ref C) "__eq__" = some (some (.ref fe))
  je : PySem.W.isFn K (.ref fe) = true
  be : L2.Binds K fde ["self", "other"] []
  ne : PySem.W.findIn K (.ref C) "__ne__" = some (some (.builtin "object.__ne__"))
  mo : PySem.W.mroIn K C (.type "object") = some true
def sp_Entry : SpcI := fun δ Q => ∃ d0 d1 d2 : Dt, δ = [.val d0, .val d1, .val d2] ∧ Q [("book", d0), ("step", d1), ("lots", d2)]
theorem sc_Entry_init : FnScope ["self", "book", "step", "lots"] ["self", "book", "step", "lots"] (defScope s_Entry_init) := ⟨rfl, rfl, rfl, by decide +kernel, rfl, by decide +kernel, by decide +kernel⟩
section
variable {P : Program} {w : World} {K : PySem.W.Frag} {mg : Str → Option Value} {base : Heap}
theorem ok_Entry_init (C_Entry : OC_Entry K mg) (T : TB mg) : FnOk P w K mg base CX0 1 C_Entry.f C_Entry.fd ["self", "book", "step", "lots"] (dspI K C_Entry.C 3 sp_Entry) := by
  refine fn_init (k := 0) C_Entry.F sc_Entry_init (fun cdv A outer s H E hr => (dss_cons (ds_fld (fun _ => pv 0) (de_var (fun _ => pv 1)))
  (dss_cons (ds_fld (fun _ => pv 0) (de_var (fun _ => pv 2)))
  (dss_one (ds_fld (fun _ => pv 0) (de_var (fun _ => pv 3))))))) (fun δ Qd a l h => ?_)
  obtain ⟨d0, d1, d2, rfl, hq⟩ := h
  refine ⟨C_Entry.cl, C_Entry.na _ (by simp), (by show 0 < 1000; decide), ?_⟩
  rw [show putA ("book" : Str) d0 [] = [(("book" : Str), d0)] from pA_rfl rfl]
  refine ⟨C_Entry.cl, C_Entry.na _ (by simp), (by show 1 < 1000; decide), ?_⟩
  rw [show putA ("step" : Str) d1 [(("book" : Str), d0)] = [(("book" : Str), d0), (("step" : Str), d1)] from pA_rfl rfl]
  refine ⟨C_Entry.cl, C_Entry.na _ (by simp), (by show 2 < 1000; decide), ?_⟩
  rw [show putA ("lots" : Str) d2 [(("book" : Str), d0), (("step" : Str), d1)] = [(("book" : Str), d0), (("step" : Str), d1), (("lots" : Str), d2)] from pA_rfl rfl]
  exact ⟨_, rfl, hq⟩
end
theorem sc_Entry_eq : FnScope ["self", "other"] ["self", "other"] (defScope s_Entry_eq) := ⟨rfl, rfl, rfl, by decide +kernel, rfl, by decide +kernel, by decide +kernel⟩
section
variable {P : Program} {w : World} {K : PySem.W.Frag} {mg : Str → Option Value} {base : Heap}
theorem ok_Entry_eq (C_Entry : OC_Entry K mg) (Kc : Addr → Addr → Prop) (cs : Str → Addr) (FAR : ∀ D, Kc C_Entry.C D → C8.InsC K D ∧ PySem.W.kitOne K (.ref D) (.ref C_Entry.C) = some false) (EQ : ClEqB P w K mg base 6 (P1 Kc cs)) (T : TB mg) : FnOk P w K mg base CX0 11 C_Entry.fe C_Entry.fde ["self", "other"] (dsp K 2 (sp_eq Kc (P1 Kc cs) 4 C_Entry.C ["book", "step", "lots"])) := by
  refine fn_d (k := 10) C_Entry.FE sc_Entry_eq (fun cdv A outer s H E hr => (dss_one (ds_ret (de_and (de_isiC (de_var (fun _ => pv 1)) (fun _ => pe_glob (v := .ref C_Entry.C) (by rfl) C_Entry.m rfl) (fun _ => by rfl) (fun _ => T.isinstance)) (de_and (de_cmpC (cd_eqH (n := 4) (fun _ => EQ) (fun _ => hr.mono (by decide))) (de_fld (de_var (fun _ => pv 0))) (de_fld (de_var (fun _ => pv 1))) (nomark _)) (de_and (de_cmpC (cd_eqH (n := 4) (fun _ => EQ) (fun _ => hr.mono (by decide))) (de_fld (de_var (fun _ => pv 0))) (de_fld (de_var (fun _ => pv 1))) (nomark _)) (de_one (de_cmpC (cd_eqH (n := 4) (fun _ => EQ) (fun _ => hr.mono (by decide))) (de_fld (de_var (fun _ => pv 0))) (de_fld (de_var (fun _ => pv 1))) (nomark _))))))))) (fun δ Qd l h => ?_)
  obtain ⟨D, fs, gs, b, rfl, hc, hq⟩ := h
  rcases hc with ⟨hk, rfl⟩ | ⟨rfl, e, hf, rfl⟩
  · exact ⟨(FAR D hk).1, false, (FAR D hk).2, false, rfl, hq⟩
  obtain ⟨a0, b0, ha0, hb0, g0⟩ := hf "book" (by simp)
  obtain ⟨a1, b1, ha1, hb1, g1⟩ := hf "step" (by simp)
  obtain ⟨a2, b2, ha2, hb2, g2⟩ := hf "lots" (by simp)
  simp only [List.all_cons, List.all_nil, Bool.and_true] at hq
  refine ⟨C_Entry.ins, true, kit_self _, true, rfl, ?_⟩
  refine ⟨C_Entry.cl, C_Entry.na _ (by simp), a0, ha0, C_Entry.cl, C_Entry.na _ (by simp), b0, hb0, dEqH_of g0 ?_⟩
  refine ⟨e "book", rfl, ?_⟩
  cases he0 : e "book"
  · rw [he0, Bool.false_and] at hq
    exact hq
  rw [he0, Bool.true_and] at hq
  refine ⟨C_Entry.cl, C_Entry.na _ (by simp), a1, ha1, C_Entry.cl, C_Entry.na _ (by simp), b1, hb1, dEqH_of g1 ?_⟩
  refine ⟨e "step", rfl, ?_⟩
  cases he1 : e "step"
  · rw [he1, Bool.false_and] at hq
    exact hq
  rw [he1, Bool.true_and] at hq
  refine ⟨C_Entry.cl, C_Entry.na _ (by simp), a2, ha2, C_Entry.cl, C_Entry.na _ (by simp), b2, hb2, dEqH_of g2 ?_⟩
  exact hq
end
structure OC_Root (K : PySem.W.Frag) (mg : Str → Option Value) where
  C : Addr
  f : Addr
  fd : FuncData
  F : FunD K "__init__" "Root.__init__" (defArgs s_Root_init) (defBody s_Root_init) (defScope s_Root_init) [] [] f fd
  m : mg "Root" = some (.ref C)
  M : Mk K C f
  cl : Cls K C
  na : ∀ f, f ∈ [("told" : Str), ("letters" : Str), ("unknowns" : Str), ("spares" : Str), ("empties" : Str)] → NoAttr K C f
  v0 : List Value
  w0 : Vals [] v0
  b0 : L2.Binds K fd ["self", "told", "letters", "unknowns", "spares", "empties"] v0
  ins : C8.InsC K C
  fe : Addr
  fde : FuncData
  FE : FunD K "__eq__" "Root.__eq__" (defArgs s_Root_eq) (defBody s_Root_eq) (defScope s_Root_eq) [] [] fe fde
  ie : PySem.W.findIn K (.ref C) "__eq__" = some (some (.ref fe))
  je : PySem.W.isFn K (.ref fe) = true
  be : L2.Binds K fde ["self", "other"] []
  ne : PySem.W.findIn K (.ref C) "__ne__" = some (some (.builtin "object.__ne__"))
  mo : PySem.W.mroIn K C (.type "object") = some true
def sp_Root : SpcI := fun δ Q => ∃ d0 d1 d2 d3 d4 : Dt, δ = [.val d0, .val d1, .val d2, .val d3, .val d4] ∧ Q [("told", d0), ("letters", d1), ("unknowns", d2), ("spares", d3), ("empties", d4)]
theorem sc_Root_init : FnScope ["self", "told", "letters", "unknowns", "spares", "empties"] ["self", "told", "letters", "unknowns", "spares", "empties"] (defScope s_Root_init) := ⟨rfl, rfl, rfl, by decide +kernel, rfl, by decide +kernel, by decide +kernel⟩
section
variable {P : Program} {w : World} {K : PySem.W.Frag} {mg : Str → Option Value} {base : Heap}
theorem ok_Root_init (C_Root : OC_Root K mg) (T : TB mg) : FnOk P w K mg base CX0 1 C_Root.f C_Root.fd ["self", "told", "letters", "unknowns", "spares", "empties"] (dspI K C_Root.C 5 sp_Root) := by
  refine fn_init (k := 0) C_Root.F sc_Root_init (fun cdv A outer s H E hr => (dss_cons (ds_fld (fun _ => pv 0) (de_var (fun _ => pv 1)))
  (dss_cons (ds_fld (fun _ => pv 0) (de_var (fun _ => pv 2)))
  (dss_cons (ds_fld (fun _ => pv 0) (de_var (fun _ => pv 3)))
  (dss_cons (ds_fld (fun _ => pv 0) (de_var (fun _ => pv 4)))
  (dss_one (ds_fld (fun _ => pv 0) (de_var (fun _ => pv 5))))))))) (fun δ Qd a l h => ?_)
  obtain ⟨d0, d1, d2, d3, d4, rfl, hq⟩ := h
  refine ⟨C_Root.cl, C_Root.na _ (by simp), (by show 0 < 1000; decide), ?_⟩
  rw [show putA ("told" : Str) d0 [] = [(("told" : Str), d0)] from pA_rfl rfl]
  refine ⟨C_Root.cl, C_Root.na _ (by simp), (by show 1 < 1000; decide), ?_⟩
  rw [show putA ("letters" : Str) d1 [(("told" : Str), d0)] = [(("told" : Str), d0), (("letters" : Str), d1)] from pA_rfl rfl]
  refine ⟨C_Root.cl, C_Root.na _ (by simp), (by show 2 < 1000; decide), ?_⟩
  rw [show putA ("unknowns" : Str) d2 [(("told" : Str), d0), (("letters" : Str), d1)] = [(("told" : Str), d0), (("letters" : Str), d1), (("unknowns" : Str), d2)] from pA_rfl rfl]
  refine ⟨C_Root.cl, C_Root.na _ (by simp), (by show 3 < 1000; decide), ?_⟩
  rw [show putA ("spares" : Str) d3 [(("told" : Str), d0), (("letters" : Str), d1), (("unknowns" : Str), d2)] = [(("told" : Str), d0), (("letters" : Str), d1), (("unknowns" : Str), d2), (("spares" : Str), d3)] from pA_rfl rfl]
  refine ⟨C_Root.cl, C_Root.na _ (by simp), (by show 4 < 1000; decide), ?_⟩
  rw [show putA ("empties" : Str) d4 [(("told" : Str), d0), (("letters" : Str), d1), (("unknowns" : Str), d2), (("spares" : Str), d3)] = [(("told" : Str), d0), (("letters" : Str), d1), (("unknowns" : Str), d2), (("spares" : Str), d3), (("empties" : Str), d4)] from pA_rfl rfl]
  exact ⟨_, rfl, hq⟩
end
theorem sc_Root_eq : FnScope ["self", "other"] ["self", "other"] (defScope s_Root_eq) := ⟨rfl, rfl, rfl, by decide +kernel, rfl, by decide +kernel, by decide +kernel⟩
section
variable {P : Program} {w : World} {K : PySem.W.Frag} {mg : Str → Option Value} {base : Heap}
theorem ok_Root_eq (C_Root : OC_Root K mg) (Kc : Addr → Addr → Prop) (cs : Str → Addr) (FAR : ∀ D, Kc C_Root.C D → C8.InsC K D ∧ PySem.W.kitOne K (.ref D) (.ref C_Root.C) = some false) (EQ : ClEqB P w K mg base 6 (P1 Kc cs)) (T : TB mg) : FnOk P w K mg base CX0 11 C_Root.fe C_Root.fde ["self", "other"] (dsp K 2 (sp_eq Kc (P1 Kc cs) 4 C_Root.C ["told", "letters", "unknowns", "spares", "empties"])) := by
  refine fn_d (k := 10) C_Root.FE sc_Root_eq (fun cdv A outer s H E hr => (dss_one (ds_ret (de_and (de_isiC (de_var (fun _ => pv 1)) (fun _ => pe_glob (v := .ref C_Root.C) (by rfl) C_Root.m rfl) (fun _ => by rfl) (fun _ => T.isinstance)) (de_and (de_cmpC (cd_eqH (n := 4) (fun _ => EQ) (fun _ => hr.mono (by decide))) (de_fld (de_var (fun _ => pv 0))) (de_fld (de_var (fun _ => pv 1))) (nomark _)) (de_and (de_cmpC (cd_eqH (n := 4) (fun _ => EQ) (fun _ => hr.mono (by decide))) (de_fld (de_var (fun _ => pv 0))) (de_fld (de_var (fun _ => pv 1))) (nomark _)) (de_and (de_cmpC (cd_eqH (n := 4) (fun _ => EQ) (fun _ => hr.mono (by decide))) (de_fld (de_var (fun _ => pv 0))) (de_fld (de_var (fun _ => pv 1))) (nomark _)) (de_and (de_cmpC (cd_eqH (n := 4) (fun _ => EQ) (fun _ => hr.mono (by decide))) (de_fld (de_var (fun _ => pv 0))) (de_fld (de_var (fun _ => pv 1))) (nomark _)) (de_one (de_cmpC (cd_eqH (n := 4) (fun _ => EQ) (fun _ => hr.mono (by decide))) (de_fld (de_var (fun _ => pv 0))) (de_fld (de_var (fun _ => pv 1))) (nomark _))))))))))) (fun δ Qd l h => ?_)
  obtain ⟨D, fs, gs, b, rfl, hc, hq⟩ := h
  rcases hc with ⟨hk, rfl⟩ | ⟨rfl, e, hf, rfl⟩
  · exact ⟨(FAR D hk).1, false, (FAR D hk).2, false, rfl, hq⟩
  obtain ⟨a0, b0, ha0, hb0, g0⟩ := hf "told" (by simp)
  obtain ⟨a1, b1, ha1, hb1, g1⟩ := hf "letters" (by simp)
  obtain ⟨a2, b2, ha2, hb2, g2⟩ := hf "unknowns" (by simp)
  obtain ⟨a3, b3, ha3, hb3, g3⟩ := hf "spares" (by simp)
  obtain ⟨a4, b4, ha4, hb4, g4⟩ := hf "empties" (by simp)
  simp only [List.all_cons, List.all_nil, Bool.and_true] at hq
  refine ⟨C_Root.ins, true, kit_self _, true, rfl, ?_⟩
  refine ⟨C_Root.cl, C_Root.na _ (by simp), a0, ha0, C_Root.cl, C_Root.na _ (by simp), b0, hb0, dEqH_of g0 ?_⟩
  refine ⟨e "told", rfl, ?_⟩
  cases he0 : e "told"
  · rw [he0, Bool.false_and] at hq
    exact hq
  rw [he0, Bool.true_and] at hq
  refine ⟨C_Root.cl, C_Root.na _ (by simp), a1, ha1, C_Root.cl, C_Root.na _ (by simp), b1, hb1, dEqH_of g1 ?_⟩
  refine ⟨e "letters", rfl, ?_⟩
  cases he1 : e "letters"
  · rw [he1, Bool.false_and] at hq
    exact hq
  rw [he1, Bool.true_and] at hq
  refine ⟨C_Root.cl, C_Root.na _ (by simp), a2, ha2, C_Root.cl, C_Root.na _ (by simp), b2, hb2, dEqH_of g2 ?_⟩
  refine ⟨e "unknowns", rfl, ?_⟩
  cases he2 : e "unknowns"
  · rw [he2, Bool.false_and] at hq
    exact hq
  rw [he2, Bool.true_and] at hq
  refine ⟨C_Root.cl, C_Root.na _ (by simp), a3, ha3, C_Root.cl, C_Root.na _ (by simp), b3, hb3, dEqH_of g3 ?_⟩
  refine ⟨e "spares", rfl, ?_⟩
  cases he3 : e "spares"
  · rw [he3, Bool.false_and] at hq
    exact hq
  rw [he3, Bool.true_and] at hq
  refine ⟨C_Root.cl, C_Root.na _ (by simp), a4, ha4, C_Root.cl, C_Root.na _ (by simp), b4, hb4, dEqH_of g4 ?_⟩
  exact hq
end
structure OC_Found (K : PySem.W.Frag) (mg : Str → Option Value) where
  C : Addr
  f : Addr
  fd : FuncData
  F : FunD K "__init__" "Found.__init__" (defArgs s_Found_init) (defBody s_Found_init) (defScope s_Found_init) [] [] f fd
  m : mg "Found" = some (.ref C)
  M : Mk K C f
  cl : Cls K C
  na : ∀ f, f ∈ [("turns" : Str), ("filling" : Str)] → NoAttr K C f
  v0 : List Value
  w0 : Vals [] v0
  b0 : L2.Binds K fd ["self", "turns", "filling"] v0
  ins : C8.InsC K C
  fe : Addr
  fde : FuncData
  FE : FunD K "__eq__" "Found.__eq__" (defArgs s_Found_eq) (defBody s_Found_eq) (defScope s_Found_eq) [] [] fe fde
  ie : PySem.W.findIn K (.ref C) "__eq__" = some (some (.ref fe))
  je : PySem.W.isFn K (.ref fe) = true
  be : L2.Binds K fde ["self", "other"] []
  ne : PySem.W.findIn K (.ref C) "__ne__" = some (some (.builtin "object.__ne__"))
  mo : PySem.W.mroIn K C (.type "object") = some true
def sp_Found : SpcI := fun δ Q => ∃ d0 d1 : Dt, δ = [.val d0, .val d1] ∧ Q [("turns", d0), ("filling", d1)]
theorem sc_Found_init : FnScope ["self", "turns", "filling"] ["self", "turns", "filling"] (defScope s_Found_init) := ⟨rfl, rfl, rfl, by decide +kernel, rfl, by decide +kernel, by decide +kernel⟩
section
variable {P : Program} {w : World} {K : PySem.W.Frag} {mg : Str → Option Value} {base : Heap}
theorem ok_Found_init (C_Found : OC_Found K mg) (T : TB mg) : FnOk P w K mg base CX0 1 C_Found.f C_Found.fd ["self", "turns", "filling"] (dspI K C_Found.C 2 sp_Found) := by
  refine fn_init (k := 0) C_Found.F sc_Found_init (fun cdv A outer s H E hr => (dss_cons (ds_fld (fun _ => pv 0) (de_var (fun _ => pv 1)))
  (dss_one (ds_fld (fun _ => pv 0) (de_var (fun _ => pv 2)))))) (fun δ Qd a l h => ?_)
  obtain ⟨d0, d1, rfl, hq⟩ := h
  refine ⟨C_Found.cl, C_Found.na _ (by simp), (by show 0 < 1000; decide), ?_⟩
  rw [show putA ("turns" : Str) d0 [] = [(("turns" : Str), d0)] from pA_rfl rfl]
  refine ⟨C_Found.cl, C_Found.na _ (by simp), (by show 1 < 1000; decide), ?_⟩
  rw [show putA ("filling" : Str) d1 [(("turns" : Str), d0)] = [(("turns" : Str), d0), (("filling" : Str), d1)] from pA_rfl rfl]
  exact ⟨_, rfl, hq⟩
end
theorem sc_Found_eq : FnScope ["self", "other"] ["self", "other"] (defScope s_Found_eq) := ⟨rfl, rfl, rfl, by decide +kernel, rfl, by decide +kernel, by decide +kernel⟩
section
variable {P : Program} {w : World} {K : PySem.W.Frag} {mg : Str → Option Value} {base : Heap}
theorem ok_Found_eq (C_Found : OC_Found K mg) (Kc : Addr → Addr → Prop) (cs : Str → Addr) (FAR : ∀ D, Kc C_Found.C D → C8.InsC K D ∧ PySem.W.kitOne K (.ref D) (.ref C_Found.C) = some false) (EQ : ClEqB P w K mg base 12 (P2 Kc cs)) (T : TB mg) : FnOk P w K mg base CX0 17 C_Found.fe C_Found.fde ["self", "other"] (dsp K 2 (sp_eq Kc (P2 Kc cs) 4 C_Found.C ["turns", "filling"])) := by
  refine fn_d (k := 16) C_Found.FE sc_Found_eq (fun cdv A outer s H E hr => (dss_one (ds_ret (de_and (de_isiC (de_var (fun _ => pv 1)) (fun _ => pe_glob (v := .ref C_Found.C) (by rfl) C_Found.m rfl) (fun _ => by rfl) (fun _ => T.isinstance)) (de_and (de_cmpC (cd_eqH (n := 4) (fun _ => EQ) (fun _ => hr.mono (by decide))) (de_fld (de_var (fun _ => pv 0))) (de_fld (de_var (fun _ => pv 1))) (nomark _)) (de_one (de_cmpC (cd_eqH (n := 4) (fun _ => EQ) (fun _ => hr.mono (by decide))) (de_fld (de_var (fun _ => pv 0))) (de_fld (de_var (fun _ => pv 1))) (nomark _)))))))) (fun δ Qd l h => ?_)
  obtain ⟨D, fs, gs, b, rfl, hc, hq⟩ := h
  rcases hc with ⟨hk, rfl⟩ | ⟨rfl, e, hf, rfl⟩
  · exact ⟨(FAR D hk).1, false, (FAR D hk).2, false, rfl, hq⟩
  obtain ⟨a0, b0, ha0, hb0, g0⟩ := hf "turns" (by simp)
  obtain ⟨a1, b1, ha1, hb1, g1⟩ := hf "filling" (by simp)
  simp only [List.all_cons, List.all_nil, Bool.and_true] at hq
  refine ⟨C_Found.ins, true, kit_self _, true, rfl, ?_⟩
  refine ⟨C_Found.cl, C_Found.na _ (by simp), a0, ha0, C_Found.cl, C_Found.na _ (by simp), b0, hb0, dEqH_of g0 ?_⟩
  refine ⟨e "turns", rfl, ?_⟩
  cases he0 : e "turns"
  · rw [he0, Bool.false_and] at hq
    exact hq
  rw [he0, Bool.true_and] at hq
  refine ⟨C_Found.cl, C_Found.na _ (by simp), a1, ha1, C_Found.cl, C_Found.na _ (by simp), b1, hb1, dEqH_of g1 ?_⟩
  exact hq
end
structure OC_Shut (K : PySem.W.Frag) (mg : Str → Option Value) where
  C : Addr
  f : Addr
  fd : FuncData
  F : FunD K "__init__" "Shut.__init__" (defArgs s_Shut_init) (defBody s_Shut_init) (defScope s_Shut_init) [] [] f fd
  m : mg "Shut" = some (.ref C)
  M : Mk K C f
  cl : Cls K C
  na : ∀ f, f ∈ [("paper" : Str)] → NoAttr K C f
  v0 : List Value
  w0 : Vals [] v0
  b0 : L2.Binds K fd ["self", "paper"] v0
  ins : C8.InsC K C
  fe : Addr
  fde : FuncData
  FE : FunD K "__eq__" "Shut.__eq__" (defArgs s_Shut_eq) (defBody s_Shut_eq) (defScope s_Shut_eq) [] [] fe fde
  ie : PySem.W.findIn K (.ref C) "__eq__" = some (some (.ref fe))
  je : PySem.W.isFn K (.ref fe) = true
  be : L2.Binds K fde ["self", "other"] []
  ne : PySem.W.findIn K (.ref C) "__ne__" = some (some (.builtin "object.__ne__"))
  mo : PySem.W.mroIn K C (.type "object") = some true
def sp_Shut : SpcI := fun δ Q => ∃ d0 : Dt, δ = [.val d0] ∧ Q [("paper", d0)]
theorem sc_Shut_init : FnScope ["self", "paper"] ["self", "paper"] (defScope s_Shut_init) := ⟨rfl, rfl, rfl, by decide +kernel, rfl, by decide +kernel, by decide +kernel⟩
section
variable {P : Program} {w : World} {K : PySem.W.Frag} {mg : Str → Option Value} {base : Heap}
theorem ok_Shut_init (C_Shut : OC_Shut K mg) (T : TB mg) : FnOk P w K mg base CX0 1 C_Shut.f C_Shut.fd ["self", "paper"] (dspI K C_Shut.C 1 sp_Shut) := by
  refine fn_init (k := 0) C_Shut.F sc_Shut_init (fun cdv A outer s H E hr => (dss_one (ds_fld (fun _ => pv 0) (de_var (fun _ => pv 1))))) (fun δ Qd a l h => ?_)
  obtain ⟨d0, rfl, hq⟩ := h
  refine ⟨C_Shut.cl, C_Shut.na _ (by simp), (by show 0 < 1000; decide), ?_⟩
  rw [show putA ("paper" : Str) d0 [] = [(("paper" : Str), d0)] from pA_rfl rfl]
  exact ⟨_, rfl, hq⟩
end
theorem sc_Shut_eq : FnScope ["self", "other"] ["self", "other"] (defScope s_Shut_eq) := ⟨rfl, rfl, rfl, by decide +kernel, rfl, by decide +kernel, by decide +kernel⟩
section
variable {P : Program} {w : World} {K : PySem.W.Frag} {mg : Str → Option Value} {base : Heap}
theorem ok_Shut_eq (C_Shut : OC_Shut K mg) (Kc : Addr → Addr → Prop) (cs : Str → Addr) (FAR : ∀ D, Kc C_Shut.C D → C8.InsC K D ∧ PySem.W.kitOne K (.ref D) (.ref C_Shut.C) = some false) (EQ : ClEqB P w K mg base 18 (P3 Kc cs)) (T : TB mg) : FnOk P w K mg base CX0 23 C_Shut.fe C_Shut.fde ["self", "other"] (dsp K 2 (sp_eq Kc (P3 Kc cs) 4 C_Shut.C ["paper"])) := by
  refine fn_d (k := 22) C_Shut.FE sc_Shut_eq (fun cdv A outer s H E hr => (dss_one (ds_ret (de_and (de_isiC (de_var (fun _ => pv 1)) (fun _ => pe_glob (v := .ref C_Shut.C) (by rfl) C_Shut.m rfl) (fun _ => by rfl) (fun _ => T.isinstance)) (de_one (de_cmpC (cd_eqH (n := 4) (fun _ => EQ) (fun _ => hr.mono (by decide))) (de_fld (de_var (fun _ => pv 0))) (de_fld (de_var (fun _ => pv 1))) (nomark _))))))) (fun δ Qd l h => ?_)
  obtain ⟨D, fs, gs, b, rfl, hc, hq⟩ := h
  rcases hc with ⟨hk, rfl⟩ | ⟨rfl, e, hf, rfl⟩
  · exact ⟨(FAR D hk).1, false, (FAR D hk).2, false, rfl, hq⟩
  obtain ⟨a0, b0, ha0, hb0, g0⟩ := hf "paper" (by simp)
  simp only [List.all_cons, List.all_nil, Bool.and_true] at hq
  refine ⟨C_Shut.ins, true, kit_self _, true, rfl, ?_⟩
  refine ⟨C_Shut.cl, C_Shut.na _ (by simp), a0, ha0, C_Shut.cl, C_Shut.na _ (by simp), b0, hb0, dEqH_of g0 ?_⟩
  exact hq
end
structure OC_Book (K : PySem.W.Frag) (mg : Str → Option Value) where
  C : Addr
  f : Addr
  fd : FuncData
  F : FunD K "__init__" "Book.__init__" (defArgs s_Book_init) (defBody s_Book_init) (defScope s_Book_init) [.int 1] [] f fd
  m : mg "Book" = some (.ref C)
  M : Mk K C f
  cl : Cls K C
  na : ∀ f, f ∈ [("rows" : Str), ("deeds" : Str), ("ends" : Str), ("states" : Str)] → NoAttr K C f
  v0 : List Value
  w0 : Vals [] v0
  b0 : L2.Binds K fd ["self", "rows", "deeds", "ends", "states"] v0
  v1 : List Value
  w1 : Vals [.int 1] v1
  b1 : L2.Binds K fd ["self", "rows", "deeds", "ends", "states"] v1
  ins : C8.InsC K C
  fe : Addr
  fde : FuncData
  FE : FunD K "__eq__" "Book.__eq__" (defArgs s_Book_eq) (defBody s_Book_eq) (defScope s_Book_eq) [] [] fe fde
  ie : PySem.W.findIn K (.ref C) "__eq__" = some (some (.ref fe))
  je : PySem.W.isFn K (.ref fe) = true
  be : L2.Binds K fde ["self", "other"] []
  ne : PySem.W.findIn K (.ref C) "__ne__" = some (some (.builtin "object.__ne__"))
  mo : PySem.W.mroIn K C (.type "object") = some true
theorem sc_Book_eq : FnScope ["self", "other"] ["self", "other"] (defScope s_Book_eq) := ⟨rfl, rfl, rfl, by decide +kernel, rfl, by decide +kernel, by decide +kernel⟩
section
variable {P : Program} {w : World} {K : PySem.W.Frag} {mg : Str → Option Value} {base : Heap}
theorem ok_Book_eq (C_Book : OC_Book K mg) (Kc : Addr → Addr → Prop) (cs : Str → Addr) (FAR : ∀ D, Kc C_Book.C D → C8.InsC K D ∧ PySem.W.kitOne K (.ref D) (.ref C_Book.C) = some false) (EQ : ClEqB P w K mg base 0 P0) (T : TB mg) : FnOk P w K mg base CX0 5 C_Book.fe C_Book.fde ["self", "other"] (dsp K 2 (sp_eq Kc P0 4 C_Book.C ["rows", "deeds", "ends", "states"])) := by
  refine fn_d (k := 4) C_Book.FE sc_Book_eq (fun cdv A outer s H E hr => (dss_one (ds_ret (de_and (de_isiC (de_var (fun _ => pv 1)) (fun _ => pe_glob (v := .ref C_Book.C) (by rfl) C_Book.m rfl) (fun _ => by rfl) (fun _ => T.isinstance)) (de_and (de_cmpC (cd_eqH (n := 4) (fun _ => EQ) (fun _ => hr.mono (by decide))) (de_fld (de_var (fun _ => pv 0))) (de_fld (de_var (fun _ => pv 1))) (nomark _)) (de_and (de_cmpC (cd_eqH (n := 4) (fun _ => EQ) (fun _ => hr.mono (by decide))) (de_fld (de_var (fun _ => pv 0))) (de_fld (de_var (fun _ => pv 1))) (nomark _)) (de_and (de_cmpC (cd_eqH (n := 4) (fun _ => EQ) (fun _ => hr.mono (by decide))) (de_fld (de_var (fun _ => pv 0))) (de_fld (de_var (fun _ => pv 1))) (nomark _)) (de_one (de_cmpC (cd_eqH (n := 4) (fun _ => EQ) (fun _ => hr.mono (by decide))) (de_fld (de_var (fun _ => pv 0))) (de_fld (de_var (fun _ => pv 1))) (nomark _)))))))))) (fun δ Qd l h => ?_)
  obtain ⟨D, fs, gs, b, rfl, hc, hq⟩ := h
  rcases hc with ⟨hk, rfl⟩ | ⟨rfl, e, hf, rfl⟩
  · exact ⟨(FAR D hk).1, false, (FAR D hk).2, false, rfl, hq⟩
  obtain ⟨a0, b0, ha0, hb0, g0⟩ := hf "rows" (by simp)
  obtain ⟨a1, b1, ha1, hb1, g1⟩ := hf "deeds" (by simp)
  obtain ⟨a2, b2, ha2, hb2, g2⟩ := hf "ends" (by simp)
  obtain ⟨a3, b3, ha3, hb3, g3⟩ := hf "states" (by simp)
  simp only [List.all_cons, List.all_nil, Bool.and_true] at hq
  refine ⟨C_Book.ins, true, kit_self _, true, rfl, ?_⟩
  refine ⟨C_Book.cl, C_Book.na _ (by simp), a0, ha0, C_Book.cl, C_Book.na _ (by simp), b0, hb0, dEqH_of g0 ?_⟩
  refine ⟨e "rows", rfl, ?_⟩
  cases he0 : e "rows"
  · rw [he0, Bool.false_and] at hq
    exact hq
  rw [he0, Bool.true_and] at hq
  refine ⟨C_Book.cl, C_Book.na _ (by simp), a1, ha1, C_Book.cl, C_Book.na _ (by simp), b1, hb1, dEqH_of g1 ?_⟩
  refine ⟨e "deeds", rfl, ?_⟩
  cases he1 : e "deeds"
  · rw [he1, Bool.false_and] at hq
    exact hq
  rw [he1, Bool.true_and] at hq
  refine ⟨C_Book.cl, C_Book.na _ (by simp), a2, ha2, C_Book.cl, C_Book.na _ (by simp), b2, hb2, dEqH_of g2 ?_⟩
  refine ⟨e "ends", rfl, ?_⟩
  cases he2 : e "ends"
  · rw [he2, Bool.false_and] at hq
    exact hq
  rw [he2, Bool.true_and] at hq
  refine ⟨C_Book.cl, C_Book.na _ (by simp), a3, ha3, C_Book.cl, C_Book.na _ (by simp), b3, hb3, dEqH_of g3 ?_⟩
  exact hq
end
structure OC_Grammar (K : PySem.W.Frag) (mg : Str → Option Value) where
  C : Addr
  f : Addr
  fd : FuncData
  F : FunD K "__init__" "Grammar.__init__" (defArgs s_Grammar_init) (defBody s_Grammar_init) (defScope s_Grammar_init) [] [] f fd
  m : mg "Grammar" = some (.ref C)
  M : Mk K C f
  cl : Cls K C
  na : ∀ f, f ∈ [("rules" : Str), ("lengths" : Str)] → NoAttr K C f
  v0 : List Value
  w0 : Vals [] v0
  b0 : L2.Binds K fd ["self", "rules"] v0
  ins : C8.InsC K C
  fe : Addr
  fde : FuncData
  FE : FunD K "__eq__" "Grammar.__eq__" (defArgs s_Grammar_eq) (defBody s_Grammar_eq) (defScope s_Grammar_eq) [] [] fe fde
  ie : PySem.W.findIn K (.ref C) "__eq__" = some (some (.ref fe))
  je : PySem.W.isFn K (.ref fe) = true
  be : L2.Binds K fde ["self", "other"] []
  ne : PySem.W.findIn K (.ref C) "__ne__" = some (some (.builtin "object.__ne__"))
  mo : PySem.W.mroIn K C (.type "object") = some true
theorem sc_Grammar_eq : FnScope ["self", "other"] ["self", "other"] (defScope s_Grammar_eq) := ⟨rfl, rfl, rfl, by decide +kernel, rfl, by decide +kernel, by decide +kernel⟩
section
variable {P : Program} {w : World} {K : PySem.W.Frag} {mg : Str → Option Value} {base : Heap}
theorem ok_Grammar_eq (C_Grammar : OC_Grammar K mg) (Kc : Addr → Addr → Prop) (cs : Str → Addr) (FAR : ∀ D, Kc C_Grammar.C D → C8.InsC K D ∧ PySem.W.kitOne K (.ref D) (.ref C_Grammar.C) = some false) (EQ : ClEqB P w K mg base 0 P0) (T : TB mg) : FnOk P w K mg base CX0 5 C_Grammar.fe C_Grammar.fde ["self", "other"] (dsp K 2 (sp_eq Kc P0 4 C_Grammar.C ["rules"])) := by
  refine fn_d (k := 4) C_Grammar.FE sc_Grammar_eq (fun cdv A outer s H E hr => (dss_one (ds_ret (de_and (de_isiC (de_var (fun _ => pv 1)) (fun _ => pe_glob (v := .ref C_Grammar.C) (by rfl) C_Grammar.m rfl) (fun _ => by rfl) (fun _ => T.isinstance)) (de_one (de_cmpC (cd_eqH (n := 4) (fun _ => EQ) (fun _ => hr.mono (by decide))) (de_fld (de_var (fun _ => pv 0))) (de_fld (de_var (fun _ => pv 1))) (nomark _))))))) (fun δ Qd l h => ?_)
  obtain ⟨D, fs, gs, b, rfl, hc, hq⟩ := h
  rcases hc with ⟨hk, rfl⟩ | ⟨rfl, e, hf, rfl⟩
  · exact ⟨(FAR D hk).1, false, (FAR D hk).2, false, rfl, hq⟩
  obtain ⟨a0, b0, ha0, hb0, g0⟩ := hf "rules" (by simp)
  simp only [List.all_cons, List.all_nil, Bool.and_true] at hq
  refine ⟨C_Grammar.ins, true, kit_self _, true, rfl, ?_⟩
  refine ⟨C_Grammar.cl, C_Grammar.na _ (by simp), a0, ha0, C_Grammar.cl, C_Grammar.na _ (by simp), b0, hb0, dEqH_of g0 ?_⟩
  exact hq
end
structure OC_Filling (K : PySem.W.Frag) (mg : Str → Option Value) where
  C : Addr
  f : Addr
  fd : FuncData
  F : FunD K "__init__" "Filling.__init__" (defArgs s_Filling_init) (defBody s_Filling_init) (defScope s_Filling_init) [] [] f fd
  m : mg "Filling" = some (.ref C)
  M : Mk K C f
  cl : Cls K C
  na : ∀ f, f ∈ [("grammar" : Str), ("words" : Str)] → NoAttr K C f
  v0 : List Value
  w0 : Vals [] v0
  b0 : L2.Binds K fd ["self", "grammar", "words"] v0
  ins : C8.InsC K C
  fe : Addr
  fde : FuncData
  FE : FunD K "__eq__" "Filling.__eq__" (defArgs s_Filling_eq) (defBody s_Filling_eq) (defScope s_Filling_eq) [] [] fe fde
  ie : PySem.W.findIn K (.ref C) "__eq__" = some (some (.ref fe))
  je : PySem.W.isFn K (.ref fe) = true
  be : L2.Binds K fde ["self", "other"] []
  ne : PySem.W.findIn K (.ref C) "__ne__" = some (some (.builtin "object.__ne__"))
  mo : PySem.W.mroIn K C (.type "object") = some true
theorem sc_Filling_eq : FnScope ["self", "other"] ["self", "other"] (defScope s_Filling_eq) := ⟨rfl, rfl, rfl, by decide +kernel, rfl, by decide +kernel, by decide +kernel⟩
section
variable {P : Program} {w : World} {K : PySem.W.Frag} {mg : Str → Option Value} {base : Heap}
theorem ok_Filling_eq (C_Filling : OC_Filling K mg) (Kc : Addr → Addr → Prop) (cs : Str → Addr) (FAR : ∀ D, Kc C_Filling.C D → C8.InsC K D ∧ PySem.W.kitOne K (.ref D) (.ref C_Filling.C) = some false) (EQ : ClEqB P w K mg base 6 (P1 Kc cs)) (T : TB mg) : FnOk P w K mg base CX0 11 C_Filling.fe C_Filling.fde ["self", "other"] (dsp K 2 (sp_eq Kc (P1 Kc cs) 4 C_Filling.C ["grammar", "words"])) := by
  refine fn_d (k := 10) C_Filling.FE sc_Filling_eq (fun cdv A outer s H E hr => (dss_one (ds_ret (de_and (de_isiC (de_var (fun _ => pv 1)) (fun _ => pe_glob (v := .ref C_Filling.C) (by rfl) C_Filling.m rfl) (fun _ => by rfl) (fun _ => T.isinstance)) (de_and (de_cmpC (cd_eqH (n := 4) (fun _ => EQ) (fun _ => hr.mono (by decide))) (de_fld (de_var (fun _ => pv 0))) (de_fld (de_var (fun _ => pv 1))) (nomark _)) (de_one (de_cmpC (cd_eqH (n := 4) (fun _ => EQ) (fun _ => hr.mono (by decide))) (de_fld (de_var (fun _ => pv 0))) (de_fld (de_var (fun _ => pv 1))) (nomark _)))))))) (fun δ Qd l h => ?_)
  obtain ⟨D, fs, gs, b, rfl, hc, hq⟩ := h
  rcases hc with ⟨hk, rfl⟩ | ⟨rfl, e, hf, rfl⟩
  · exact ⟨(FAR D hk).1, false, (FAR D hk).2, false, rfl, hq⟩
  obtain ⟨a0, b0, ha0, hb0, g0⟩ := hf "grammar" (by simp)
  obtain ⟨a1, b1, ha1, hb1, g1⟩ := hf "words" (by simp)
  simp only [List.all_cons, List.all_nil, Bool.and_true] at hq
  refine ⟨C_Filling.ins, true, kit_self _, true, rfl, ?_⟩
  refine ⟨C_Filling.cl, C_Filling.na _ (by simp), a0, ha0, C_Filling.cl, C_Filling.na _ (by simp), b0, hb0, dEqH_of g0 ?_⟩
  refine ⟨e "grammar", rfl, ?_⟩
  cases he0 : e "grammar"
  · rw [he0, Bool.false_and] at hq
    exact hq
  rw [he0, Bool.true_and] at hq
  refine ⟨C_Filling.cl, C_Filling.na _ (by simp), a1, ha1, C_Filling.cl, C_Filling.na _ (by simp), b1, hb1, dEqH_of g1 ?_⟩
  exact hq
end
structure OC_Paper (K : PySem.W.Frag) (mg : Str → Option Value) where
  C : Addr
  f : Addr
  fd : FuncData
  F : FunD K "__init__" "Paper.__init__" (defArgs s_Paper_init) (defBody s_Paper_init) (defScope s_Paper_init) [] [] f fd
  m : mg "Paper" = some (.ref C)
  M : Mk K C f
  cl : Cls K C
  na : ∀ f, f ∈ [("deeds" : Str), ("entries" : Str)] → NoAttr K C f
  v0 : List Value
  w0 : Vals [] v0
  b0 : L2.Binds K fd ["self", "deeds", "entries"] v0
  ins : C8.InsC K C
  fe : Addr
  fde : FuncData
  FE : FunD K "__eq__" "Paper.__eq__" (defArgs s_Paper_eq) (defBody s_Paper_eq) (defScope s_Paper_eq) [] [] fe fde
  ie : PySem.W.findIn K (.ref C) "__eq__" = some (some (.ref fe))
  je : PySem.W.isFn K (.ref fe) = true
  be : L2.Binds K fde ["self", "other"] []
  ne : PySem.W.findIn K (.ref C) "__ne__" = some (some (.builtin "object.__ne__"))
  mo : PySem.W.mroIn K C (.type "object") = some true
theorem sc_Paper_eq : FnScope ["self", "other"] ["self", "other"] (defScope s_Paper_eq) := ⟨rfl, rfl, rfl, by decide +kernel, rfl, by decide +kernel, by decide +kernel⟩
section
variable {P : Program} {w : World} {K : PySem.W.Frag} {mg : Str → Option Value} {base : Heap}
theorem ok_Paper_eq (C_Paper : OC_Paper K mg) (Kc : Addr → Addr → Prop) (cs : Str → Addr) (FAR : ∀ D, Kc C_Paper.C D → C8.InsC K D ∧ PySem.W.kitOne K (.ref D) (.ref C_Paper.C) = some false) (EQ : ClEqB P w K mg base 12 (P2 Kc cs)) (T : TB mg) : FnOk P w K mg base CX0 17 C_Paper.fe C_Paper.fde ["self", "other"] (dsp K 2 (sp_eq Kc (P2 Kc cs) 4 C_Paper.C ["deeds", "entries"])) := by
  refine fn_d (k := 16) C_Paper.FE sc_Paper_eq (fun cdv A outer s H E hr => (dss_one (ds_ret (de_and (de_isiC (de_var (fun _ => pv 1)) (fun _ => pe_glob (v := .ref C_Paper.C) (by rfl) C_Paper.m rfl) (fun _ => by rfl) (fun _ => T.isinstance)) (de_and (de_cmpC (cd_eqH (n := 4) (fun _ => EQ) (fun _ => hr.mono (by decide))) (de_fld (de_var (fun _ => pv 0))) (de_fld (de_var (fun _ => pv 1))) (nomark _)) (de_one (de_cmpC (cd_eqH (n := 4) (fun _ => EQ) (fun _ => hr.mono (by decide))) (de_fld (de_var (fun _ => pv 0))) (de_fld (de_var (fun _ => pv 1))) (nomark _)))))))) (fun δ Qd l h => ?_)
  obtain ⟨D, fs, gs, b, rfl, hc, hq⟩ := h
  rcases hc with ⟨hk, rfl⟩ | ⟨rfl, e, hf, rfl⟩
  · exact ⟨(FAR D hk).1, false, (FAR D hk).2, false, rfl, hq⟩
  obtain ⟨a0, b0, ha0, hb0, g0⟩ := hf "deeds" (by simp)
  obtain ⟨a1, b1, ha1, hb1, g1⟩ := hf "entries" (by simp)
  simp only [List.all_cons, List.all_nil, Bool.and_true] at hq
  refine ⟨C_Paper.ins, true, kit_self _, true, rfl, ?_⟩
  refine ⟨C_Paper.cl, C_Paper.na _ (by simp), a0, ha0, C_Paper.cl, C_Paper.na _ (by simp), b0, hb0, dEqH_of g0 ?_⟩
  refine ⟨e "deeds", rfl, ?_⟩
  cases he0 : e "deeds"
  · rw [he0, Bool.false_and] at hq
    exact hq
  rw [he0, Bool.true_and] at hq
  refine ⟨C_Paper.cl, C_Paper.na _ (by simp), a1, ha1, C_Paper.cl, C_Paper.na _ (by simp), b1, hb1, dEqH_of g1 ?_⟩
  exact hq
end
end My
set_option maxHeartbeats 4000000
namespace My
open PySem PySem.Spec PyProof.Rows L2 Lcn Sq Dl
def sp_is_whole : Spc := fun δ Q => ∃ i : Int, δ = [.val (.int i)] ∧ Q (.bl true)
def sp_is_sequence : Spc := fun δ Q => ∃ (d : Dt) (ds : List Dt), δ = [.val d] ∧ itemsD d = some ds ∧ Q (.bl true)
def sp_is_couple : Spc := fun δ Q => ∃ (d : Dt) (ds : List Dt), δ = [.val d] ∧ itemsD d = some ds ∧ ds.length = 2 ∧ Q (.bl true)
theorem sc_is_whole : FnScope ["thing"] ["thing"] (defScope s_is_whole) := ⟨rfl, rfl, rfl, by decide +kernel, rfl, by decide +kernel, by decide +kernel⟩
section
variable {P : Program} {w : World} {K : PySem.W.Frag} {mg : Str → Option Value} {base : Heap}
theorem ok_is_whole (D_is_whole : Dn K mg "is_whole" s_is_whole ["thing"]) (T : TB mg) : FnOk P w K mg base CX0 1 D_is_whole.f D_is_whole.fd ["thing"] (dsp K 1 sp_is_whole) := by
  refine fn_d (k := 0) (N := ["thing"]) D_is_whole.F sc_is_whole (fun cdv A outer s H E hr => (dss_one (ds_ret (de_and (de_isi1 (de_var (fun _ => pv 0)) (fun _ => pe_bltn (v := .ty "int") (by rfl) T.int (by decide +kernel) rfl) (fun _ => by rfl) (fun _ => T.isinstance)) (de_one (de_not (de_isi1 (de_var (fun _ => pv 0)) (fun _ => pe_bltn (v := .ty "bool") (by rfl) T.bool (by decide +kernel) rfl) (fun _ => by rfl) (fun _ => T.isinstance)))))))) (fun δ Qd l h => ?_)
  obtain ⟨i, rfl, hq⟩ := h
  exact ⟨_, rfl, _, rfl, ite_t rfl ⟨_, rfl, _, rfl, hq⟩⟩
end
theorem sc_is_sequence : FnScope ["thing"] ["thing"] (defScope s_is_sequence) := ⟨rfl, rfl, rfl, by decide +kernel, rfl, by decide +kernel, by decide +kernel⟩
section
variable {P : Program} {w : World} {K : PySem.W.Frag} {mg : Str → Option Value} {base : Heap}
theorem ok_is_sequence (D_is_sequence : Dn K mg "is_sequence" s_is_sequence ["thing"]) (T : TB mg) : FnOk P w K mg base CX0 1 D_is_sequence.f D_is_sequence.fd ["thing"] (dsp K 1 sp_is_sequence) := by
  refine fn_d (k := 0) (N := ["thing"]) D_is_sequence.F sc_is_sequence (fun cdv A outer s H E hr => (dss_one (ds_ret (de_isi2 (de_var (fun _ => pv 0)) (fun _ => pe_bltn (v := .ty "list") (by rfl) T.list_ (by decide +kernel) rfl) (fun _ => pe_bltn (v := .ty "tuple") (by rfl) T.tuple_ (by decide +kernel) rfl) (fun _ => by rfl) (fun _ => T.isinstance))))) (fun δ Qd l h => ?_)
  obtain ⟨d, ds, rfl, hd, hq⟩ := h
  exact ⟨true, isi_seq hd, hq⟩
end
def sp_is_state : Spc := fun δ Q => ∃ i n : Int, δ = [.val (.int i), .val (.int n)] ∧ 0 ≤ i ∧ i < n ∧ Q (.bl true)
def sp_is_deed : Spc := fun δ Q => ∃ (d : Dt) (ns : List Int) (n : Int), δ = [.val d, .val (.int n)] ∧ IntsD d ns ∧ (ns.length : Int) = n ∧ ns.length < 1000 ∧ (∀ i, i ∈ ns → 0 ≤ i ∧ i < n) ∧ Q (.bl true)
/-- one behind the other less -/
def Asc (ns : List Int) : Prop := ∀ (i : Nat) (x y : Int), ns[i]? = some x → ns[i + 1]? = some y → x < y
def sp_is_goals : Spc := fun δ Q => ∃ (d : Dt) (ns : List Int) (n : Int), δ = [.val d, .val (.int n)] ∧ IntsD d ns ∧ ns.length < 1000 ∧ (∀ i, i ∈ ns → 0 ≤ i ∧ i < n) ∧ Asc ns ∧ Q (.bl true)
def sp_is_side : Spc := fun δ Q => ∃ (d : Dt) (ns : List Int), δ = [.val d] ∧ IntsD d ns ∧ ns.length < 1000 ∧ Q (.bl true)
theorem all_bl {n : Nat} {Q : Dt → Prop} (q : Q (.bl true)) : dAll [.lst ((List.replicate n true).map .bl)] Q := ⟨_, rfl, by
  have : (List.replicate n true).all id = true := by simp
  rw [this]
  exact q⟩
theorem pA0 {f : Str} {d : Dt} : putA f d [] = [(f, d)] := rfl
theorem pA1 {d e : Dt} : putA ("deeds" : Str) d [(("rows" : Str), e)] = [(("rows" : Str), e), (("deeds" : Str), d)] := by
  rw [putA, if_neg (by decide), pA0]
theorem pA2 {d e g : Dt} : putA ("ends" : Str) d [(("rows" : Str), e), (("deeds" : Str), g)] = [(("rows" : Str), e), (("deeds" : Str), g), (("ends" : Str), d)] := by
  rw [putA, if_neg (by decide), putA, if_neg (by decide), pA0]
theorem pA3 {d e g h : Dt} : putA ("states" : Str) d [(("rows" : Str), e), (("deeds" : Str), g), (("ends" : Str), h)] = [(("rows" : Str), e), (("deeds" : Str), g), (("ends" : Str), h), (("states" : Str), d)] := by
  rw [putA, if_neg (by decide), putA, if_neg (by decide), putA, if_neg (by decide), pA0]
theorem putA_le {f : Str} {d : Dt} : ∀ {es : List (Str × Dt)}, (putA f d es).length ≤ es.length + 1
  | [] => Nat.le_refl _
  | (g, e) :: r => by
    unfold putA
    split
    · exact Nat.le_succ _
    · exact Nat.succ_le_succ putA_le
theorem flat_bd {α : Type} {xs : List α} {f : α → List Dt} {c : Nat} (h : ∀ x, x ∈ xs → (f x).length ≤ c) : (xs.map f).flatten.length ≤ c * xs.length := by
  induction xs with
  | nil => simp
  | cons x xs ih =>
    rw [List.map_cons, List.flatten_cons, List.length_append, List.length_cons, Nat.mul_succ]
    have := ih fun y m => h y (List.mem_cons_of_mem _ m)
    have := h x (List.mem_cons_self ..)
    omega
theorem flat_bl {α β : Type} (xs : List α) (g : α → List β) : (xs.map fun p => (g p).map fun _ => Dt.bl true).flatten = (List.replicate (xs.map fun p => (g p).map fun _ => Dt.bl true).flatten.length true).map Dt.bl := by
  rw [List.map_replicate, List.eq_replicate_iff]
  refine ⟨rfl, fun b hb => ?_⟩
  obtain ⟨l, hl, hb⟩ := List.mem_flatten.mp hb
  obtain ⟨p, _, rfl⟩ := List.mem_map.mp hl
  obtain ⟨_, _, rfl⟩ := List.mem_map.mp hb
  rfl
theorem one_flat {α : Type} (xs : List α) : (xs.map fun _ => [Dt.bl true]).flatten = xs.map fun _ => Dt.bl true := by
  induction xs with
  | nil => rfl
  | cons x xs ih =>
    rw [List.map_cons, List.flatten_cons, ih]
    rfl
theorem sc_is_couple : FnScope ["thing"] ["thing"] (defScope s_is_couple) := ⟨rfl, rfl, rfl, by decide +kernel, rfl, by decide +kernel, by decide +kernel⟩
section
variable {P : Program} {w : World} {K : PySem.W.Frag} {mg : Str → Option Value} {base : Heap}
theorem ok_is_couple (D_is_couple : Dn K mg "is_couple" s_is_couple ["thing"]) (D_is_sequence : Dn K mg "is_sequence" s_is_sequence ["thing"]) (G_is_sequence : FnOk P w K mg base CX0 1 D_is_sequence.f D_is_sequence.fd ["thing"] (dsp K 1 sp_is_sequence)) (T : TB mg) : FnOk P w K mg base CX0 2 D_is_couple.f D_is_couple.fd ["thing"] (dsp K 1 sp_is_couple) := by
  refine fn_d (k := 1) (N := ["thing"]) D_is_couple.F sc_is_couple (fun cdv A outer s H E hr => (dss_one (ds_ret (de_and (de_call (fun _ pa => pe_call G_is_sequence (hr.mono (by decide)) (by rfl) D_is_sequence.m D_is_sequence.F.kp D_is_sequence.b .nil pass0 pa) (dl_val (de_var (fun _ => pv 0)) dl_nil)) (de_one (de_cmpC (cd_eq (fun _ => ru64 hr)) (de_callB (fun _ => cr_len rfl) rc_len (fun _ => by rfl) (fun _ => T.len) PySem.boot_len (da_cons (de_var (fun _ => pv 0)) da_nil)) de_int (nomark _))))))) (fun δ Qd l h => ?_)
  obtain ⟨d, ds, rfl, hd, hl, hq⟩ := h
  have e : decide ((ds.length : Int) = 2) = true := decide_eq_true (by omega)
  refine ⟨rfl, d, ds, rfl, hd, _, rfl, ite_t rfl ?_⟩
  rcases items_cases hd with rfl | rfl
  all_goals exact dEq_int true e hq
end
theorem sc_is_state : FnScope ["thing", "states"] ["thing", "states"] (defScope s_is_state) := ⟨rfl, rfl, rfl, by decide +kernel, rfl, by decide +kernel, by decide +kernel⟩
section
variable {P : Program} {w : World} {K : PySem.W.Frag} {mg : Str → Option Value} {base : Heap}
theorem ok_is_state (D_is_state : Dn K mg "is_state" s_is_state ["thing", "states"]) (D_is_whole : Dn K mg "is_whole" s_is_whole ["thing"]) (G_is_whole : FnOk P w K mg base CX0 1 D_is_whole.f D_is_whole.fd ["thing"] (dsp K 1 sp_is_whole)) (T : TB mg) : FnOk P w K mg base CX0 2 D_is_state.f D_is_state.fd ["thing", "states"] (dsp K 2 sp_is_state) := by
  refine fn_d (k := 1) (N := ["thing", "states"]) D_is_state.F sc_is_state (fun cdv A outer s H E hr => (dss_one (ds_ret (de_and (de_call (fun _ pa => pe_call G_is_whole (hr.mono (by decide)) (by rfl) D_is_whole.m D_is_whole.F.kp D_is_whole.b .nil pass0 pa) (dl_val (de_var (fun _ => pv 0)) dl_nil)) (de_one (de_chainC cd_le cd_lt de_int (de_var (fun _ => pv 0)) (de_var (fun _ => pv 1)))))))) (fun δ Qd l h => ?_)
  obtain ⟨i, n, rfl, h0, h1, hq⟩ := h
  refine ⟨rfl, i, rfl, _, rfl, ite_t rfl ?_⟩
  have e : decide (i < n) = true := decide_eq_true h1
  refine ⟨_, rfl, ite_t (decide_eq_true h0) ?_⟩
  show Qd (.bl (decide (i < n)))
  rw [e]
  exact hq
end
theorem sc_is_deed : FnScope ["thing", "states", "state"] ["thing", "states"] (defScope s_is_deed) := ⟨rfl, rfl, rfl, by decide +kernel, rfl, by decide +kernel, by decide +kernel⟩
section
variable {P : Program} {w : World} {K : PySem.W.Frag} {mg : Str → Option Value} {base : Heap}
theorem ok_is_deed (D_is_deed : Dn K mg "is_deed" s_is_deed ["thing", "states"]) (D_is_state : Dn K mg "is_state" s_is_state ["thing", "states"]) (G_is_state : FnOk P w K mg base CX0 2 D_is_state.f D_is_state.fd ["thing", "states"] (dsp K 2 sp_is_state)) (D_is_sequence : Dn K mg "is_sequence" s_is_sequence ["thing"]) (G_is_sequence : FnOk P w K mg base CX0 1 D_is_sequence.f D_is_sequence.fd ["thing"] (dsp K 1 sp_is_sequence)) (T : TB mg) : FnOk P w K mg base CX0 3 D_is_deed.f D_is_deed.fd ["thing", "states"] (dsp K 2 sp_is_deed) := by
  refine fn_d (k := 2) (N := ["thing", "states", "state"]) D_is_deed.F sc_is_deed (fun cdv A outer s H E hr => (dss_one (ds_ret (de_and (de_call (fun _ pa => pe_call G_is_sequence (hr.mono (by decide)) (by rfl) D_is_sequence.m D_is_sequence.F.kp D_is_sequence.b .nil pass0 pa) (dl_val (de_var (fun _ => pv 0)) dl_nil)) (de_and (de_cmpC (cd_eq (fun _ => ru64 hr)) (de_callB (fun _ => cr_len rfl) rc_len (fun _ => by rfl) (fun _ => T.len) PySem.boot_len (da_cons (de_var (fun _ => pv 0)) da_nil)) (de_var (fun _ => pv 1)) (nomark _)) (de_one (de_callB (fun _ => cr_allK2 rfl rfl) rc_all (fun _ => by rfl) (fun _ => T.all_) (by decide +kernel) (da_cons (de_n (dn_lc (o := true) (own := [(("state" : Str), 2)]) (fun _ => rfl) (fun _ => sc_is_deed.nd) (di_seq (de_var (fun _ => pv 0))) (fun _ => (blkOk_by (own := [(("state" : Str), 2)]) (N := ["thing", "states", "state"]) (sc := defScope s_is_deed) (by decide +kernel))) (dg_name (i := 2) (fun _ => pg_name sc_is_deed.nd rfl (by first | exact Or.inl rfl | exact Or.inr rfl))) dts_nil (de_call (fun _ pa => pe_call G_is_state (hr.mono (by decide)) (by rfl) D_is_state.m D_is_state.F.kp D_is_state.b .nil pass0 pa) (dl_val (de_var (fun _ => pv 2)) (dl_val (de_var (fun _ => pv 1)) dl_nil))) (by decide))) da_nil)))))))) (fun δ Qd l h => ?_)
  obtain ⟨d, ns, n, rfl, hd, hl, hz, hs, hq⟩ := h
  refine ⟨rfl, d, _, rfl, hd, _, rfl, ite_t rfl ?_⟩
  have el : (ns.map Dt.int).length = ns.length := List.length_map ..
  have hsz : (ns.map Dt.int).length < sizeLine := by rw [el]; exact k1000 hz
  have e : decide (((ns.map Dt.int).length : Int) = n) = true := decide_eq_true (by rw [el]; exact hl)
  rcases items_cases hd with rfl | rfl
  all_goals
    refine dEq_int true e ⟨_, rfl, ite_t rfl ?_⟩
    refine ⟨rfl, hsz, ?_⟩
    refine lc_map (fun _ : Int => Dt.bl true) ns (fun i m Q q => ⟨rfl, i, n, rfl, (hs i m).1, (hs i m).2, q⟩) ?_
    rw [rep_bl]
    exact all_bl hq
end
theorem sc_is_side : FnScope ["thing", "sign"] ["thing"] (defScope s_is_side) := ⟨rfl, rfl, rfl, by decide +kernel, rfl, by decide +kernel, by decide +kernel⟩
section
variable {P : Program} {w : World} {K : PySem.W.Frag} {mg : Str → Option Value} {base : Heap}
theorem ok_is_side (D_is_side : Dn K mg "is_side" s_is_side ["thing"]) (D_is_whole : Dn K mg "is_whole" s_is_whole ["thing"]) (G_is_whole : FnOk P w K mg base CX0 1 D_is_whole.f D_is_whole.fd ["thing"] (dsp K 1 sp_is_whole)) (D_is_sequence : Dn K mg "is_sequence" s_is_sequence ["thing"]) (G_is_sequence : FnOk P w K mg base CX0 1 D_is_sequence.f D_is_sequence.fd ["thing"] (dsp K 1 sp_is_sequence)) (T : TB mg) : FnOk P w K mg base CX0 2 D_is_side.f D_is_side.fd ["thing"] (dsp K 1 sp_is_side) := by
  refine fn_d (k := 1) (N := ["thing", "sign"]) D_is_side.F sc_is_side (fun cdv A outer s H E hr => (dss_one (ds_ret (de_and (de_call (fun _ pa => pe_call G_is_sequence (hr.mono (by decide)) (by rfl) D_is_sequence.m D_is_sequence.F.kp D_is_sequence.b .nil pass0 pa) (dl_val (de_var (fun _ => pv 0)) dl_nil)) (de_one (de_callB (fun _ => cr_allK2 rfl rfl) rc_all (fun _ => by rfl) (fun _ => T.all_) (by decide +kernel) (da_cons (de_n (dn_lc (o := true) (own := [(("sign" : Str), 1)]) (fun _ => rfl) (fun _ => sc_is_side.nd) (di_seq (de_var (fun _ => pv 0))) (fun _ => (blkOk_by (own := [(("sign" : Str), 1)]) (N := ["thing", "sign"]) (sc := defScope s_is_side) (by decide +kernel))) (dg_name (i := 1) (fun _ => pg_name sc_is_side.nd rfl (by first | exact Or.inl rfl | exact Or.inr rfl))) dts_nil (de_call (fun _ pa => pe_call G_is_whole (hr.mono (by decide)) (by rfl) D_is_whole.m D_is_whole.F.kp D_is_whole.b .nil pass0 pa) (dl_val (de_var (fun _ => pv 1)) dl_nil)) (by decide))) da_nil))))))) (fun δ Qd l h => ?_)
  obtain ⟨d, ns, rfl, hd, hz, hq⟩ := h
  refine ⟨rfl, d, _, rfl, hd, _, rfl, ite_t rfl ?_⟩
  have hsz : (ns.map Dt.int).length < sizeLine := by rw [List.length_map]; exact k1000 hz
  rcases items_cases hd with rfl | rfl
  all_goals
    refine ⟨rfl, hsz, ?_⟩
    refine lc_map (fun _ : Int => Dt.bl true) ns (fun i m Q q => ⟨rfl, i, rfl, q⟩) ?_
    rw [rep_bl]
    exact all_bl hq
end
theorem sc_is_goals : FnScope ["thing", "states", "at", "state"] ["thing", "states"] (defScope s_is_goals) := ⟨rfl, rfl, rfl, by decide +kernel, rfl, by decide +kernel, by decide +kernel⟩
section
variable {P : Program} {w : World} {K : PySem.W.Frag} {mg : Str → Option Value} {base : Heap}
theorem ok_is_goals (D_is_goals : Dn K mg "is_goals" s_is_goals ["thing", "states"]) (D_is_state : Dn K mg "is_state" s_is_state ["thing", "states"]) (G_is_state : FnOk P w K mg base CX0 2 D_is_state.f D_is_state.fd ["thing", "states"] (dsp K 2 sp_is_state)) (D_is_sequence : Dn K mg "is_sequence" s_is_sequence ["thing"]) (G_is_sequence : FnOk P w K mg base CX0 1 D_is_sequence.f D_is_sequence.fd ["thing"] (dsp K 1 sp_is_sequence)) (T : TB mg) : FnOk P w K mg base CX0 3 D_is_goals.f D_is_goals.fd ["thing", "states"] (dsp K 2 sp_is_goals) := by
  refine fn_d (k := 2) (N := ["thing", "states", "at", "state"]) D_is_goals.F sc_is_goals (fun cdv A outer s H E hr => (dss_cons (ds_if (dt_w (dw_or (dt_not (dt_val (de_call (fun _ pa => pe_call G_is_sequence (hr.mono (by decide)) (by rfl) D_is_sequence.m D_is_sequence.F.kp D_is_sequence.b .nil pass0 pa) (dl_val (de_var (fun _ => pv 0)) dl_nil)))) (dw_or1 (dt_not (dt_val (de_callB (fun _ => cr_allK2 rfl rfl) rc_all (fun _ => by rfl) (fun _ => T.all_) (by decide +kernel) (da_cons (de_n (dn_lc (o := true) (own := [(("state" : Str), 3)]) (fun _ => rfl) (fun _ => sc_is_goals.nd) (di_seq (de_var (fun _ => pv 0))) (fun _ => (blkOk_by (own := [(("state" : Str), 3)]) (N := ["thing", "states", "at", "state"]) (sc := defScope s_is_goals) (by decide +kernel))) (dg_name (i := 3) (fun _ => pg_name sc_is_goals.nd rfl (by first | exact Or.inl rfl | exact Or.inr rfl))) dts_nil (de_call (fun _ pa => pe_call G_is_state (hr.mono (by decide)) (by rfl) D_is_state.m D_is_state.F.kp D_is_state.b .nil pass0 pa) (dl_val (de_var (fun _ => pv 3)) (dl_val (de_var (fun _ => pv 1)) dl_nil))) (by decide))) da_nil))))))) (dss_one (ds_ret de_bl)) dss_nil)
  (dss_one (ds_ret (de_callB (fun _ => cr_allK2 rfl rfl) rc_all (fun _ => by rfl) (fun _ => T.all_) (by decide +kernel) (da_cons (de_n (dn_lc (o := true) (own := [(("at" : Str), 2)]) (fun _ => rfl) (fun _ => sc_is_goals.nd) (di_range2 (fun _ => by rfl) (fun _ => T.range) (da_cons de_int (da_cons (de_callB (fun _ => cr_len rfl) rc_len (fun _ => by rfl) (fun _ => T.len) PySem.boot_len (da_cons (de_var (fun _ => pv 0)) da_nil)) da_nil))) (fun _ => (blkOk_by (own := [(("at" : Str), 2)]) (N := ["thing", "states", "at", "state"]) (sc := defScope s_is_goals) (by decide +kernel))) (dg_name (i := 2) (fun _ => pg_name sc_is_goals.nd rfl (by first | exact Or.inl rfl | exact Or.inr rfl))) dts_nil (de_cmpC cd_lt (de_ixA (de_var (fun _ => pv 0)) (de_sub (de_var (fun _ => pv 2)) de_int) (fun _ _ => rfl)) (de_ixA (de_var (fun _ => pv 0)) (de_var (fun _ => pv 2)) (fun _ _ => rfl)) (nomark _)) (by decide))) da_nil)))))) (fun δ Qd l h => ?_)
  obtain ⟨d, ns, n, rfl, hd, hz, hs, ha, hq⟩ := h
  have el : (ns.map Dt.int).length = ns.length := List.length_map ..
  have hsz : (ns.map Dt.int).length < sizeLine := by rw [el]; exact k1000 hz
  have hb := b62 (i := (ns.length : Int)) (by omega) (by omega)
  rcases items_cases hd with rfl | rfl
  all_goals
    refine ⟨rfl, _, _, rfl, rfl, _, rfl, ?_⟩
    refine ⟨rfl, hsz, ?_⟩
    refine lc_map (fun _ : Int => Dt.bl true) ns (fun i m Q q => ⟨rfl, i, n, rfl, (hs i m).1, (hs i m).2, q⟩) ?_
    rw [rep_bl]
    refine ⟨_, rfl, ?_⟩
    rw [all_rep]
    refine ⟨_, rfl, ?_⟩
    refine ⟨⟨(b62 (by omega) (by omega)).1, (b62 (by omega) (by omega)).2, by rw [el]; exact hb.1, by rw [el]; exact hb.2⟩, rfl, by rw [rngD_len, el]; exact k1000 (by omega), ?_⟩
    rw [el]
    refine lc_map (fun _ : Nat => Dt.bl true) (List.range ((ns.length : Int) - 1).toNat) (fun k m Q q => ?_) ?_
    · have hk := List.mem_range.mp m
      have h1 : ns[k]? = some (ns[k]'(by omega)) := List.getElem?_eq_getElem _
      have h2 : ns[k + 1]? = some (ns[k + 1]'(by omega)) := List.getElem?_eq_getElem _
      have hlt := ha k _ _ h1 h2
      have e1 : atI ns (1 + (k : Int) - 1) = some (ns[k]'(by omega)) := by
        rw [show 1 + (k : Int) - 1 = (k : Int) by omega]
        exact atI_nat h1
      have e2 : atI ns (1 + (k : Int)) = some (ns[k + 1]'(by omega)) := by
        rw [show 1 + (k : Int) = ((k + 1 : Nat) : Int) by omega]
        exact atI_nat h2
      refine ⟨_, atI_map (f := Dt.int) e1, _, atI_map (f := Dt.int) e2, ?_⟩
      show Q (.bl (decide _))
      rw [decide_eq_true hlt]
      exact q
    · rw [rep_bl]
      exact all_bl hq
end
def EndD (d : Dt) (e : Int × List Int) : Prop := ∃ x y : Dt, itemsD d = some [x, y] ∧ x = .int e.1 ∧ IntsD y e.2
def RowD (d : Dt) (r : List Int × List Int) : Prop := ∃ x y : Dt, itemsD d = some [x, y] ∧ IntsD x r.1 ∧ IntsD y r.2
def okE (n : Int) (e : Int × List Int) : Prop := 0 ≤ e.1 ∧ e.1 < n ∧ e.2.length < 1000 ∧ (∀ i, i ∈ e.2 → 0 ≤ i ∧ i < n) ∧ Asc e.2
def sp_is_ends : Spc := fun δ Q => ∃ (d : Dt) (e : Int × List Int) (n : Int), δ = [.val d, .val (.int n)] ∧ EndD d e ∧ okE n e ∧ Q (.bl true)
def sp_is_row : Spc := fun δ Q => ∃ (d : Dt) (r : List Int × List Int), δ = [.val d] ∧ RowD d r ∧ r.1.length < 1000 ∧ r.2.length < 1000 ∧ Q (.bl true)
def okS (l u : Int) (s : Int) : Prop := (0 ≤ s → s < l) ∧ (s < 0 → -1 - s < u)
def sp_sign_stands : Spc := fun δ Q => ∃ s l u : Int, δ = [.val (.int s), .val (.int l), .val (.int u)] ∧ okS l u s ∧ Q (.bl true)
theorem sc_is_ends : FnScope ["thing", "states"] ["thing", "states"] (defScope s_is_ends) := ⟨rfl, rfl, rfl, by decide +kernel, rfl, by decide +kernel, by decide +kernel⟩
section
variable {P : Program} {w : World} {K : PySem.W.Frag} {mg : Str → Option Value} {base : Heap}
theorem ok_is_ends (D_is_ends : Dn K mg "is_ends" s_is_ends ["thing", "states"]) (D_is_goals : Dn K mg "is_goals" s_is_goals ["thing", "states"]) (G_is_goals : FnOk P w K mg base CX0 3 D_is_goals.f D_is_goals.fd ["thing", "states"] (dsp K 2 sp_is_goals)) (D_is_state : Dn K mg "is_state" s_is_state ["thing", "states"]) (G_is_state : FnOk P w K mg base CX0 2 D_is_state.f D_is_state.fd ["thing", "states"] (dsp K 2 sp_is_state)) (D_is_couple : Dn K mg "is_couple" s_is_couple ["thing"]) (G_is_couple : FnOk P w K mg base CX0 2 D_is_couple.f D_is_couple.fd ["thing"] (dsp K 1 sp_is_couple)) (T : TB mg) : FnOk P w K mg base CX0 4 D_is_ends.f D_is_ends.fd ["thing", "states"] (dsp K 2 sp_is_ends) := by
  refine fn_d (k := 3) (N := ["thing", "states"]) D_is_ends.F sc_is_ends (fun cdv A outer s H E hr => (dss_one (ds_ret (de_and (de_call (fun _ pa => pe_call G_is_couple (hr.mono (by decide)) (by rfl) D_is_couple.m D_is_couple.F.kp D_is_couple.b .nil pass0 pa) (dl_val (de_var (fun _ => pv 0)) dl_nil)) (de_and (de_call (fun _ pa => pe_call G_is_state (hr.mono (by decide)) (by rfl) D_is_state.m D_is_state.F.kp D_is_state.b .nil pass0 pa) (dl_val (de_ixA (de_var (fun _ => pv 0)) de_int (fun _ _ => rfl)) (dl_val (de_var (fun _ => pv 1)) dl_nil))) (de_one (de_call (fun _ pa => pe_call G_is_goals (hr.mono (by decide)) (by rfl) D_is_goals.m D_is_goals.F.kp D_is_goals.b .nil pass0 pa) (dl_val (de_ixA (de_var (fun _ => pv 0)) de_int (fun _ _ => rfl)) (dl_val (de_var (fun _ => pv 1)) dl_nil))))))))) (fun δ Qd l h => ?_)
  obtain ⟨d, e, n, rfl, ⟨x, y, hd, rfl, hy⟩, ⟨h0, h1, h2, h3, h4⟩, hq⟩ := h
  refine ⟨rfl, d, _, rfl, hd, rfl, _, rfl, ite_t rfl ?_⟩
  rcases items_cases hd with rfl | rfl
  all_goals exact ⟨_, rfl, rfl, e.1, n, rfl, h0, h1, _, rfl, ite_t rfl ⟨_, rfl, rfl, y, e.2, n, rfl, hy, h2, h3, h4, hq⟩⟩
end
theorem sc_is_row : FnScope ["thing"] ["thing"] (defScope s_is_row) := ⟨rfl, rfl, rfl, by decide +kernel, rfl, by decide +kernel, by decide +kernel⟩
section
variable {P : Program} {w : World} {K : PySem.W.Frag} {mg : Str → Option Value} {base : Heap}
theorem ok_is_row (D_is_row : Dn K mg "is_row" s_is_row ["thing"]) (D_is_side : Dn K mg "is_side" s_is_side ["thing"]) (G_is_side : FnOk P w K mg base CX0 2 D_is_side.f D_is_side.fd ["thing"] (dsp K 1 sp_is_side)) (D_is_couple : Dn K mg "is_couple" s_is_couple ["thing"]) (G_is_couple : FnOk P w K mg base CX0 2 D_is_couple.f D_is_couple.fd ["thing"] (dsp K 1 sp_is_couple)) (T : TB mg) : FnOk P w K mg base CX0 3 D_is_row.f D_is_row.fd ["thing"] (dsp K 1 sp_is_row) := by
  refine fn_d (k := 2) (N := ["thing"]) D_is_row.F sc_is_row (fun cdv A outer s H E hr => (dss_one (ds_ret (de_and (de_call (fun _ pa => pe_call G_is_couple (hr.mono (by decide)) (by rfl) D_is_couple.m D_is_couple.F.kp D_is_couple.b .nil pass0 pa) (dl_val (de_var (fun _ => pv 0)) dl_nil)) (de_and (de_call (fun _ pa => pe_call G_is_side (hr.mono (by decide)) (by rfl) D_is_side.m D_is_side.F.kp D_is_side.b .nil pass0 pa) (dl_val (de_ixA (de_var (fun _ => pv 0)) de_int (fun _ _ => rfl)) dl_nil)) (de_one (de_call (fun _ pa => pe_call G_is_side (hr.mono (by decide)) (by rfl) D_is_side.m D_is_side.F.kp D_is_side.b .nil pass0 pa) (dl_val (de_ixA (de_var (fun _ => pv 0)) de_int (fun _ _ => rfl)) dl_nil)))))))) (fun δ Qd l h => ?_)
  obtain ⟨d, r, rfl, ⟨x, y, hd, hx, hy⟩, h1, h2, hq⟩ := h
  refine ⟨rfl, d, _, rfl, hd, rfl, _, rfl, ite_t rfl ?_⟩
  rcases items_cases hd with rfl | rfl
  all_goals exact ⟨_, rfl, rfl, x, r.1, rfl, hx, h1, _, rfl, ite_t rfl ⟨_, rfl, rfl, y, r.2, rfl, hy, h2, hq⟩⟩
end
theorem sc_sign_stands : FnScope ["sign", "letters", "unknowns"] ["sign", "letters", "unknowns"] (defScope s_sign_stands) := ⟨rfl, rfl, rfl, by decide +kernel, rfl, by decide +kernel, by decide +kernel⟩
section
variable {P : Program} {w : World} {K : PySem.W.Frag} {mg : Str → Option Value} {base : Heap}
theorem ok_sign_stands (D_sign_stands : Dn K mg "sign_stands" s_sign_stands ["sign", "letters", "unknowns"]) (T : TB mg) : FnOk P w K mg base CX0 1 D_sign_stands.f D_sign_stands.fd ["sign", "letters", "unknowns"] (dsp K 3 sp_sign_stands) := by
  refine fn_d (k := 0) (N := ["sign", "letters", "unknowns"]) D_sign_stands.F sc_sign_stands (fun cdv A outer s H E hr => (dss_one (ds_ret (de_if (dt_cmpC cd_ge (de_var (fun _ => pv 0)) de_int (nomark _)) (de_cmpC cd_lt (de_var (fun _ => pv 0)) (de_var (fun _ => pv 1)) (nomark _)) (de_cmpC cd_lt (de_sub (de_neg de_int) (de_var (fun _ => pv 0))) (de_var (fun _ => pv 2)) (nomark _)))))) (fun δ Qd l h => ?_)
  obtain ⟨s, nl, u, rfl, ⟨ha, hb⟩, hq⟩ := h
  by_cases hs : 0 ≤ s
  · refine ⟨_, rfl, ite_t (decide_eq_true hs) ?_⟩
    show Qd (.bl (decide (s < nl)))
    rw [decide_eq_true (ha hs)]
    exact hq
  · refine ⟨_, rfl, ite_f (decide_eq_false hs) ?_⟩
    refine ⟨_, rfl, ?_⟩
    show Qd (.bl (decide (-1 - s < u)))
    rw [decide_eq_true (hb (by omega))]
    exact hq
end
structure Bk where
  rows : List (List Int × List Int)
  deeds : List (List Int)
  ends : List (Int × List Int)
  states : Int
def rowT (r : List Int × List Int) : Dt := .tup [iT r.1, iT r.2]
def endT (e : Int × List Int) : Dt := .tup [.int e.1, iT e.2]
def bookF (b : Bk) : List (Str × Dt) := [("rows", .tup (b.rows.map rowT)), ("deeds", .tup (b.deeds.map iT)), ("ends", .tup (b.ends.map endT)), ("states", .int b.states)]
def bookD (C : Addr) (b : Bk) : Dt := .ins C (bookF b)
structure okB (b : Bk) : Prop where
  s1 : 1 ≤ b.states
  s2 : b.states < 1000
  nr : b.rows.length < 1000
  nd : b.deeds.length < 1000
  ne : b.ends.length < 1000
  rl : ∀ r, r ∈ b.rows → r.1.length < 1000 ∧ r.2.length < 1000
  dl : ∀ d, d ∈ b.deeds → (d.length : Int) = b.states ∧ ∀ i, i ∈ d → 0 ≤ i ∧ i < b.states
  el : ∀ e, e ∈ b.ends → okE b.states e
  st : ∀ r, r ∈ b.rows → ∀ s, s ∈ r.1 ++ r.2 → okS b.deeds.length b.ends.length s
/-- a list of things that are told by P -/
def SeqLd {α : Type} (P : α → Dt → Prop) (d : Dt) (xs : List α) : Prop := ∃ zs : List (α × Dt), d = .lst (zs.map (·.2)) ∧ (∀ p, p ∈ zs → P p.1 p.2) ∧ xs = zs.map (·.1)
def sp_Book : SpcI := fun δ Q => ∃ (x y z : Dt) (b : Bk), δ = [.val x, .val y, .val z, .val (.int b.states)] ∧ SeqLd (fun r d => RowD d r) x b.rows ∧ SeqLd (fun r d => IntsD d r) y b.deeds ∧ SeqLd (fun e d => EndD d e) z b.ends ∧ okB b ∧ Q (bookF b)
theorem sc_Book_init : FnScope ["self", "rows", "deeds", "ends", "states", "deed", "row", "side", "sign", "left", "right", "start", "goals", "one"] ["self", "rows", "deeds", "ends", "states"] (defScope s_Book_init) := ⟨rfl, rfl, rfl, by decide +kernel, rfl, by decide +kernel, by decide +kernel⟩
section
variable {P : Program} {w : World} {K : PySem.W.Frag} {mg : Str → Option Value} {base : Heap}
theorem ok_Book_init (C_Book : OC_Book K mg) (D_is_whole : Dn K mg "is_whole" s_is_whole ["thing"]) (G_is_whole : FnOk P w K mg base CX0 1 D_is_whole.f D_is_whole.fd ["thing"] (dsp K 1 sp_is_whole)) (D_is_deed : Dn K mg "is_deed" s_is_deed ["thing", "states"]) (G_is_deed : FnOk P w K mg base CX0 3 D_is_deed.f D_is_deed.fd ["thing", "states"] (dsp K 2 sp_is_deed)) (D_is_sequence : Dn K mg "is_sequence" s_is_sequence ["thing"]) (G_is_sequence : FnOk P w K mg base CX0 1 D_is_sequence.f D_is_sequence.fd ["thing"] (dsp K 1 sp_is_sequence)) (D_is_ends : Dn K mg "is_ends" s_is_ends ["thing", "states"]) (G_is_ends : FnOk P w K mg base CX0 4 D_is_ends.f D_is_ends.fd ["thing", "states"] (dsp K 2 sp_is_ends)) (D_is_row : Dn K mg "is_row" s_is_row ["thing"]) (G_is_row : FnOk P w K mg base CX0 3 D_is_row.f D_is_row.fd ["thing"] (dsp K 1 sp_is_row)) (D_sign_stands : Dn K mg "sign_stands" s_sign_stands ["sign", "letters", "unknowns"]) (G_sign_stands : FnOk P w K mg base CX0 1 D_sign_stands.f D_sign_stands.fd ["sign", "letters", "unknowns"] (dsp K 3 sp_sign_stands)) (T : TB mg) : FnOk P w K mg base CX0 5 C_Book.f C_Book.fd ["self", "rows", "deeds", "ends", "states"] (dspI K C_Book.C 4 sp_Book) := by
  refine fn_init (k := 4) C_Book.F sc_Book_init (fun cdv A outer s H E hr => (dss_cons (ds_if (dt_w (dw_or (dt_not (dt_val (de_call (fun _ pa => pe_call G_is_whole (hr.mono (by decide)) (by rfl) D_is_whole.m D_is_whole.F.kp D_is_whole.b .nil pass0 pa) (dl_val (de_var (fun _ => pv 4)) dl_nil)))) (dw_or1 (dt_cmpC cd_lt (de_var (fun _ => pv 4)) de_int (nomark _))))) (dss_one ds_never) dss_nil)
  (dss_cons (ds_if (dt_w (dw_or (dt_not (dt_val (de_call (fun _ pa => pe_call G_is_sequence (hr.mono (by decide)) (by rfl) D_is_sequence.m D_is_sequence.F.kp D_is_sequence.b .nil pass0 pa) (dl_val (de_var (fun _ => pv 2)) dl_nil)))) (dw_or1 (dt_not (dt_val (de_callB (fun _ => cr_allK2 rfl rfl) rc_all (fun _ => by rfl) (fun _ => T.all_) (by decide +kernel) (da_cons (de_n (dn_lc (o := true) (own := [(("deed" : Str), 5)]) (fun _ => rfl) (fun _ => sc_Book_init.nd) (di_seq (de_var (fun _ => pv 2))) (fun _ => (blkOk_by (own := [(("deed" : Str), 5)]) (N := ["self", "rows", "deeds", "ends", "states", "deed", "row", "side", "sign", "left", "right", "start", "goals", "one"]) (sc := defScope s_Book_init) (by decide +kernel))) (dg_name (i := 5) (fun _ => pg_name sc_Book_init.nd rfl (by first | exact Or.inl rfl | exact Or.inr rfl))) dts_nil (de_call (fun _ pa => pe_call G_is_deed (hr.mono (by decide)) (by rfl) D_is_deed.m D_is_deed.F.kp D_is_deed.b .nil pass0 pa) (dl_val (de_var (fun _ => pv 5)) (dl_val (de_var (fun _ => pv 4)) dl_nil))) (by decide))) da_nil))))))) (dss_one ds_never) dss_nil)
  (dss_cons (ds_if (dt_w (dw_or (dt_not (dt_val (de_call (fun _ pa => pe_call G_is_sequence (hr.mono (by decide)) (by rfl) D_is_sequence.m D_is_sequence.F.kp D_is_sequence.b .nil pass0 pa) (dl_val (de_var (fun _ => pv 3)) dl_nil)))) (dw_or1 (dt_not (dt_val (de_callB (fun _ => cr_allK2 rfl rfl) rc_all (fun _ => by rfl) (fun _ => T.all_) (by decide +kernel) (da_cons (de_n (dn_lc (o := true) (own := [(("one" : Str), 13)]) (fun _ => rfl) (fun _ => sc_Book_init.nd) (di_seq (de_var (fun _ => pv 3))) (fun _ => (blkOk_by (own := [(("one" : Str), 13)]) (N := ["self", "rows", "deeds", "ends", "states", "deed", "row", "side", "sign", "left", "right", "start", "goals", "one"]) (sc := defScope s_Book_init) (by decide +kernel))) (dg_name (i := 13) (fun _ => pg_name sc_Book_init.nd rfl (by first | exact Or.inl rfl | exact Or.inr rfl))) dts_nil (de_call (fun _ pa => pe_call G_is_ends (hr.mono (by decide)) (by rfl) D_is_ends.m D_is_ends.F.kp D_is_ends.b .nil pass0 pa) (dl_val (de_var (fun _ => pv 13)) (dl_val (de_var (fun _ => pv 4)) dl_nil))) (by decide))) da_nil))))))) (dss_one ds_never) dss_nil)
  (dss_cons (ds_if (dt_w (dw_or (dt_not (dt_val (de_call (fun _ pa => pe_call G_is_sequence (hr.mono (by decide)) (by rfl) D_is_sequence.m D_is_sequence.F.kp D_is_sequence.b .nil pass0 pa) (dl_val (de_var (fun _ => pv 1)) dl_nil)))) (dw_or1 (dt_not (dt_val (de_callB (fun _ => cr_allK2 rfl rfl) rc_all (fun _ => by rfl) (fun _ => T.all_) (by decide +kernel) (da_cons (de_n (dn_lc (o := true) (own := [(("row" : Str), 6)]) (fun _ => rfl) (fun _ => sc_Book_init.nd) (di_seq (de_var (fun _ => pv 1))) (fun _ => (blkOk_by (own := [(("row" : Str), 6)]) (N := ["self", "rows", "deeds", "ends", "states", "deed", "row", "side", "sign", "left", "right", "start", "goals", "one"]) (sc := defScope s_Book_init) (by decide +kernel))) (dg_name (i := 6) (fun _ => pg_name sc_Book_init.nd rfl (by first | exact Or.inl rfl | exact Or.inr rfl))) dts_nil (de_call (fun _ pa => pe_call G_is_row (hr.mono (by decide)) (by rfl) D_is_row.m D_is_row.F.kp D_is_row.b .nil pass0 pa) (dl_val (de_var (fun _ => pv 6)) dl_nil)) (by decide))) da_nil))))))) (dss_one ds_never) dss_nil)
  (dss_cons (ds_if (dt_not (dt_val (de_callB (fun _ => cr_allK2 rfl rfl) rc_all (fun _ => by rfl) (fun _ => T.all_) (by decide +kernel) (da_cons (de_n (dn_lcm (o := true) (own := [(("row" : Str), 6), (("side" : Str), 7), (("sign" : Str), 8)]) (fun _ => rfl) (fun _ => sc_Book_init.nd) (di_seq (de_var (fun _ => pv 1))) (fun _ => (blkOk_by (own := [(("row" : Str), 6), (("side" : Str), 7), (("sign" : Str), 8)]) (N := ["self", "rows", "deeds", "ends", "states", "deed", "row", "side", "sign", "left", "right", "start", "goals", "one"]) (sc := defScope s_Book_init) (by decide +kernel))) (by decide) (dg_name (i := 6) (fun _ => pg_name sc_Book_init.nd rfl (by first | exact Or.inl rfl | exact Or.inr rfl))) dts_nil (db_cl (vs := [7, 8]) (di_seq (de_var (fun _ => pv 6))) (dg_name (i := 7) (fun _ => pg_name sc_Book_init.nd rfl (by first | exact Or.inl rfl | exact Or.inr rfl))) dts_nil (db_cl (vs := [8]) (di_seq (de_var (fun _ => pv 7))) (dg_name (i := 8) (fun _ => pg_name sc_Book_init.nd rfl (by first | exact Or.inl rfl | exact Or.inr rfl))) dts_nil (db_end (de_call (fun _ pa => pe_call G_sign_stands (hr.mono (by decide)) (by rfl) D_sign_stands.m D_sign_stands.F.kp D_sign_stands.b .nil pass0 pa) (dl_val (de_var (fun _ => pv 8)) (dl_val (de_callB (fun _ => cr_len rfl) rc_len (fun _ => by rfl) (fun _ => T.len) PySem.boot_len (da_cons (de_var (fun _ => pv 2)) da_nil)) (dl_val (de_callB (fun _ => cr_len rfl) rc_len (fun _ => by rfl) (fun _ => T.len) PySem.boot_len (da_cons (de_var (fun _ => pv 3)) da_nil)) dl_nil))))) (by decide) (by decide) (by decide)) (by decide) (by decide) (by decide)) (by decide) (by decide))) da_nil)))) (dss_one ds_never) dss_nil)
  (dss_cons (ds_fld (fun _ => pv 0) (de_callTy (fun _ => cr_tuple rfl) rc_tuple (fun _ => by rfl) (fun _ => T.tuple_) (by decide +kernel) (da_cons (de_n (dn_lc (o := true) (own := [(("left" : Str), 9), (("right" : Str), 10)]) (fun _ => rfl) (fun _ => sc_Book_init.nd) (di_seq (de_var (fun _ => pv 1))) (fun _ => (blkOk_by (own := [(("left" : Str), 9), (("right" : Str), 10)]) (N := ["self", "rows", "deeds", "ends", "states", "deed", "row", "side", "sign", "left", "right", "start", "goals", "one"]) (sc := defScope s_Book_init) (by decide +kernel))) (dg_tup (n := 2) (dgs_cons (dg_name (i := 9) (fun _ => pg_name sc_Book_init.nd rfl (by first | exact Or.inl rfl | exact Or.inr rfl))) (dgs_cons (dg_name (i := 10) (fun _ => pg_name sc_Book_init.nd rfl (by first | exact Or.inl rfl | exact Or.inr rfl))) dgs_nil))) dts_nil (de_tup (da_cons (de_callTy (fun _ => cr_tuple rfl) rc_tuple (fun _ => by rfl) (fun _ => T.tuple_) (by decide +kernel) (da_cons (de_var (fun _ => pv 9)) da_nil)) (da_cons (de_callTy (fun _ => cr_tuple rfl) rc_tuple (fun _ => by rfl) (fun _ => T.tuple_) (by decide +kernel) (da_cons (de_var (fun _ => pv 10)) da_nil)) da_nil))) (by decide))) da_nil)))
  (dss_cons (ds_fld (fun _ => pv 0) (de_callTy (fun _ => cr_tuple rfl) rc_tuple (fun _ => by rfl) (fun _ => T.tuple_) (by decide +kernel) (da_cons (de_n (dn_lc (o := true) (own := [(("deed" : Str), 5)]) (fun _ => rfl) (fun _ => sc_Book_init.nd) (di_seq (de_var (fun _ => pv 2))) (fun _ => (blkOk_by (own := [(("deed" : Str), 5)]) (N := ["self", "rows", "deeds", "ends", "states", "deed", "row", "side", "sign", "left", "right", "start", "goals", "one"]) (sc := defScope s_Book_init) (by decide +kernel))) (dg_name (i := 5) (fun _ => pg_name sc_Book_init.nd rfl (by first | exact Or.inl rfl | exact Or.inr rfl))) dts_nil (de_callTy (fun _ => cr_tuple rfl) rc_tuple (fun _ => by rfl) (fun _ => T.tuple_) (by decide +kernel) (da_cons (de_var (fun _ => pv 5)) da_nil)) (by decide))) da_nil)))
  (dss_cons (ds_fld (fun _ => pv 0) (de_callTy (fun _ => cr_tuple rfl) rc_tuple (fun _ => by rfl) (fun _ => T.tuple_) (by decide +kernel) (da_cons (de_n (dn_lc (o := true) (own := [(("start" : Str), 11), (("goals" : Str), 12)]) (fun _ => rfl) (fun _ => sc_Book_init.nd) (di_seq (de_var (fun _ => pv 3))) (fun _ => (blkOk_by (own := [(("start" : Str), 11), (("goals" : Str), 12)]) (N := ["self", "rows", "deeds", "ends", "states", "deed", "row", "side", "sign", "left", "right", "start", "goals", "one"]) (sc := defScope s_Book_init) (by decide +kernel))) (dg_tup (n := 2) (dgs_cons (dg_name (i := 11) (fun _ => pg_name sc_Book_init.nd rfl (by first | exact Or.inl rfl | exact Or.inr rfl))) (dgs_cons (dg_name (i := 12) (fun _ => pg_name sc_Book_init.nd rfl (by first | exact Or.inl rfl | exact Or.inr rfl))) dgs_nil))) dts_nil (de_tup (da_cons (de_var (fun _ => pv 11)) (da_cons (de_callTy (fun _ => cr_tuple rfl) rc_tuple (fun _ => by rfl) (fun _ => T.tuple_) (by decide +kernel) (da_cons (de_var (fun _ => pv 12)) da_nil)) da_nil))) (by decide))) da_nil)))
  (dss_one (ds_fld (fun _ => pv 0) (de_var (fun _ => pv 4))))))))))))) (fun δ Qd a l h => ?_)
  obtain ⟨x, y, z, b, rfl, ⟨xr, hxr, hr, er⟩, ⟨xd, hxd, hd, ed⟩, ⟨xe, hxe, he, ee⟩, ok, hq⟩ := h
  have mr : ∀ p, p ∈ xr → p.1 ∈ b.rows := fun p m => by rw [er]; exact List.mem_map_of_mem m
  have md : ∀ p, p ∈ xd → p.1 ∈ b.deeds := fun p m => by rw [ed]; exact List.mem_map_of_mem m
  have me : ∀ p, p ∈ xe → p.1 ∈ b.ends := fun p m => by rw [ee]; exact List.mem_map_of_mem m
  have lr : (xr.map (·.2)).length = b.rows.length := by rw [List.length_map, er, List.length_map]
  have ld : (xd.map (·.2)).length = b.deeds.length := by rw [List.length_map, ed, List.length_map]
  have le : (xe.map (·.2)).length = b.ends.length := by rw [List.length_map, ee, List.length_map]
  have zr : (xr.map (·.2)).length < sizeLine := by rw [lr]; exact k1000 ok.nr
  have zd : (xd.map (·.2)).length < sizeLine := by rw [ld]; exact k1000 ok.nd
  have ze : (xe.map (·.2)).length < sizeLine := by rw [le]; exact k1000 ok.ne
  have s1 : decide (b.states < 1) = false := decide_eq_false (by have := ok.s1; omega)
  have big : ([] : List Dt).length + (xr.map fun p => (p.1.1 ++ p.1.2).map fun _ => Dt.bl true).flatten.length ≤ 2000000 := by
    have h := flat_bd (xs := xr) (f := fun p => (p.1.1 ++ p.1.2).map fun _ => Dt.bl true) (c := 1998) fun p m => by
      have := ok.rl _ (mr p m)
      rw [List.length_map, List.length_append]
      omega
    have hx : xr.length < 1000 := by rw [List.length_map] at lr; rw [lr]; exact ok.nr
    have : 1998 * xr.length ≤ 1998 * 999 := Nat.mul_le_mul_left _ (by omega)
    show 0 + _ ≤ _
    omega
  subst hxr hxd hxe
  refine ⟨rfl, b.states, rfl, _, rfl, ?_⟩
  refine ⟨_, rfl, ite_f s1 ?_⟩
  refine ⟨rfl, _, _, rfl, rfl, _, rfl, ?_⟩
  refine ⟨rfl, zd, ?_⟩
  refine lc_map (fun _ : List Int × Dt => Dt.bl true) xd (fun p m Q q => ⟨rfl, p.2, p.1, b.states, rfl, hd p m, (ok.dl _ (md p m)).1, ?_, (ok.dl _ (md p m)).2, q⟩) ?_
  · have := (ok.dl _ (md p m)).1
    have := ok.s2
    omega
  rw [rep_bl]
  refine ⟨_, rfl, ?_⟩
  rw [all_rep]
  refine ⟨_, rfl, ?_⟩
  refine ⟨rfl, _, _, rfl, rfl, _, rfl, ?_⟩
  refine ⟨rfl, ze, ?_⟩
  refine lc_map (fun _ : (Int × List Int) × Dt => Dt.bl true) xe (fun p m Q q => ⟨rfl, p.2, p.1, b.states, rfl, he p m, ok.el _ (me p m), q⟩) ?_
  rw [rep_bl]
  refine ⟨_, rfl, ?_⟩
  rw [all_rep]
  refine ⟨_, rfl, ?_⟩
  refine ⟨rfl, _, _, rfl, rfl, _, rfl, ?_⟩
  refine ⟨rfl, zr, ?_⟩
  refine lc_map (fun _ : (List Int × List Int) × Dt => Dt.bl true) xr (fun p m Q q => ⟨rfl, p.2, p.1, rfl, hr p m, (ok.rl _ (mr p m)).1, (ok.rl _ (mr p m)).2, q⟩) ?_
  rw [rep_bl]
  refine ⟨_, rfl, ?_⟩
  rw [all_rep]
  refine ⟨_, rfl, ?_⟩
  refine ⟨rfl, ?_⟩
  refine turns_bd (fun p : (List Int × List Int) × Dt => (p.1.1 ++ p.1.2).map fun _ => Dt.bl true) 2000000 xr [] _ big (fun p m acc Q hl q => ?_) ?_
  · obtain ⟨⟨r1, r2⟩, d⟩ := p
    obtain ⟨x', y', hi, hx, hy⟩ := hr _ m
    have hst := ok.st _ (mr _ m)
    rcases items_cases hi with rfl | rfl
    all_goals
      refine ⟨rfl, ?_⟩
      refine turns_bd (g := fun q : List Int × Dt => q.2) (fun q => q.1.map fun _ => Dt.bl true) 2000000 [(r1, x'), (r2, y')] acc Q ?_ (fun w mw acc Q hl2 q2 => ?_) ?_
      · simp at hl ⊢
        omega
      · have hw : IntsD w.2 w.1 ∧ ∀ s, s ∈ w.1 → s ∈ r1 ++ r2 := by
          simp at mw
          rcases mw with rfl | rfl
          · exact ⟨hx, fun s hs => List.mem_append_left _ hs⟩
          · exact ⟨hy, fun s hs => List.mem_append_right _ hs⟩
        obtain ⟨ns, d2⟩ := w
        obtain ⟨hw1, hw2⟩ := hw
        have hw1 : itemsD d2 = some (ns.map .int) := hw1
        rcases items_cases hw1 with rfl | rfl
        all_goals
          refine ⟨rfl, ?_⟩
          refine turns_bd (g := Dt.int) (fun _ => [Dt.bl true]) 2000000 ns acc Q ?_ (fun s ms acc Q hl3 q3 => ?_) ?_
          · rw [one_flat]
            exact hl2
          · refine ⟨?_, rfl, s, _, _, rfl, ?_, q3⟩
            · have : (2000000 : Nat) < sizeLine := by decide
              omega
            · rw [ld, le]
              exact hst s (hw2 s ms)
          · rw [one_flat]
            exact q2
      · have : (([(r1, x'), (r2, y')] : List (List Int × Dt)).map fun q => q.1.map fun _ => Dt.bl true).flatten = (r1 ++ r2).map fun _ => Dt.bl true := by simp
        rw [this]
        exact q
  have e1 : (xr.map fun p : (List Int × List Int) × Dt => (p.1.1 ++ p.1.2).map fun _ => Dt.bl true).flatten = (List.replicate (xr.map fun p : (List Int × List Int) × Dt => (p.1.1 ++ p.1.2).map fun _ => Dt.bl true).flatten.length true).map Dt.bl := flat_bl xr fun p => p.1.1 ++ p.1.2
  rw [List.nil_append, e1]
  refine ⟨_, rfl, ?_⟩
  rw [all_rep]
  refine ⟨_, rfl, ?_⟩
  refine ⟨rfl, zr, ?_⟩
  refine lc_map (fun p : (List Int × List Int) × Dt => rowT p.1) xr (fun p m Q q => ?_) ?_
  · obtain ⟨⟨r1, r2⟩, d⟩ := p
    obtain ⟨x', y', hi, hx, hy⟩ := (show RowD d (r1, r2) from hr _ m)
    rcases items_cases hi with rfl | rfl <;> rcases items_cases hx with rfl | rfl <;> rcases items_cases hy with rfl | rfl
    all_goals exact ⟨rfl, rfl, (by show 2 ≤ sizeLine; decide), q⟩
  refine ⟨C_Book.cl, C_Book.na _ (by simp), (by decide), ?_⟩
  rw [pA0]
  refine ⟨rfl, zd, ?_⟩
  refine lc_map (fun p : List Int × Dt => iT p.1) xd (fun p m Q q => ?_) ?_
  · obtain ⟨ns, d⟩ := p
    rcases items_cases (show itemsD d = some (ns.map .int) from hd _ m) with rfl | rfl
    all_goals exact q
  refine ⟨C_Book.cl, C_Book.na _ (by simp), (by show 1 < 1000; decide), ?_⟩
  rw [pA1]
  refine ⟨rfl, ze, ?_⟩
  refine lc_map (fun p : (Int × List Int) × Dt => endT p.1) xe (fun p m Q q => ?_) ?_
  · obtain ⟨⟨e1, e2⟩, d⟩ := p
    obtain ⟨x', y', hi, rfl, hy⟩ := (show EndD d (e1, e2) from he _ m)
    rcases items_cases hi with rfl | rfl <;> rcases items_cases hy with rfl | rfl
    all_goals exact ⟨rfl, rfl, (by show 2 ≤ sizeLine; decide), q⟩
  refine ⟨C_Book.cl, C_Book.na _ (by simp), (by show 2 < 1000; decide), ?_⟩
  rw [pA2]
  refine ⟨C_Book.cl, C_Book.na _ (by simp), (by show 3 < 1000; decide), _, rfl, ?_⟩
  rw [pA3]
  unfold bookF at hq
  rw [er, ed, ee, List.map_map, List.map_map, List.map_map] at hq
  exact hq
end
end My
set_option maxHeartbeats 4000000
namespace My
open PySem PySem.Spec PyProof.Rows L2 Lcn Sq Dl
structure GCs (mg : Str → Option Value) : Prop where
  c_OUTER_LETTERS : ∃ t, mg "OUTER_LETTERS" = some (.str "abc" t)
  c_LONGEST_TEXT : ∃ t, mg "LONGEST_TEXT" = some (.int 400 t)
  c_MOST_TIMES : ∃ t, mg "MOST_TIMES" = some (.int (10 ^ 62) t)
  c_LONGEST_NAME : ∃ t, mg "LONGEST_NAME" = some (.int 8 t)
  c_SMALL_LETTERS : ∃ t, mg "SMALL_LETTERS" = some (.str "abcdefghijklmnopqrstuvwxyz" t)
  c_FIGURES : ∃ t, mg "FIGURES" = some (.str "0123456789" t)
structure TextOk (z : Str) : Prop where
  l1 : 1 ≤ z.length
  l2 : z.length ≤ 400
  ab : ∀ c, c ∈ z.cps.toList → c ∈ ("abc" : Str).cps.toList
  ok : PyData.strOk z = true
def ruleT (z : Str) : Dt := .tup [.str "text", .str z]
def sp_is_text : Spc := fun δ Q => ∃ z : Str, δ = [.val (.str z)] ∧ TextOk z ∧ Q (.bl true)
def sp_is_rule : Spc := fun δ Q => ∃ z : Str, δ = [.val (ruleT z), .val (.int 0)] ∧ TextOk z ∧ Q (.bl true)
def sp_rule_length : Spc := fun δ Q => ∃ z : Str, δ = [.val (ruleT z), .val (.lst [])] ∧ TextOk z ∧ Q (.int z.length)
def gramF (z : Str) : List (Str × Dt) := [("rules", .tup [ruleT z]), ("lengths", .tup [.int z.length])]
def sp_Grammar : SpcI := fun δ Q => ∃ z : Str, δ = [.val (.lst [ruleT z])] ∧ TextOk z ∧ Q (gramF z)
theorem lz {z : Str} (t : TextOk z) : z.length ≤ sizeLine := le1000 (by have := t.l2; omega)
theorem dIn_sign {c : Nat} {z : Str} {neg : Bool} {Q : Dt → Prop} (q : Q (.bl (if neg = true then !decide (c ∈ z.cps.toList) else decide (c ∈ z.cps.toList)))) : dIn neg (.str ⟨#[c]⟩) (.str z) Q := by
  unfold dIn
  exact ⟨c, rfl, q⟩
theorem cps_len (z : Str) : z.cps.toList.length = z.length := by simp [Str.length]
theorem sc_is_text : FnScope ["thing", "letter"] ["thing"] (defScope s_is_text) := ⟨rfl, rfl, rfl, by decide +kernel, rfl, by decide +kernel, by decide +kernel⟩
section
variable {P : Program} {w : World} {K : PySem.W.Frag} {mg : Str → Option Value} {base : Heap}
theorem ok_is_text (D_is_text : Dn K mg "is_text" s_is_text ["thing"]) (GCO : GCs mg) (T : TB mg) : FnOk P w K mg base CX0 1 D_is_text.f D_is_text.fd ["thing"] (dsp K 1 sp_is_text) := by
  refine fn_d (k := 0) (N := ["thing", "letter"]) D_is_text.F sc_is_text (fun cdv A outer s H E hr => (dss_cons (ds_if (dt_w (dw_or (dt_not (dt_val (de_isi1 (de_var (fun _ => pv 0)) (fun _ => pe_bltn (v := .ty "str") (by rfl) T.str_ (by decide +kernel) rfl) (fun _ => by rfl) (fun _ => T.isinstance)))) (dw_or1 (dt_not (dt_chainC cd_le cd_le de_int (de_callB (fun _ => cr_len rfl) rc_len (fun _ => by rfl) (fun _ => T.len) PySem.boot_len (da_cons (de_var (fun _ => pv 0)) da_nil)) (de_c (fun _ => pe_gint (by rfl) GCO.c_LONGEST_TEXT) (fun _ _ _ => .int _))))))) (dss_one (ds_ret de_bl)) dss_nil)
  (dss_one (ds_ret (de_callB (fun _ => cr_allK2 rfl rfl) rc_all (fun _ => by rfl) (fun _ => T.all_) (by decide +kernel) (da_cons (de_n (dn_lc (o := true) (own := [(("letter" : Str), 1)]) (fun _ => rfl) (fun _ => sc_is_text.nd) (di_str (de_var (fun _ => pv 0))) (fun _ => (blkOk_by (own := [(("letter" : Str), 1)]) (N := ["thing", "letter"]) (sc := defScope s_is_text) (by decide +kernel))) (dg_name (i := 1) (fun _ => pg_name sc_is_text.nd rfl (by first | exact Or.inl rfl | exact Or.inr rfl))) dts_nil (de_cmpC (cd_in (fun _ => ru65 hr)) (de_var (fun _ => pv 1)) (de_c (fun _ => pe_gstr (by rfl) GCO.c_OUTER_LETTERS) (fun _ _ _ => .str _)) (by rfl)) (by decide))) da_nil)))))) (fun δ Qd l h => ?_)
  obtain ⟨z, rfl, t, hq⟩ := h
  have h1 : decide ((1 : Int) ≤ (z.length : Int)) = true := decide_eq_true (by have := t.l1; omega)
  have h2 : decide ((z.length : Int) ≤ 400) = true := decide_eq_true (by have := t.l2; omega)
  refine ⟨_, rfl, _, rfl, ite_f rfl ?_⟩
  refine ⟨lz t, _, rfl, ite_t h1 ⟨_, rfl, ite_f (by rw [h2]; rfl) ?_⟩⟩
  refine ⟨rfl, by unfold chD; rw [List.length_map, cps_len]; exact k1000 (by have := t.l2; omega), ?_⟩
  unfold chD
  refine lc_map (fun _ : Nat => Dt.bl true) z.cps.toList (fun c m Q q => ?_) ?_
  · refine dIn_sign ?_
    rw [if_neg Bool.false_ne_true, decide_eq_true (t.ab c m)]
    exact q
  · rw [rep_bl]
    exact all_bl hq
end
theorem sc_is_rule : FnScope ["thing", "at"] ["thing", "at"] (defScope s_is_rule) := ⟨rfl, rfl, rfl, by decide +kernel, rfl, by decide +kernel, by decide +kernel⟩
section
variable {P : Program} {w : World} {K : PySem.W.Frag} {mg : Str → Option Value} {base : Heap}
theorem ok_is_rule (D_is_rule : Dn K mg "is_rule" s_is_rule ["thing", "at"]) (D_is_sequence : Dn K mg "is_sequence" s_is_sequence ["thing"]) (G_is_sequence : FnOk P w K mg base CX0 1 D_is_sequence.f D_is_sequence.fd ["thing"] (dsp K 1 sp_is_sequence)) (D_is_text : Dn K mg "is_text" s_is_text ["thing"]) (G_is_text : FnOk P w K mg base CX0 1 D_is_text.f D_is_text.fd ["thing"] (dsp K 1 sp_is_text)) (D_is_whole : Dn K mg "is_whole" s_is_whole ["thing"]) (G_is_whole : FnOk P w K mg base CX0 1 D_is_whole.f D_is_whole.fd ["thing"] (dsp K 1 sp_is_whole)) (GCO : GCs mg) (T : TB mg) : FnOk P w K mg base CX0 3 D_is_rule.f D_is_rule.fd ["thing", "at"] (dsp K 2 sp_is_rule) := by
  refine fn_d (k := 2) (N := ["thing", "at"]) D_is_rule.F sc_is_rule (fun cdv A outer s H E hr => (dss_cons (ds_if (dt_w (dw_or (dt_not (dt_val (de_call (fun _ pa => pe_call G_is_sequence (hr.mono (by decide)) (by rfl) D_is_sequence.m D_is_sequence.F.kp D_is_sequence.b .nil pass0 pa) (dl_val (de_var (fun _ => pv 0)) dl_nil)))) (dw_or (dt_cmpC cd_lt (de_callB (fun _ => cr_len rfl) rc_len (fun _ => by rfl) (fun _ => T.len) PySem.boot_len (da_cons (de_var (fun _ => pv 0)) da_nil)) de_int (nomark _)) (dw_or1 (dt_not (dt_val (de_isi1 (de_ixA (de_var (fun _ => pv 0)) de_int (fun _ _ => rfl)) (fun _ => pe_bltn (v := .ty "str") (by rfl) T.str_ (by decide +kernel) rfl) (fun _ => by rfl) (fun _ => T.isinstance)))))))) (dss_one (ds_ret de_bl)) dss_nil)
  (dss_cons (ds_if (dt_cmpC (cd_eq (fun _ => ru64 hr)) (de_ixA (de_var (fun _ => pv 0)) de_int (fun _ _ => rfl)) de_str (nomark _)) (dss_one (ds_ret (de_and (de_cmpC (cd_eq (fun _ => ru64 hr)) (de_callB (fun _ => cr_len rfl) rc_len (fun _ => by rfl) (fun _ => T.len) PySem.boot_len (da_cons (de_var (fun _ => pv 0)) da_nil)) de_int (nomark _)) (de_one (de_call (fun _ pa => pe_call G_is_text (hr.mono (by decide)) (by rfl) D_is_text.m D_is_text.F.kp D_is_text.b .nil pass0 pa) (dl_val (de_ixA (de_var (fun _ => pv 0)) de_int (fun _ _ => rfl)) dl_nil)))))) dss_nil)
  (dss_cons (ds_if (dt_w (dw_or (dt_cmpC (cd_ne (fun _ => ru64 hr)) (de_callB (fun _ => cr_len rfl) rc_len (fun _ => by rfl) (fun _ => T.len) PySem.boot_len (da_cons (de_var (fun _ => pv 0)) da_nil)) de_int (nomark _)) (dw_or (dt_not (dt_val (de_call (fun _ pa => pe_call G_is_whole (hr.mono (by decide)) (by rfl) D_is_whole.m D_is_whole.F.kp D_is_whole.b .nil pass0 pa) (dl_val (de_ixA (de_var (fun _ => pv 0)) de_int (fun _ _ => rfl)) dl_nil)))) (dw_or (dt_not (dt_chainC cd_le cd_lt de_int (de_ixA (de_var (fun _ => pv 0)) de_int (fun _ _ => rfl)) (de_var (fun _ => pv 1)))) (dw_or1 (dt_not (dt_val (de_call (fun _ pa => pe_call G_is_whole (hr.mono (by decide)) (by rfl) D_is_whole.m D_is_whole.F.kp D_is_whole.b .nil pass0 pa) (dl_val (de_ixA (de_var (fun _ => pv 0)) de_int (fun _ _ => rfl)) dl_nil))))))))) (dss_one (ds_ret de_bl)) dss_nil)
  (dss_cons (ds_if (dt_cmpC (cd_eq (fun _ => ru64 hr)) (de_ixA (de_var (fun _ => pv 0)) de_int (fun _ _ => rfl)) de_str (nomark _)) (dss_one (ds_ret (de_chainC cd_le cd_lt de_int (de_ixA (de_var (fun _ => pv 0)) de_int (fun _ _ => rfl)) (de_var (fun _ => pv 1))))) dss_nil)
  (dss_one (ds_ret (de_and (de_cmpC (cd_eq (fun _ => ru64 hr)) (de_ixA (de_var (fun _ => pv 0)) de_int (fun _ _ => rfl)) de_str (nomark _)) (de_one (de_chainC cd_le cd_le de_int (de_ixA (de_var (fun _ => pv 0)) de_int (fun _ _ => rfl)) (de_c (fun _ => pe_gint (by rfl) GCO.c_MOST_TIMES) (fun _ _ _ => .int _)))))))))))) (fun δ Qd l h => ?_)
  obtain ⟨z, rfl, t, hq⟩ := h
  refine ⟨rfl, _, _, rfl, rfl, _, rfl, _, rfl, _, rfl, true, rfl, _, rfl, ite_f rfl ?_⟩
  refine ⟨_, rfl, dEq_str (by decide +kernel) (by decide +kernel) true (by decide) ⟨_, rfl, ite_t rfl ?_⟩⟩
  refine dEq_int (i := 2) (j := 2) true (by decide) ⟨_, rfl, ?_⟩
  exact ⟨_, rfl, rfl, z, rfl, t, hq⟩
end
theorem sc_rule_length : FnScope ["rule", "lengths"] ["rule", "lengths"] (defScope s_rule_length) := ⟨rfl, rfl, rfl, by decide +kernel, rfl, by decide +kernel, by decide +kernel⟩
section
variable {P : Program} {w : World} {K : PySem.W.Frag} {mg : Str → Option Value} {base : Heap}
theorem ok_rule_length (D_rule_length : Dn K mg "rule_length" s_rule_length ["rule", "lengths"]) (T : TB mg) : FnOk P w K mg base CX0 1 D_rule_length.f D_rule_length.fd ["rule", "lengths"] (dsp K 2 sp_rule_length) := by
  refine fn_d (k := 0) (N := ["rule", "lengths"]) D_rule_length.F sc_rule_length (fun cdv A outer s H E hr => (dss_cons (ds_if (dt_cmpC (cd_eq (fun _ => ru64 hr)) (de_ixA (de_var (fun _ => pv 0)) de_int (fun _ _ => rfl)) de_str (nomark _)) (dss_one (ds_ret (de_callB (fun _ => cr_len rfl) rc_len (fun _ => by rfl) (fun _ => T.len) PySem.boot_len (da_cons (de_ixA (de_var (fun _ => pv 0)) de_int (fun _ _ => rfl)) da_nil)))) dss_nil)
  (dss_cons (ds_if (dt_cmpC (cd_eq (fun _ => ru64 hr)) (de_ixA (de_var (fun _ => pv 0)) de_int (fun _ _ => rfl)) de_str (nomark _)) (dss_one (ds_ret (de_add (de_ixA (de_var (fun _ => pv 1)) (de_ixA (de_var (fun _ => pv 0)) de_int (fun _ _ => rfl)) (fun _ _ => rfl)) (de_ixA (de_var (fun _ => pv 1)) (de_ixA (de_var (fun _ => pv 0)) de_int (fun _ _ => rfl)) (fun _ _ => rfl))))) dss_nil)
  (dss_one (ds_ret (de_mulA (de_ixA (de_var (fun _ => pv 1)) (de_ixA (de_var (fun _ => pv 0)) de_int (fun _ _ => rfl)) (fun _ _ => rfl)) (de_ixA (de_var (fun _ => pv 0)) de_int (fun _ _ => rfl)))))))) (fun δ Qd l h => ?_)
  obtain ⟨z, rfl, t, hq⟩ := h
  refine ⟨_, rfl, dEq_str (by decide +kernel) (by decide +kernel) true (by decide) ⟨_, rfl, ite_t rfl ?_⟩⟩
  exact ⟨_, rfl, lz t, hq⟩
end
theorem sc_Grammar_init : FnScope ["self", "rules", "lengths", "rule", "at"] ["self", "rules"] (defScope s_Grammar_init) := ⟨rfl, rfl, rfl, by decide +kernel, rfl, by decide +kernel, by decide +kernel⟩
section
variable {P : Program} {w : World} {K : PySem.W.Frag} {mg : Str → Option Value} {base : Heap}
theorem ok_Grammar_init (C_Grammar : OC_Grammar K mg) (D_is_sequence : Dn K mg "is_sequence" s_is_sequence ["thing"]) (G_is_sequence : FnOk P w K mg base CX0 1 D_is_sequence.f D_is_sequence.fd ["thing"] (dsp K 1 sp_is_sequence)) (D_is_rule : Dn K mg "is_rule" s_is_rule ["thing", "at"]) (G_is_rule : FnOk P w K mg base CX0 3 D_is_rule.f D_is_rule.fd ["thing", "at"] (dsp K 2 sp_is_rule)) (D_rule_length : Dn K mg "rule_length" s_rule_length ["rule", "lengths"]) (G_rule_length : FnOk P w K mg base CX0 1 D_rule_length.f D_rule_length.fd ["rule", "lengths"] (dsp K 2 sp_rule_length)) (T : TB mg) : FnOk P w K mg base CX0 4 C_Grammar.f C_Grammar.fd ["self", "rules"] (dspI K C_Grammar.C 1 sp_Grammar) := by
  refine fn_init (k := 3) C_Grammar.F sc_Grammar_init (fun cdv A outer s H E hr => (dss_cons (ds_if (dt_not (dt_val (de_call (fun _ pa => pe_call G_is_sequence (hr.mono (by decide)) (by rfl) D_is_sequence.m D_is_sequence.F.kp D_is_sequence.b .nil pass0 pa) (dl_val (de_var (fun _ => pv 1)) dl_nil)))) (dss_one ds_never) dss_nil)
  (dss_cons (ds_for (fun _ => rfl) (di_enumL (fun _ => by rfl) (fun _ => T.enumerate) (da_cons (de_var (fun _ => pv 1)) da_nil)) (dg_tup (n := 2) (dgs_cons (dg_name (i := 4) (fun _ => pg_name sc_Grammar_init.nd rfl (by first | exact Or.inl rfl | exact Or.inr rfl))) (dgs_cons (dg_name (i := 3) (fun _ => pg_name sc_Grammar_init.nd rfl (by first | exact Or.inl rfl | exact Or.inr rfl))) dgs_nil))) (dss_one (ds_if (dt_not (dt_val (de_call (fun _ pa => pe_call G_is_rule (hr.mono (by decide)) (by rfl) D_is_rule.m D_is_rule.F.kp D_is_rule.b .nil pass0 pa) (dl_val (de_var (fun _ => pv 3)) (dl_val (de_var (fun _ => pv 4)) dl_nil))))) (dss_one ds_never) dss_nil)) (fun _ => PassesOwn.never))
  (dss_cons (ds_fld (fun _ => pv 0) (de_callTy (fun _ => cr_tuple rfl) rc_tuple (fun _ => by rfl) (fun _ => T.tuple_) (by decide +kernel) (da_cons (de_n (dn_lc (o := true) (own := [(("rule" : Str), 3)]) (fun _ => rfl) (fun _ => sc_Grammar_init.nd) (di_seq (de_var (fun _ => pv 1))) (fun _ => (blkOk_by (own := [(("rule" : Str), 3)]) (N := ["self", "rules", "lengths", "rule", "at"]) (sc := defScope s_Grammar_init) (by decide +kernel))) (dg_name (i := 3) (fun _ => pg_name sc_Grammar_init.nd rfl (by first | exact Or.inl rfl | exact Or.inr rfl))) dts_nil (de_callTy (fun _ => cr_tuple rfl) rc_tuple (fun _ => by rfl) (fun _ => T.tuple_) (by decide +kernel) (da_cons (de_callTy (fun _ => cr_list rfl) rc_list (fun _ => by rfl) (fun _ => T.list_) (by decide +kernel) (da_cons (de_var (fun _ => pv 3)) da_nil)) da_nil)) (by decide))) da_nil)))
  (dss_cons (ds_own (fun _ p => ps_set (i := 2) sc_Grammar_init.nd rfl (by first | exact Or.inl rfl | exact Or.inr rfl) p) (dn_lst da_nil))
  (dss_cons (ds_for (fun _ => rfl) (di_seq (de_fldO (fun _ => pv 0))) (dg_name (i := 3) (fun _ => pg_name sc_Grammar_init.nd rfl (by first | exact Or.inl rfl | exact Or.inr rfl))) (dss_one (ds_app (fun _ p => ps_expr (pe_bm PySem.F.plainAttrs_list PySem.F.slot_list_append PySem.F.type_list_append mt_append (pv 2) (pa_cons p pa_nil))) (de_flat (de_call (fun _ pa => pe_call G_rule_length (hr.mono (by decide)) (by rfl) D_rule_length.m D_rule_length.F.kp D_rule_length.b .nil pass0 pa) (dl_val (de_var (fun _ => pv 3)) (dl_val (de_varO (fun _ => pv 2)) dl_nil)))))) (fun _ => PassesOwn.never))
  (dss_frz 2 (dss_one (ds_fld (fun _ => pv 0) (de_callTy (fun _ => cr_tuple rfl) rc_tuple (fun _ => by rfl) (fun _ => T.tuple_) (by decide +kernel) (da_cons (de_var (fun _ => pv 2)) da_nil))))))))))) (fun δ Qd a l h => ?_)
  obtain ⟨z, rfl, t, hq⟩ := h
  refine ⟨rfl, _, _, rfl, rfl, _, rfl, ite_f rfl ?_⟩
  refine ⟨rfl, rfl, rfl, z, rfl, t, _, rfl, ite_f rfl ?_⟩
  refine ⟨rfl, (by show 1 < sizeLine; decide), ?_⟩
  refine lc_map (g := ruleT) ruleT [z] (fun x m Q q => q) ?_
  refine ⟨C_Grammar.cl, C_Grammar.na _ (by simp), (by show 0 < 1000; decide), ?_⟩
  refine ⟨(by show 0 ≤ sizeLine; decide), fun a2 => ?_⟩
  refine ⟨C_Grammar.cl, C_Grammar.na _ (by simp), _, rfl, ?_⟩
  refine ⟨rfl, z, rfl, t, rfl, (by show 0 < sizeLine; decide), ?_⟩
  refine ⟨C_Grammar.cl, C_Grammar.na _ (by simp), (by show 1 < 1000; decide), ?_⟩
  exact ⟨_, rfl, hq⟩
end
end My
set_option maxHeartbeats 4000000
namespace My
open PySem PySem.Spec PyProof.Rows L2 Lcn Sq Dl
structure AllC (K : PySem.W.Frag) (mg : Str → Option Value) where
  x_Clash : OC_Clash K mg
  x_Shape : OC_Shape K mg
  x_Answer : OC_Answer K mg
  x_Carries : OC_Carries K mg
  x_Look : OC_Look K mg
  x_Trail : OC_Trail K mg
  x_Case : OC_Case K mg
  x_Run : OC_Run K mg
  x_Way : OC_Way K mg
  x_Never : OC_Never K mg
  x_Trial : OC_Trial K mg
  x_Canon : OC_Canon K mg
  x_Settled : OC_Settled K mg
  x_Guess : OC_Guess K mg
  x_Pressed : OC_Pressed K mg
  x_Stages : OC_Stages K mg
  x_Entry : OC_Entry K mg
  x_Root : OC_Root K mg
  x_Found : OC_Found K mg
  x_Shut : OC_Shut K mg
  x_Book : OC_Book K mg
  x_Grammar : OC_Grammar K mg
  x_Filling : OC_Filling K mg
  x_Paper : OC_Paper K mg
def gramD (Cg : Addr) (z : Str) : Dt := .ins Cg (gramF z)
def nmD : Dt := .str "?x"
def wdD : Dt := .tup [nmD, .tup [.int 0]]
def sp_is_name : Spc := fun δ Q => δ = [.val nmD] ∧ Q (.bl true)
def sp_goes_on : Spc := fun δ Q => ∃ d, δ = [.val (.tup [nmD, d]), .val (.lst [])] ∧ Q (.bl true)
def sp_check_word (Cg : Addr) : Spc := fun δ Q => ∃ z, δ = [.val (gramD Cg z), .val (.tup [.int 0])] ∧ Q .non
def sp_is_word (Cg : Addr) : Spc := fun δ Q => ∃ z, δ = [.val (.tup [.int 0]), .val (gramD Cg z)] ∧ Q (.bl true)
def fillF (Cg : Addr) (z : Str) : List (Str × Dt) := [("grammar", gramD Cg z), ("words", .tup [wdD])]
def sp_Filling (Cg : Addr) : SpcI := fun δ Q => ∃ z, δ = [.val (gramD Cg z), .val (.lst [wdD])] ∧ Q (fillF Cg z)
def fillD (Cg Cf : Addr) (z : Str) : Dt := .ins Cf (fillF Cg z)
def sp_filling_of (Cg Cf : Addr) : Spc := fun δ Q => ∃ z, δ = [.val (.lst [.tup [nmD, .str z]])] ∧ TextOk z ∧ Q (fillD Cg Cf z)
def sp_Paper : SpcI := fun δ Q => ∃ xs ys, δ = [.val (.tup xs), .val (.tup ys)] ∧ Q [("deeds", .tup xs), ("entries", .tup ys)]
theorem ok_name : PyData.strOk ("?x" : Str) = true := by decide +kernel
theorem sc_is_name : FnScope ["thing", "sign"] ["thing"] (defScope s_is_name) := ⟨rfl, rfl, rfl, by decide +kernel, rfl, by decide +kernel, by decide +kernel⟩
section
variable {P : Program} {w : World} {K : PySem.W.Frag} {mg : Str → Option Value} {base : Heap}
theorem ok_is_name (A : AllC K mg) (D_is_name : Dn K mg "is_name" s_is_name ["thing"]) (GCO : GCs mg) (T : TB mg) : FnOk P w K mg base CX0 1 D_is_name.f D_is_name.fd ["thing"] (dsp K 1 sp_is_name) := by
  refine fn_d (k := 0) (N := ["thing", "sign"]) D_is_name.F sc_is_name (fun cdv Ar outer s H E hr => (dss_cons (ds_if (dt_w (dw_or (dt_not (dt_val (de_isi1 (de_var (fun _ => pv 0)) (fun _ => pe_bltn (v := .ty "str") (by rfl) T.str_ (by decide +kernel) rfl) (fun _ => by rfl) (fun _ => T.isinstance)))) (dw_or (dt_cmpC (cd_ne (fun _ => ru64 hr)) (de_slice (de_var (fun _ => pv 0)) do_none (do_some de_int)) de_str (nomark _)) (dw_or1 (dt_not (dt_chainC cd_le cd_le de_int (de_sub (de_callB (fun _ => cr_len rfl) rc_len (fun _ => by rfl) (fun _ => T.len) PySem.boot_len (da_cons (de_var (fun _ => pv 0)) da_nil)) de_int) (de_c (fun _ => pe_gint (by rfl) GCO.c_LONGEST_NAME) (fun _ _ _ => .int _)))))))) (dss_one (ds_ret de_bl)) dss_nil)
  (dss_one (ds_ret (de_callB (fun _ => cr_allK2 rfl rfl) rc_all (fun _ => by rfl) (fun _ => T.all_) (by decide +kernel) (da_cons (de_n (dn_lc (o := true) (own := [(("sign" : Str), 1)]) (fun _ => rfl) (fun _ => sc_is_name.nd) (di_str (de_slice (de_var (fun _ => pv 0)) (do_some de_int) do_none)) (fun _ => (blkOk_by (own := [(("sign" : Str), 1)]) (N := ["thing", "sign"]) (sc := defScope s_is_name) (by decide +kernel))) (dg_name (i := 1) (fun _ => pg_name sc_is_name.nd rfl (by first | exact Or.inl rfl | exact Or.inr rfl))) dts_nil (de_cmpC (cd_in (fun _ => ru65 hr)) (de_var (fun _ => pv 1)) (de_c (fun _ => pe_gstr (by rfl) GCO.c_SMALL_LETTERS) (fun _ _ _ => .str _)) (by rfl)) (by decide))) da_nil)))))) (fun δ Qd l h => ?_)
  obtain ⟨rfl, hq⟩ := h
  have l2 : (("?x" : Str).length) ≤ sizeLine := by show 2 ≤ sizeLine; decide
  refine ⟨_, rfl, _, rfl, ite_f rfl ?_⟩
  refine ⟨_, rfl, l2, dEq_str (by decide +kernel) (by decide +kernel) false (by decide +kernel) ⟨_, rfl, ite_f rfl ?_⟩⟩
  refine ⟨l2, _, rfl, ite_t rfl ⟨_, rfl, ite_f rfl ?_⟩⟩
  refine ⟨_, rfl, l2, ?_⟩
  have e : cutS ("?x" : Str) (some 1) none = ⟨#[120]⟩ := by decide +kernel
  rw [e]
  refine ⟨rfl, (by show 1 < sizeLine; decide), ?_⟩
  refine lc_map (g := fun c : Nat => Dt.str ⟨#[c]⟩) (fun _ : Nat => Dt.bl true) [120] (fun c m Q q => ?_) ?_
  · refine dIn_sign ?_
    rw [List.mem_singleton] at m
    subst m
    rw [if_neg Bool.false_ne_true, decide_eq_true (by decide +kernel)]
    exact q
  · rw [rep_bl]
    exact all_bl hq
end
theorem sc_is_fresh_name : FnScope ["thing", "sign"] ["thing"] (defScope s_is_fresh_name) := ⟨rfl, rfl, rfl, by decide +kernel, rfl, by decide +kernel, by decide +kernel⟩
section
variable {P : Program} {w : World} {K : PySem.W.Frag} {mg : Str → Option Value} {base : Heap}
theorem ok_is_fresh_name (D_is_fresh_name : Dn K mg "is_fresh_name" s_is_fresh_name ["thing"]) : FnOk P w K mg base CX0 1 D_is_fresh_name.f D_is_fresh_name.fd ["thing"] (dsp K 1 sp_no) := fn_no (k := 0) D_is_fresh_name.F sc_is_fresh_name
end
theorem sc_goes_on : FnScope ["thing", "kept"] ["thing", "kept"] (defScope s_goes_on) := ⟨rfl, rfl, rfl, by decide +kernel, rfl, by decide +kernel, by decide +kernel⟩
section
variable {P : Program} {w : World} {K : PySem.W.Frag} {mg : Str → Option Value} {base : Heap}
theorem ok_goes_on (A : AllC K mg) (D_goes_on : Dn K mg "goes_on" s_goes_on ["thing", "kept"]) (D_is_fresh_name : Dn K mg "is_fresh_name" s_is_fresh_name ["thing"]) (G_is_fresh_name : FnOk P w K mg base CX0 1 D_is_fresh_name.f D_is_fresh_name.fd ["thing"] (dsp K 1 sp_no)) (D_is_name : Dn K mg "is_name" s_is_name ["thing"]) (G_is_name : FnOk P w K mg base CX0 1 D_is_name.f D_is_name.fd ["thing"] (dsp K 1 sp_is_name)) (D_is_couple : Dn K mg "is_couple" s_is_couple ["thing"]) (G_is_couple : FnOk P w K mg base CX0 2 D_is_couple.f D_is_couple.fd ["thing"] (dsp K 1 sp_is_couple)) (T : TB mg) : FnOk P w K mg base CX0 3 D_goes_on.f D_goes_on.fd ["thing", "kept"] (dsp K 2 sp_goes_on) := by
  refine fn_d (k := 2) (N := ["thing", "kept"]) D_goes_on.F sc_goes_on (fun cdv Ar outer s H E hr => (dss_cons (ds_if (dt_w (dw_or (dt_not (dt_val (de_call (fun _ pa => pe_call G_is_couple (hr.mono (by decide)) (by rfl) D_is_couple.m D_is_couple.F.kp D_is_couple.b .nil pass0 pa) (dl_val (de_var (fun _ => pv 0)) dl_nil)))) (dw_or1 (dt_not (dt_w (dw_or (dt_val (de_call (fun _ pa => pe_call G_is_name (hr.mono (by decide)) (by rfl) D_is_name.m D_is_name.F.kp D_is_name.b .nil pass0 pa) (dl_val (de_ixA (de_var (fun _ => pv 0)) de_int (fun _ _ => rfl)) dl_nil))) (dw_or1 (dt_val (de_call (fun _ pa => pe_call G_is_fresh_name (hr.mono (by decide)) (by rfl) D_is_fresh_name.m D_is_fresh_name.F.kp D_is_fresh_name.b .nil pass0 pa) (dl_val (de_ixA (de_var (fun _ => pv 0)) de_int (fun _ _ => rfl)) dl_nil)))))))))) (dss_one (ds_ret de_bl)) dss_nil)
  (dss_one (ds_ret (de_or (de_notT (de_var (fun _ => pv 1))) (de_one (de_cmpC cd_lt (de_ixA (de_ixA (de_var (fun _ => pv 1)) (de_neg de_int) (fun _ _ => rfl)) de_int (fun _ _ => rfl)) (de_ixA (de_var (fun _ => pv 0)) de_int (fun _ _ => rfl)) (nomark _)))))))) (fun δ Qd l h => ?_)
  obtain ⟨d, rfl, hq⟩ := h
  refine ⟨rfl, _, _, rfl, rfl, rfl, _, rfl, ite_f rfl ?_⟩
  refine ⟨_, rfl, rfl, rfl, _, rfl, ite_t rfl (ite_f rfl ?_)⟩
  exact ⟨trivial, false, rfl, true, rfl, hq⟩
end
theorem sc_check_word : FnScope ["grammar", "word", "symbol"] ["grammar", "word"] (defScope s_check_word) := ⟨rfl, rfl, rfl, by decide +kernel, rfl, by decide +kernel, by decide +kernel⟩
section
variable {P : Program} {w : World} {K : PySem.W.Frag} {mg : Str → Option Value} {base : Heap}
theorem ok_check_word (A : AllC K mg) (D_check_word : Dn K mg "check_word" s_check_word ["grammar", "word"]) (D_is_sequence : Dn K mg "is_sequence" s_is_sequence ["thing"]) (G_is_sequence : FnOk P w K mg base CX0 1 D_is_sequence.f D_is_sequence.fd ["thing"] (dsp K 1 sp_is_sequence)) (D_is_whole : Dn K mg "is_whole" s_is_whole ["thing"]) (G_is_whole : FnOk P w K mg base CX0 1 D_is_whole.f D_is_whole.fd ["thing"] (dsp K 1 sp_is_whole)) (T : TB mg) : FnOk P w K mg base CX0 2 D_check_word.f D_check_word.fd ["grammar", "word"] (dsp K 2 (sp_check_word A.x_Grammar.C)) := by
  refine fn_d (k := 1) (N := ["grammar", "word", "symbol"]) D_check_word.F sc_check_word (fun cdv Ar outer s H E hr => (dss_cons (ds_if (dt_not (dt_val (de_call (fun _ pa => pe_call G_is_sequence (hr.mono (by decide)) (by rfl) D_is_sequence.m D_is_sequence.F.kp D_is_sequence.b .nil pass0 pa) (dl_val (de_var (fun _ => pv 1)) dl_nil)))) (dss_one ds_never) dss_nil)
  (dss_one (ds_for (fun _ => rfl) (di_seq (de_var (fun _ => pv 1))) (dg_name (i := 2) (fun _ => pg_name sc_check_word.nd rfl (by first | exact Or.inl rfl | exact Or.inr rfl))) (dss_one (ds_if (dt_w (dw_or (dt_not (dt_val (de_call (fun _ pa => pe_call G_is_whole (hr.mono (by decide)) (by rfl) D_is_whole.m D_is_whole.F.kp D_is_whole.b .nil pass0 pa) (dl_val (de_var (fun _ => pv 2)) dl_nil)))) (dw_or1 (dt_not (dt_chainC cd_le cd_lt de_int (de_var (fun _ => pv 2)) (de_callB (fun _ => cr_len rfl) rc_len (fun _ => by rfl) (fun _ => T.len) PySem.boot_len (da_cons (de_fld (de_var (fun _ => pv 0))) da_nil))))))) (dss_one ds_never) dss_nil)) (fun _ => PassesOwn.never))))) (fun δ Qd l h => ?_)
  obtain ⟨z, rfl, hq⟩ := h
  refine ⟨rfl, _, _, rfl, rfl, _, rfl, ite_f rfl ?_⟩
  refine ⟨rfl, _, rfl, _, rfl, ?_⟩
  refine ⟨_, rfl, ?_⟩
  refine ite_t rfl ⟨A.x_Grammar.cl, A.x_Grammar.na _ (by simp), _, rfl, _, rfl, ?_⟩
  exact hq
end
theorem sc_is_word : FnScope ["thing", "grammar"] ["thing", "grammar"] (defScope s_is_word) := ⟨rfl, rfl, rfl, by decide +kernel, rfl, by decide +kernel, by decide +kernel⟩
section
variable {P : Program} {w : World} {K : PySem.W.Frag} {mg : Str → Option Value} {base : Heap}
theorem ok_is_word (A : AllC K mg) (D_is_word : Dn K mg "is_word" s_is_word ["thing", "grammar"]) (D_check_word : Dn K mg "check_word" s_check_word ["grammar", "word"]) (G_check_word : FnOk P w K mg base CX0 2 D_check_word.f D_check_word.fd ["grammar", "word"] (dsp K 2 (sp_check_word A.x_Grammar.C))) (T : TB mg) : FnOk P w K mg base CX0 3 D_is_word.f D_is_word.fd ["thing", "grammar"] (dsp K 2 (sp_is_word A.x_Grammar.C)) := by
  refine fn_d (k := 2) (N := ["thing", "grammar"]) D_is_word.F sc_is_word (fun cdv Ar outer s H E hr => (dss_cons (ds_tryThru (dss_one (ds_expr (de_call (fun _ pa => pe_call G_check_word (hr.mono (by decide)) (by rfl) D_check_word.m D_check_word.F.kp D_check_word.b .nil pass0 pa) (dl_val (de_var (fun _ => pv 1)) (dl_val (de_var (fun _ => pv 0)) dl_nil))))))
  (dss_one (ds_ret de_bl)))) (fun δ Qd l h => ?_)
  obtain ⟨z, rfl, hq⟩ := h
  exact ⟨rfl, z, rfl, hq⟩
end
theorem sc_Filling_init : FnScope ["self", "grammar", "words", "kept", "at", "couple"] ["self", "grammar", "words"] (defScope s_Filling_init) := ⟨rfl, rfl, rfl, by decide +kernel, rfl, by decide +kernel, by decide +kernel⟩
section
variable {P : Program} {w : World} {K : PySem.W.Frag} {mg : Str → Option Value} {base : Heap}
theorem ok_Filling_init (A : AllC K mg) (D_is_sequence : Dn K mg "is_sequence" s_is_sequence ["thing"]) (G_is_sequence : FnOk P w K mg base CX0 1 D_is_sequence.f D_is_sequence.fd ["thing"] (dsp K 1 sp_is_sequence)) (D_is_word : Dn K mg "is_word" s_is_word ["thing", "grammar"]) (G_is_word : FnOk P w K mg base CX0 3 D_is_word.f D_is_word.fd ["thing", "grammar"] (dsp K 2 (sp_is_word A.x_Grammar.C))) (D_goes_on : Dn K mg "goes_on" s_goes_on ["thing", "kept"]) (G_goes_on : FnOk P w K mg base CX0 3 D_goes_on.f D_goes_on.fd ["thing", "kept"] (dsp K 2 sp_goes_on)) (T : TB mg) : FnOk P w K mg base CX0 4 A.x_Filling.f A.x_Filling.fd ["self", "grammar", "words"] (dspI K A.x_Filling.C 2 (sp_Filling A.x_Grammar.C)) := by
  refine fn_init (k := 3) A.x_Filling.F sc_Filling_init (fun cdv Ar outer s H E hr => (dss_cons (ds_if (dt_not (dt_val (de_call (fun _ pa => pe_call G_is_sequence (hr.mono (by decide)) (by rfl) D_is_sequence.m D_is_sequence.F.kp D_is_sequence.b .nil pass0 pa) (dl_val (de_var (fun _ => pv 2)) dl_nil)))) (dss_one ds_never) dss_nil)
  (dss_cons (ds_own (fun _ p => ps_set (i := 3) sc_Filling_init.nd rfl (by first | exact Or.inl rfl | exact Or.inr rfl) p) (dn_lst da_nil))
  (dss_cons (ds_for (fun _ => rfl) (di_enumL (fun _ => by rfl) (fun _ => T.enumerate) (da_cons (de_var (fun _ => pv 2)) da_nil)) (dg_tup (n := 2) (dgs_cons (dg_name (i := 4) (fun _ => pg_name sc_Filling_init.nd rfl (by first | exact Or.inl rfl | exact Or.inr rfl))) (dgs_cons (dg_name (i := 5) (fun _ => pg_name sc_Filling_init.nd rfl (by first | exact Or.inl rfl | exact Or.inr rfl))) dgs_nil))) (dss_cons (ds_if (dt_w (dw_or (dt_not (dt_val (de_call (fun _ pa => pe_call G_goes_on (hr.mono (by decide)) (by rfl) D_goes_on.m D_goes_on.F.kp D_goes_on.b .nil pass0 pa) (dl_val (de_var (fun _ => pv 5)) (dl_val (de_varO (fun _ => pv 3)) dl_nil))))) (dw_or1 (dt_not (dt_val (de_call (fun _ pa => pe_call G_is_word (hr.mono (by decide)) (by rfl) D_is_word.m D_is_word.F.kp D_is_word.b .nil pass0 pa) (dl_val (de_ixA (de_var (fun _ => pv 5)) de_int (fun _ _ => rfl)) (dl_val (de_var (fun _ => pv 1)) dl_nil)))))))) (dss_one ds_never) dss_nil)
  (dss_one (ds_app (fun _ p => ps_expr (pe_bm PySem.F.plainAttrs_list PySem.F.slot_list_append PySem.F.type_list_append mt_append (pv 3) (pa_cons p pa_nil))) (de_tup (da_cons (de_ixA (de_var (fun _ => pv 5)) de_int (fun _ _ => rfl)) (da_cons (de_callTy (fun _ => cr_tuple rfl) rc_tuple (fun _ => by rfl) (fun _ => T.tuple_) (by decide +kernel) (da_cons (de_callTy (fun _ => cr_list rfl) rc_list (fun _ => by rfl) (fun _ => T.list_) (by decide +kernel) (da_cons (de_ixA (de_var (fun _ => pv 5)) de_int (fun _ _ => rfl)) da_nil)) da_nil)) da_nil)))))) (fun _ => PassesOwn.never))
  (dss_cons (ds_fld (fun _ => pv 0) (de_var (fun _ => pv 1)))
  (dss_frz 3 (dss_one (ds_fld (fun _ => pv 0) (de_callTy (fun _ => cr_tuple rfl) rc_tuple (fun _ => by rfl) (fun _ => T.tuple_) (by decide +kernel) (da_cons (de_var (fun _ => pv 3)) da_nil)))))))))) (fun δ Qd a l h => ?_)
  obtain ⟨z, rfl, hq⟩ := h
  refine ⟨rfl, _, _, rfl, rfl, _, rfl, ite_f rfl ?_⟩
  refine ⟨(by show 0 ≤ sizeLine; decide), fun a2 => ?_⟩
  refine ⟨rfl, rfl, rfl, _, rfl, _, rfl, ite_f rfl ?_⟩
  refine ⟨_, rfl, rfl, z, rfl, _, rfl, ite_f rfl ?_⟩
  refine ⟨_, rfl, _, rfl, (by show 2 ≤ sizeLine; decide), (by show 0 < sizeLine; decide), ?_⟩
  refine ⟨A.x_Filling.cl, A.x_Filling.na _ (by simp), (by show 0 < 1000; decide), ?_⟩
  refine ⟨A.x_Filling.cl, A.x_Filling.na _ (by simp), (by show 1 < 1000; decide), ?_⟩
  exact ⟨_, rfl, hq⟩
end
theorem sc_filling_of : FnScope ["texts", "rules", "words", "at", "couple"] ["texts"] (defScope s_filling_of) := ⟨rfl, rfl, rfl, by decide +kernel, rfl, by decide +kernel, by decide +kernel⟩
section
variable {P : Program} {w : World} {K : PySem.W.Frag} {mg : Str → Option Value} {base : Heap}
theorem ok_filling_of (A : AllC K mg) (D_filling_of : Dn K mg "filling_of" s_filling_of ["texts"]) (D_is_sequence : Dn K mg "is_sequence" s_is_sequence ["thing"]) (G_is_sequence : FnOk P w K mg base CX0 1 D_is_sequence.f D_is_sequence.fd ["thing"] (dsp K 1 sp_is_sequence)) (D_is_text : Dn K mg "is_text" s_is_text ["thing"]) (G_is_text : FnOk P w K mg base CX0 1 D_is_text.f D_is_text.fd ["thing"] (dsp K 1 sp_is_text)) (D_goes_on : Dn K mg "goes_on" s_goes_on ["thing", "kept"]) (G_goes_on : FnOk P w K mg base CX0 3 D_goes_on.f D_goes_on.fd ["thing", "kept"] (dsp K 2 sp_goes_on)) (G_Filling_init : FnOk P w K mg base CX0 4 A.x_Filling.f A.x_Filling.fd ["self", "grammar", "words"] (dspI K A.x_Filling.C 2 (sp_Filling A.x_Grammar.C))) (G_Grammar_init : FnOk P w K mg base CX0 4 A.x_Grammar.f A.x_Grammar.fd ["self", "rules"] (dspI K A.x_Grammar.C 1 sp_Grammar)) (T : TB mg) : FnOk P w K mg base CX0 6 D_filling_of.f D_filling_of.fd ["texts"] (dsp K 1 (sp_filling_of A.x_Grammar.C A.x_Filling.C)) := by
  refine fn_d (k := 5) (N := ["texts", "rules", "words", "at", "couple"]) D_filling_of.F sc_filling_of (fun cdv Ar outer s H E hr => (dss_cons (ds_if (dt_not (dt_val (de_call (fun _ pa => pe_call G_is_sequence (hr.mono (by decide)) (by rfl) D_is_sequence.m D_is_sequence.F.kp D_is_sequence.b .nil pass0 pa) (dl_val (de_var (fun _ => pv 0)) dl_nil)))) (dss_one ds_never) dss_nil)
  (dss_cons (ds_own (fun _ p => ps_set (i := 1) sc_filling_of.nd rfl (by first | exact Or.inl rfl | exact Or.inr rfl) p) (dn_lst da_nil))
  (dss_cons (ds_own (fun _ p => ps_set (i := 2) sc_filling_of.nd rfl (by first | exact Or.inl rfl | exact Or.inr rfl) p) (dn_lst da_nil))
  (dss_cons (ds_for (fun _ => rfl) (di_enumL (fun _ => by rfl) (fun _ => T.enumerate) (da_cons (de_var (fun _ => pv 0)) da_nil)) (dg_tup (n := 2) (dgs_cons (dg_name (i := 3) (fun _ => pg_name sc_filling_of.nd rfl (by first | exact Or.inl rfl | exact Or.inr rfl))) (dgs_cons (dg_name (i := 4) (fun _ => pg_name sc_filling_of.nd rfl (by first | exact Or.inl rfl | exact Or.inr rfl))) dgs_nil))) (dss_cons (ds_if (dt_w (dw_or (dt_not (dt_val (de_call (fun _ pa => pe_call G_goes_on (hr.mono (by decide)) (by rfl) D_goes_on.m D_goes_on.F.kp D_goes_on.b .nil pass0 pa) (dl_val (de_var (fun _ => pv 4)) (dl_val (de_varO (fun _ => pv 2)) dl_nil))))) (dw_or1 (dt_not (dt_w (dw_or (dt_cmpC (cd_eq (fun _ => ru64 hr)) (de_ixA (de_var (fun _ => pv 4)) de_int (fun _ _ => rfl)) de_str (nomark _)) (dw_or1 (dt_val (de_call (fun _ pa => pe_call G_is_text (hr.mono (by decide)) (by rfl) D_is_text.m D_is_text.F.kp D_is_text.b .nil pass0 pa) (dl_val (de_ixA (de_var (fun _ => pv 4)) de_int (fun _ _ => rfl)) dl_nil)))))))))) (dss_one ds_never) dss_nil)
  (dss_cons (ds_app (fun _ p => ps_expr (pe_bm PySem.F.plainAttrs_list PySem.F.slot_list_append PySem.F.type_list_append mt_append (pv 2) (pa_cons p pa_nil))) (de_tup (da_cons (de_ixA (de_var (fun _ => pv 4)) de_int (fun _ _ => rfl)) (da_cons (de_if (dt_cmpC (cd_eq (fun _ => ru64 hr)) (de_ixA (de_var (fun _ => pv 4)) de_int (fun _ _ => rfl)) de_str (nomark _)) (de_tup da_nil) (de_tup (da_cons (de_flat (de_callB (fun _ => cr_len rfl) rc_len (fun _ => by rfl) (fun _ => T.len) PySem.boot_len (da_cons (de_varO (fun _ => pv 1)) da_nil))) da_nil))) da_nil))))
  (dss_one (ds_if (dt_cmpC (cd_ne (fun _ => ru64 hr)) (de_ixA (de_var (fun _ => pv 4)) de_int (fun _ _ => rfl)) de_str (nomark _)) (dss_one (ds_app (fun _ p => ps_expr (pe_bm PySem.F.plainAttrs_list PySem.F.slot_list_append PySem.F.type_list_append mt_append (pv 1) (pa_cons p pa_nil))) (de_tup (da_cons de_str (da_cons (de_ixA (de_var (fun _ => pv 4)) de_int (fun _ _ => rfl)) da_nil))))) dss_nil)))) (fun _ => PassesOwn.never))
  (dss_one (ds_ret (de_make (fun _ pa => pe_make A.x_Filling.M G_Filling_init (hr.mono (by decide)) (by rfl) A.x_Filling.m A.x_Filling.b0 A.x_Filling.w0 pass0 pa) (fun _ _ => .nil) (dl_val (de_make (fun _ pa => pe_make A.x_Grammar.M G_Grammar_init (hr.mono (by decide)) (by rfl) A.x_Grammar.m A.x_Grammar.b0 A.x_Grammar.w0 pass0 pa) (fun _ _ => .nil) (dl_val (de_varO (fun _ => pv 1)) dl_nil)) (dl_val (de_varO (fun _ => pv 2)) dl_nil)))))))))) (fun δ Qd l h => ?_)
  obtain ⟨z, rfl, t, hq⟩ := h
  have nz : z ≠ ("" : Str) := fun e => by
    have := t.l1
    rw [e] at this
    exact absurd this (by decide)
  refine ⟨rfl, _, _, rfl, rfl, _, rfl, ite_f rfl ?_⟩
  refine ⟨(by show 0 ≤ sizeLine; decide), fun a2 => ?_⟩
  refine ⟨(by show 0 ≤ sizeLine; decide), fun a3 => ?_⟩
  refine ⟨rfl, rfl, rfl, _, rfl, _, rfl, ite_f rfl ?_⟩
  refine ⟨_, rfl, dEq_str t.ok (by decide +kernel) false (by simp [nz]) ⟨_, rfl, ite_f rfl ?_⟩⟩
  refine ⟨_, rfl, rfl, z, rfl, t, _, rfl, ite_f rfl ?_⟩
  refine ⟨_, rfl, _, rfl, dEq_str t.ok (by decide +kernel) false (by simp [nz]) ⟨_, rfl, ite_f rfl ?_⟩⟩
  refine ⟨rfl, (by show 1 ≤ sizeLine; decide), (by show 2 ≤ sizeLine; decide), (by show 0 < sizeLine; decide), ?_⟩
  refine ⟨_, rfl, dEq_str t.ok (by decide +kernel) true (by simp [nz]) ⟨_, rfl, ite_t rfl ?_⟩⟩
  refine ⟨_, rfl, (by show 2 ≤ sizeLine; decide), (by show 0 < sizeLine; decide), ?_⟩
  refine ⟨rfl, z, rfl, t, rfl, z, rfl, hq⟩
end
theorem sc_Paper_init : FnScope ["self", "deeds", "entries"] ["self", "deeds", "entries"] (defScope s_Paper_init) := ⟨rfl, rfl, rfl, by decide +kernel, rfl, by decide +kernel, by decide +kernel⟩
section
variable {P : Program} {w : World} {K : PySem.W.Frag} {mg : Str → Option Value} {base : Heap}
theorem ok_Paper_init (A : AllC K mg) (T : TB mg) : FnOk P w K mg base CX0 1 A.x_Paper.f A.x_Paper.fd ["self", "deeds", "entries"] (dspI K A.x_Paper.C 2 sp_Paper) := by
  refine fn_init (k := 0) A.x_Paper.F sc_Paper_init (fun cdv Ar outer s H E hr => (dss_cons (ds_fld (fun _ => pv 0) (de_callTy (fun _ => cr_tuple rfl) rc_tuple (fun _ => by rfl) (fun _ => T.tuple_) (by decide +kernel) (da_cons (de_callTy (fun _ => cr_list rfl) rc_list (fun _ => by rfl) (fun _ => T.list_) (by decide +kernel) (da_cons (de_var (fun _ => pv 1)) da_nil)) da_nil)))
  (dss_one (ds_fld (fun _ => pv 0) (de_callTy (fun _ => cr_tuple rfl) rc_tuple (fun _ => by rfl) (fun _ => T.tuple_) (by decide +kernel) (da_cons (de_callTy (fun _ => cr_list rfl) rc_list (fun _ => by rfl) (fun _ => T.list_) (by decide +kernel) (da_cons (de_var (fun _ => pv 2)) da_nil)) da_nil)))))) (fun δ Qd a l h => ?_)
  obtain ⟨xs, ys, rfl, hq⟩ := h
  refine ⟨A.x_Paper.cl, A.x_Paper.na _ (by simp), (by show 0 < 1000; decide), ?_⟩
  refine ⟨A.x_Paper.cl, A.x_Paper.na _ (by simp), (by show 1 < 1000; decide), ?_⟩
  exact ⟨_, rfl, hq⟩
end
end My
set_option maxHeartbeats 4000000
namespace My
open PySem PySem.Spec PyProof.Rows L2 Lcn Sq
open Dl (Src SrcOk srcO SrcAt Sc Gs Stp dsp Spc Sl Dt ArgsOk Rep)
abbrev FnP (K : PySem.W.Frag) (x : Str) (st : Stmt) (f : Addr) (fd : FuncData) : Prop := FunD K x x (defArgs st) (defBody st) (defScope st) [] [] f fd
/-- all that was tracked beside the source stands, and the source stands -/
structure Kp (a L : Addr) (ns : List Int) (H H' : Hp) : Prop where
  keep : ∀ b o, b ≠ a → H b = some o → H' b = some o
  src : Src H' a L ns
theorem Kp.refl {a L : Addr} {ns : List Int} {H : Hp} (s : Src H a L ns) : Kp a L ns H H := ⟨fun _ _ _ h => h, s⟩
theorem Kp.trans {a L : Addr} {ns : List Int} {H H1 H2 : Hp} (x : Kp a L ns H H1) (y : Kp a L ns H1 H2) : Kp a L ns H H2 := ⟨fun b o n h => y.keep b o n (x.keep b o n h), y.src⟩
theorem Src.ne {a L : Addr} {ns : List Int} {H : Hp} {p : Addr} (s : Src H a L ns) (h : H p = none) : a ≠ p := by
  obtain ⟨_, _, _, q⟩ := s
  exact ne_of_none q.at_ h
theorem Src.kept {a L : Addr} {ns : List Int} {H H' : Hp} (s : Src H a L ns) (k : ∀ b o, H b = some o → H' b = some o) : Src H' a L ns := by
  obtain ⟨p, h, m, q⟩ := s
  exact ⟨p, h, m, q.ok, k _ _ q.at_, k _ _ q.ls, q.ne⟩
theorem Kp.same {a L : Addr} {ns : List Int} {H H' : Hp} (s : Src H a L ns) (k : ∀ b o, H b = some o → H' b = some o) : Kp a L ns H H' := ⟨fun b o _ h => k b o h, My.Src.kept s k⟩
theorem same_newA {H : Hp} {p : Addr} {o : HO} (h : H p = none) : ∀ b u, H b = some u → upd H p o b = some u := fun b u e => by
  rw [upd_ne (ne_of_none e h)]
  exact e
theorem Kp.new {a L : Addr} {ns : List Int} {H : Hp} {p : Addr} {o : HO} (s : Src H a L ns) (h : H p = none) : Kp a L ns H (upd H p o) := Kp.same s (same_newA h)
theorem Kp.upd {a L : Addr} {ns : List Int} {H : Hp} {p h m p' h' m' : Int} (S : SrcAt H a L ns p h m) (ok : SrcOk p' h' m') : Kp a L ns H (upd H a (srcO L p' h' m')) :=
  ⟨fun b o n e => by rw [upd_ne n]; exact e, p', h', m', ok, upd_same, by rw [upd_ne S.ne]; exact S.ls, S.ne⟩
/-- a tuple stands -/
theorem Kp.tup {a L : Addr} {ns : List Int} {H H' : Hp} {t : Addr} {xs : List V} (s : Src H a L ns) (k : Kp a L ns H H') (h : H t = some (.tup xs)) : H' t = some (.tup xs) := by
  obtain ⟨p, hh, m, q⟩ := s
  exact k.keep t _ (ne_of h q.at_ (by intro z; cases z)) h
/-- the promise of _law_take: some number below many, and only the source has changed -/
def spTake : Sp := fun vs H Q _ => ∃ (a L : Addr) (ns : List Int) (many : Int), vs = [.ref a, .int many] ∧ Src H a L ns ∧ 0 < many ∧ many < 2 ^ 200 ∧
  ∀ (r : Int) (H' : Hp), 0 ≤ r → r < many → Kp a L ns H H' → Q (.int r) H'
section
variable {P : Program} {w : World} {K : PySem.W.Frag} {mg : Str → Option Value} {base : Heap}
theorem scT : FnScope ["_law_source_here", "_law_many", "_law_cell", "_law_mixed", "_law_told_here"] ["_law_source_here", "_law_many"] (defScope s__law_take) :=
  ⟨rfl, rfl, rfl, by decide +kernel, rfl, by decide +kernel, by decide +kernel⟩
theorem at0 {a b c d : V} : atI [a, b, c, d] 0 = some a := rfl
theorem at1 {a b c d : V} : atI [a, b, c, d] 1 = some b := rfl
theorem at2 {a b c d : V} : atI [a, b, c, d] 2 = some c := rfl
theorem at3 {a b c d : V} : atI [a, b, c, d] 3 = some d := rfl
theorem atI_int {ns : List Int} {p : Int} (h0 : 0 ≤ p) (h1 : p < (ns.length : Int)) : ∃ z, atI (ns.map V.int) p = some (.int z) := by
  obtain ⟨j, rfl⟩ : ∃ j : Nat, p = (j : Int) := ⟨p.toNat, by omega⟩
  have hj : j < ns.length := by omega
  exact ⟨ns[j], atI_nat (by simp [List.getElem?_map, hj])⟩
theorem pow200 {x many : Int} (h0 : 0 < many) (h1 : many < 2 ^ 200) : CDivW x many := by
  refine wide_div (b := 200) h0 ?_ (by decide) (by decide)
  have e : ((2 : Int) ^ 200) = ((2 ^ 200 : Nat) : Int) := by norm_cast
  omega
theorem ok_take {f : Addr} {fd : FuncData} (F : FnP K "_law_take" s__law_take f fd) (T : TB mg) : FnOk P w K mg base CX0 1 f fd ["_law_source_here", "_law_many"] spTake := by
  refine ok0 F scT (fun vs H Q E h => ?_) (fun cdv A outer s H vs Q E hr h => ?_)
  · obtain ⟨a, L, ns, many, rfl, _⟩ := h
    rfl
  · obtain ⟨a, L, ns, many, rfl, ⟨p, hh, m, S⟩, hm0, hm1, k0⟩ := h
    have k : ∀ (r p' h' m' : Int), 0 ≤ r → r < many → SrcOk p' h' m' → Q (.int r) (upd H a (srcO L p' h' m')) := fun r p' h' m' r0 r1 ok => k0 r _ r0 r1 (Kp.upd S ok)
    have hA := S.at_
    have hL := S.ls
    have nLa := S.ne
    have hma := hm1
    refine ⟨_, C8.pss_cut (ps_if (pt_cmpR op_eq (pe_ix ix_list (pv 0) pe_int (fun _ _ => rfl)) pe_int (nomark _))
        (pss_cons (ps_set (i := 2) scT.nd rfl (Or.inl rfl) pe_int)
        (C8.pss_cut (ps_if (pt_cmpR op_lt (pe_ix ix_list (pv 0) pe_int (fun _ _ => rfl)) (pe_callB call_len_seq (by rfl) T.len PySem.boot_len (pa_cons (pe_ix ix_list (pv 0) pe_int (fun _ _ => rfl)) pa_nil)) (nomark _))
          (pss_one (ps_set (i := 2) scT.nd rfl (Or.inl rfl) (pe_ix ix_list (pe_ix ix_list (pv 0) pe_int (fun _ _ => rfl)) (pe_ix ix_list (pv 0) pe_int (fun _ _ => rfl)) (fun _ _ => rfl)))) pss_nil)
        (pss_cons (ps_asg (pe_op op_add (pe_ix ix_list (pv 0) pe_int (fun _ _ => rfl)) pe_int) (pg_sub (pv 0) pe_int set_list))
        (pss_one (ps_if (pt_cmpR op_ge (pv 2) (pe_op op_pow pe_int pe_int) (nomark _))
          (pss_one (ps_asg (pv 2) (pg_sub (pv 0) pe_int set_list)))
          (pss_cons (ps_set (i := 3) scT.nd rfl (Or.inl rfl) (pe_op op_mod (pe_callTy call_int1 (by rfl) T.int PyProof.Rows.boot_int (pa_cons (pe_op op_add (pe_op op_add (pe_op op_add (pe_op op_mul (pe_ix ix_list (pv 0) pe_int (fun _ _ => rfl)) pe_int) (pe_op op_mul (pe_op op_mod (pe_callTy call_int1 (by rfl) T.int PyProof.Rows.boot_int (pa_cons (pv 2) pa_nil)) pe_int) pe_int)) (pe_op op_mul (pe_ix ix_list (pv 0) pe_int (fun _ _ => rfl)) pe_int)) pe_int) pa_nil)) pe_int))
          (pss_cons (ps_set (i := 3) scT.nd rfl (Or.inl rfl) (pe_op op_mod (pe_callTy call_int1 (by rfl) T.int PyProof.Rows.boot_int (pa_cons (pe_op op_add (pe_op op_add (pe_op op_mul (pv 3) (pv 3)) (pe_op op_mul (pe_ix ix_list (pv 0) pe_int (fun _ _ => rfl)) pe_int)) pe_int) pa_nil)) pe_int))
          (pss_cons (ps_asg (pv 3) (pg_sub (pv 0) pe_int set_list))
          (pss_one (ps_ret (pe_op op_mod (pe_op op_fdiv (pv 3) pe_int) (pv 1))))))))))))
        pss_nil)
      (pss_cons (ps_set (i := 4) scT.nd rfl (Or.inl rfl) (pe_op op_mod (pe_callTy call_int1 (by rfl) T.int PyProof.Rows.boot_int (pa_cons (pe_ix ix_list (pv 0) pe_int (fun _ _ => rfl)) pa_nil)) (pv 1)))
      (pss_cons (ps_asg (pe_op op_fdivW (pe_ix ix_list (pv 0) pe_int (fun _ _ => rfl)) (pv 1)) (pg_sub (pv 0) pe_int set_list))
      (pss_one (ps_ret (pv 4))))), ?_⟩
    refine ⟨fun σ' H' => ∃ (σ2 σ3 σ4 : Option V) (p1 h1 m1 : Int), σ' = [some (.ref a), some (.int many), σ2, σ3, σ4] ∧ H' = upd H a (srcO L p1 h1 m1) ∧ SrcOk p1 h1 m1, ?_, ?_⟩
    · refine ⟨_, rfl, a, _, 2, _, rfl, rfl, SqL.of hA, rfl, rfl, _, rfl, ?_⟩
      refine ite2 (fun e0 => ?_) (fun e0 => ?_)
      · have h00 : hh = 0 := by simpa using e0
        refine ⟨fun σ' H' => ∃ c, σ' = [some (.ref a), some (.int many), some (.int c), none, none] ∧ H' = H, ?_, ?_⟩
        · refine ⟨_, rfl, a, _, 1, _, rfl, rfl, SqL.of hA, rfl, ?_⟩
          refine ⟨_, rfl, a, _, 0, _, rfl, rfl, SqL.of hA, rfl, L, _, rfl, .inl (SqL.of hL), _, _, rfl, rfl, _, rfl, ?_⟩
          refine ite2 (fun e1 => ?_) (fun e1 => ?_)
          · have hp : p < (ns.length : Int) := by
              have q := of_decide_eq_true e1
              rw [List.length_map] at q
              exact q
            obtain ⟨c, hc⟩ := atI_int S.ok.p0 hp
            exact ⟨_, rfl, a, _, 0, _, rfl, rfl, SqL.of hA, rfl, _, rfl, a, _, 1, _, rfl, rfl, SqL.of hA, rfl, L, _, p, _, rfl, rfl, SqL.of hL, hc, c, rfl, rfl⟩
          · exact ⟨0, rfl, rfl⟩
        · rintro σ' H' ⟨c, eσ, eH⟩
          rw [eσ, eH]
          refine ⟨_, rfl, a, _, 1, _, rfl, rfl, SqL.of hA, rfl, _, _, rfl, rfl, _, rfl, a, _, 1, 1, rfl, rfl, hA, rfl, ?_⟩
          have hB : upd H a (srcO L (p + 1) hh m) a = some (srcO L (p + 1) hh m) := upd_same
          refine ⟨_, rfl, _, _, rfl, rfl, ⟨by decide, by decide, by decide⟩, _, _, rfl, rfl, _, rfl, ?_⟩
          refine ite2 (fun e2 => ?_) (fun e2 => ?_)
          · have c18 : (10 : Int) ^ (18 : Nat) ≤ c := of_decide_eq_true e2
            refine ⟨_, rfl, _, rfl, a, _, 2, 2, rfl, rfl, hB, rfl, some (.int c), none, none, p + 1, c, m, rfl, ?_, ?_⟩
            · rw [upd_upd]
              rfl
            · exact ⟨by have := S.ok.p0; omega, by have : (0 : Int) ≤ 10 ^ (18 : Nat) := by decide
                                                   omega, S.ok.m0, S.ok.m1⟩
          · have bm : CMul m 69621 := .inr ⟨by decide, by decide⟩
            have bq : ∀ x : Int, CMul x 48271 := fun x => .inr ⟨by decide, by decide⟩
            have bp : ∀ x : Int, CMul x 7919 := fun x => .inr ⟨by decide, by decide⟩
            have bw : ∀ x : Int, CMul x 104729 := fun x => .inr ⟨by decide, by decide⟩
            -- mixed = int(..) % 2147483647
            refine ⟨_, rfl, a, _, 3, _, rfl, rfl, SqL.of hB, rfl, _, _, rfl, rfl, bm, ?_⟩
            refine ⟨_, rfl, .inl ⟨_, rfl, _, _, rfl, rfl, (by show (0 : Int) < 2147483629; decide), _, _, rfl, rfl, bq _, _, _, rfl, rfl, ?_⟩⟩
            refine ⟨_, rfl, a, _, 1, _, rfl, rfl, SqL.of hB, rfl, _, _, rfl, rfl, bp _, _, _, rfl, rfl, _, _, rfl, rfl, .inl ⟨_, rfl, _, _, rfl, rfl, (by show (0 : Int) < 2147483647; decide), ?_⟩⟩
            obtain ⟨x, hx⟩ : ∃ x, x = (m * 69621 + c % 2147483629 * 48271 + (p + 1) * 7919 + 1) % 2147483647 := ⟨_, rfl⟩
            have x0 : 0 ≤ x := by rw [hx]; exact Int.emod_nonneg _ (by decide)
            have x1 : x < 2147483647 := by rw [hx]; exact Int.emod_lt_of_pos _ (by decide)
            show tSeq _ _ _ [some (.ref a), some (.int many), some (.int c), some (.int ((m * 69621 + c % 2147483629 * 48271 + (p + 1) * 7919 + 1) % 2147483647)), none] _
            rw [← hx]
            refine ⟨_, rfl, _, rfl, _, _, rfl, rfl, .inl ⟨by omega, by omega⟩, ?_⟩
            refine ⟨_, rfl, a, _, 1, _, rfl, rfl, SqL.of hB, rfl, _, _, rfl, rfl, bw _, _, _, rfl, rfl, _, _, rfl, rfl, .inl ⟨_, rfl, _, _, rfl, rfl, (by show (0 : Int) < 2147483629; decide), ?_⟩⟩
            obtain ⟨y, hy⟩ : ∃ y, y = (x * x + (p + 1) * 104729 + 13) % 2147483629 := ⟨_, rfl⟩
            have y0 : 0 ≤ y := by rw [hy]; exact Int.emod_nonneg _ (by decide)
            have y1 : y < 2147483629 := by rw [hy]; exact Int.emod_lt_of_pos _ (by decide)
            show tSeq _ _ _ [some (.ref a), some (.int many), some (.int c), some (.int ((x * x + (p + 1) * 104729 + 13) % 2147483629)), none] _
            rw [← hy]
            refine ⟨_, rfl, _, rfl, a, _, 3, 3, rfl, rfl, hB, rfl, ?_⟩
            refine ⟨_, rfl, _, _, rfl, rfl, ⟨by decide, by decide⟩, _, rfl, _, _, rfl, rfl, hm0, ?_⟩
            rw [upd_upd]
            exact k _ (p + 1) hh y (Int.emod_nonneg _ (by omega)) (Int.emod_lt_of_pos _ hm0) ⟨by have := S.ok.p0; omega, S.ok.h0, y0, by omega⟩
      · refine ⟨none, none, none, p, hh, m, rfl, ?_, S.ok⟩
        funext b
        by_cases hb : b = a
        · rw [hb, upd_same, hA]
        · rw [upd_ne hb]
    · rintro σ' H' ⟨σ2, σ3, σ4, p1, h1, m1, eσ, eH, ok⟩
      rw [eσ, eH]
      have hA' : upd H a (srcO L p1 h1 m1) a = some (srcO L p1 h1 m1) := upd_same
      refine ⟨_, rfl, a, _, 2, _, rfl, rfl, SqL.of hA', rfl, .inl ⟨_, rfl, _, rfl, _, _, rfl, rfl, hm0, ?_⟩⟩
      refine ⟨_, rfl, a, _, 2, _, rfl, rfl, SqL.of hA', rfl, _, rfl, _, _, rfl, rfl, pow200 (x := h1) hm0 hm1, _, rfl, ?_⟩
      refine ⟨a, _, 2, 2, rfl, rfl, hA', rfl, ?_⟩
      refine ⟨_, rfl, ?_⟩
      rw [upd_upd]
      exact k _ _ _ _ (Int.emod_nonneg _ (by omega)) (Int.emod_lt_of_pos _ hm0) ⟨ok.p0, Int.ediv_nonneg ok.h0 (by omega), ok.m0, ok.m1⟩
/-! ### _law_source -/
def spSource (K : PySem.W.Frag) : Sp := fun vs H Q _ => ∃ (a : Addr) (ns : List Int), vs = [.ref a] ∧ SqL K H a (ns.map V.int) ∧ ∀ (p L : Addr) (H' : Hp), Same H H' → H p = none → Src H' p L ns → Q (.ref p) H'
theorem scSo : FnScope ["_law_script"] ["_law_script"] (defScope s__law_source) := ⟨rfl, rfl, rfl, by decide +kernel, rfl, by decide +kernel, by decide +kernel⟩
theorem ok_source {f : Addr} {fd : FuncData} (F : FnP K "_law_source" s__law_source f fd) (T : TB mg) : FnOk P w K mg base CX0 1 f fd ["_law_script"] (spSource K) := by
  refine ok0 F scSo (fun vs H Q E h => ?_) (fun cdv A outer s H vs Q E hr h => ?_)
  · obtain ⟨a, ns, rfl, _⟩ := h
    rfl
  · obtain ⟨a, ns, rfl, hS, k⟩ := h
    refine ⟨_, pss_one (ps_ret (pe_lst (pa_cons (pe_callTy call_list_of (by rfl) T.list_ (by decide +kernel) (pa_cons (pv 0) pa_nil)) (pa_cons pe_int (pa_cons pe_int (pa_cons pe_int pa_nil)))))), ?_⟩
    refine ⟨_, rfl, a, _, rfl, .inl hS, fun l hl => ⟨(by show 4 ≤ sizeLine; decide), fun p hp => ?_⟩⟩
    have nlp : l ≠ p := fun z => by
      rw [z, upd_same] at hp
      cases hp
    have hp0 : H p = none := by
      rw [upd_ne (Ne.symm nlp)] at hp
      exact hp
    refine k p l _ (fun b o e => ?_) hp0 ⟨0, 0, 1, ⟨by decide, by decide, by decide, by decide⟩, upd_same, ?_, nlp⟩
    · rw [upd_ne (ne_of_none e hp0), upd_ne (ne_of_none e hl)]
      exact e
    · rw [upd_ne nlp, upd_same]
/-! ### over data -/
open Dl
def sp_take : Spc := fun δ Q => ∃ many : Int, δ = [.src, .val (.int many)] ∧ 0 < many ∧ many < 2 ^ 200 ∧ ∀ r : Int, 0 ≤ r → r < many → Q (.int r)
theorem ok_takeD (D : Dn K mg "_law_take" s__law_take ["_law_source_here", "_law_many"]) (T : TB mg) : FnOk P w K mg base CX0 1 D.f D.fd ["_law_source_here", "_law_many"] (dsp K 2 sp_take) := by
  refine (ok_take D.F T).imp fun vs H Q E h => ?_
  obtain ⟨S, av, δ, Qd, h1, al, g, ao, hl, ⟨many, rfl, hm0, hm1, hq⟩, k⟩ := h
  have l2 : vs.length = 2 := by rw [ao.l]; rfl
  match vs, l2, ao with
  | [x, y], _, ao =>
    obtain ⟨z, hz, hx⟩ := ao.f 0 x .src rfl rfl
    have hy : Rep K av H y (.int many) := ao.f 1 y (.val (.int many)) rfl rfl
    subst hz
    refine ⟨z.1, z.2.1, z.2.2, many, by rw [hx, hy.int_inv], g, hm0, hm1, fun r H' r0 r1 kp => k _ (.int r) H' ⟨fun b o hb => kp.keep b o hb, fun _ => kp.src⟩ (.int r) (hq r r0 r1)⟩
end
end My
set_option maxHeartbeats 4000000
namespace My
open PySem PySem.Spec PyProof.Rows L2 Lcn Sq Dl
/-! what == tells: equal, just where the things are -/
def TlP (P : QP) (n : Nat) (x y : Dt) : Prop := ∃ b, GQ P n x y b ∧ (b = true ↔ x = y)
theorem gq_mono {P P' : QP} (hP : ∀ C D fs gs b, P C D fs gs b → P' C D fs gs b) {n : Nat} {x y : Dt} {b : Bool} (h : GQ P n x y b) : ∀ {m : Nat}, n ≤ m → GQ P' m x y b := by
  induction h with
  | flat hd he sd se => exact fun _ => .flat hd he sd se
  | lst e l h ih =>
    intro m hm
    obtain ⟨k, rfl⟩ : ∃ k, m = k + 1 := ⟨m - 1, by omega⟩
    exact .lst e l fun i x y hx hy => ih i x y hx hy (by omega)
  | lstN l =>
    intro m hm
    obtain ⟨k, rfl⟩ : ∃ k, m = k + 1 := ⟨m - 1, by omega⟩
    exact .lstN l
  | tup e h ih =>
    intro m hm
    obtain ⟨k, rfl⟩ : ∃ k, m = k + 1 := ⟨m - 1, by omega⟩
    exact .tup e fun i x y hx hy => ih i x y hx hy (by omega)
  | ins h => exact fun _ => .ins (hP _ _ _ _ _ h)
theorem TlP.mono {P P' : QP} (hP : ∀ C D fs gs b, P C D fs gs b → P' C D fs gs b) {n m : Nat} {x y : Dt} (h : TlP P n x y) (hm : n ≤ m) : TlP P' m x y := by
  obtain ⟨b, g, e⟩ := h
  exact ⟨b, gq_mono hP g hm, e⟩
section
variable {P : QP} {n : Nat}
theorem tl_int (i j : Int) : TlP P n (.int i) (.int j) := ⟨_, .flat rfl rfl rfl rfl, by rw [sep_int i j, decide_eq_true_iff]; exact ⟨fun h => by rw [h], fun h => by cases h; rfl⟩⟩
theorem tl_str {s t : Str} (hs : PyData.strOk s = true) (ht : PyData.strOk t = true) : TlP P n (.str s) (.str t) := ⟨_, .flat rfl rfl (sh_str hs) (sh_str ht), by rw [sep_str s t, decide_eq_true_iff]; exact ⟨fun h => by rw [h], fun h => by cases h; rfl⟩⟩
theorem sep_bl : ∀ a b : Bool, eqD (.bl a) (.bl b) = decide (a = b) := by
  intro a b
  unfold eqD
  simp only [py, PyData.eqv]
  cases a <;> cases b <;> rfl
theorem tl_bl (i j : Bool) : TlP P n (.bl i) (.bl j) := ⟨_, .flat rfl rfl rfl rfl, by rw [sep_bl i j, decide_eq_true_iff]; exact ⟨fun h => by rw [h], fun h => by cases h; rfl⟩⟩
/-- the outcomes place by place -/
theorem pick {xs ys : List Dt} (h : ∀ (i : Nat) (x y : Dt), xs[i]? = some x → ys[i]? = some y → TlP P n x y) : ∃ e : Nat → Bool, ∀ (i : Nat) (x y : Dt), xs[i]? = some x → ys[i]? = some y → GQ P n x y (e i) ∧ (e i = true ↔ x = y) := by
  have : ∀ i : Nat, ∃ b : Bool, ∀ (x y : Dt), xs[i]? = some x → ys[i]? = some y → GQ P n x y b ∧ (b = true ↔ x = y) := fun i => by
    cases hx : xs[i]? with
    | none => exact ⟨true, fun x y h1 => by cases h1⟩
    | some x =>
      cases hy : ys[i]? with
      | none => exact ⟨true, fun x y _ h2 => by cases h2⟩
      | some y =>
        obtain ⟨b, g, q⟩ := h i x y hx hy
        exact ⟨b, fun x' y' h1 h2 => by cases h1; cases h2; exact ⟨g, q⟩⟩
  exact ⟨fun i => Classical.choose (this i), fun i => Classical.choose_spec (this i)⟩
theorem eq_of_all {xs ys : List Dt} {e : Nat → Bool} (l : xs.length = ys.length) (h : ∀ (i : Nat) (x y : Dt), xs[i]? = some x → ys[i]? = some y → (e i = true ↔ x = y)) : (List.range xs.length).all e = true ↔ xs = ys := by
  rw [List.all_eq_true]
  constructor
  · intro a
    apply List.ext_getElem?
    intro i
    rcases Nat.lt_or_ge i xs.length with hi | hi
    · have h1 : xs[i]? = some xs[i] := List.getElem?_eq_getElem hi
      have h2 : ys[i]? = some (ys[i]'(by omega)) := List.getElem?_eq_getElem _
      rw [h1, h2, (h i _ _ h1 h2).mp (a i (List.mem_range.mpr hi))]
    · rw [List.getElem?_eq_none hi, List.getElem?_eq_none (by omega)]
  · rintro rfl i hi
    have h1 := List.getElem?_eq_getElem (List.mem_range.mp hi)
    exact (h i _ _ h1 h1).mpr rfl
theorem tl_tup {xs ys : List Dt} (h : ∀ (i : Nat) (x y : Dt), xs[i]? = some x → ys[i]? = some y → TlP P n x y) : TlP P (n + 1) (.tup xs) (.tup ys) := by
  obtain ⟨e, he⟩ := pick h
  refine ⟨_, .tup e fun i x y hx hy => (he i x y hx hy).1, ?_⟩
  rw [Bool.and_eq_true, decide_eq_true_iff]
  constructor
  · rintro ⟨a, l⟩
    rw [l, Nat.min_self, ← l] at a
    rw [(eq_of_all l fun i x y hx hy => (he i x y hx hy).2).mp a]
  · intro q
    cases q
    rw [Nat.min_self]
    exact ⟨(eq_of_all rfl fun i x y hx hy => (he i x y hx hy).2).mpr rfl, rfl⟩
theorem tl_lst {xs ys : List Dt} (h : ∀ (i : Nat) (x y : Dt), xs[i]? = some x → ys[i]? = some y → TlP P n x y) : TlP P (n + 1) (.lst xs) (.lst ys) := by
  by_cases l : xs.length = ys.length
  · obtain ⟨e, he⟩ := pick h
    refine ⟨_, .lst e l fun i x y hx hy => (he i x y hx hy).1, ?_⟩
    rw [eq_of_all l fun i x y hx hy => (he i x y hx hy).2]
    exact ⟨fun q => by rw [q], fun q => by cases q; rfl⟩
  · refine ⟨false, .lstN l, fun z => (by cases z), fun q => (by cases q; exact absurd rfl l)⟩
theorem tl_one {x y : Dt} (h : TlP P n x y) : TlP P (n + 1) (.tup [x]) (.tup [y]) := tl_tup fun i a b ha hb => by
  match i with
  | 0 => cases ha; cases hb; exact h
  | i + 1 => cases ha
theorem tl_two {x y u v : Dt} (h : TlP P n x y) (h2 : TlP P n u v) : TlP P (n + 1) (.tup [x, u]) (.tup [y, v]) := tl_tup fun i a b ha hb => by
  match i with
  | 0 => cases ha; cases hb; exact h
  | 1 => cases ha; cases hb; exact h2
  | i + 2 => cases ha
theorem tl_three {x y u v s t : Dt} (h : TlP P n x y) (h2 : TlP P n u v) (h3 : TlP P n s t) : TlP P (n + 1) (.tup [x, u, s]) (.tup [y, v, t]) := tl_tup fun i a b ha hb => by
  match i with
  | 0 => cases ha; cases hb; exact h
  | 1 => cases ha; cases hb; exact h2
  | 2 => cases ha; cases hb; exact h3
  | i + 3 => cases ha
theorem tl_map {α β : Type} {f : α → Dt} {g : β → Dt} (xs : List α) (ys : List β) (h : ∀ a b, TlP P n (f a) (g b)) : TlP P (n + 1) (.tup (xs.map f)) (.tup (ys.map g)) := tl_tup fun i x y hx hy => by
  rw [List.getElem?_map] at hx hy
  obtain ⟨a, _, rfl⟩ := Option.map_eq_some_iff.mp hx
  obtain ⟨b, _, rfl⟩ := Option.map_eq_some_iff.mp hy
  exact h a b
theorem tl_rep {a b : Nat} {d : Dt} (h : TlP P n d d) : TlP P (n + 1) (.tup (List.replicate a d)) (.tup (List.replicate b d)) := tl_tup fun i x y hx hy => by
  have e1 := List.eq_of_mem_replicate (List.mem_of_getElem? hx)
  have e2 := List.eq_of_mem_replicate (List.mem_of_getElem? hy)
  rw [e1, e2]
  exact h
end
/-! instances by their fields -/
theorem zip_lookup : ∀ {ns : List Str} {ds : List Dt} {i : Nat} {x : Str} {d : Dt}, ns.Nodup → ns[i]? = some x → ds[i]? = some d → (ns.zip ds).lookup x = some d
  | [], _, i, _, _, _, h, _ => by cases i <;> cases h
  | _ :: _, [], i, _, _, _, _, h => by cases i <;> cases h
  | m :: ns, e :: ds, 0, x, d, _, h1, h2 => by
    cases h1
    cases h2
    simp [List.lookup]
  | m :: ns, e :: ds, i + 1, x, d, nd, h1, h2 => by
    rw [List.nodup_cons] at nd
    have hx : x ∈ ns := List.mem_of_getElem? (i := i) h1
    have hne : (x == m) = false := by
      rw [beq_eq_false_iff_ne]
      intro z
      exact nd.1 (z ▸ hx)
    rw [List.zip_cons_cons, List.lookup_cons, hne]
    exact zip_lookup nd.2 h1 h2
section
variable {Kc : Addr → Addr → Prop} {tb : Tb} {cs : Str → Addr} {Pr : QP} {n m : Nat}
theorem tl_ins {x : Str} {ns : List Str} (hx : (x, ns) ∈ tb) (nd : ns.Nodup) {ds es : List Dt} (l1 : ds.length = ns.length) (l2 : es.length = ns.length) (h : ∀ (i : Nat) (d e : Dt), ds[i]? = some d → es[i]? = some e → TlP Pr n d e) : TlP (PA Kc tb cs Pr n) m (.ins (cs x) (ns.zip ds)) (.ins (cs x) (ns.zip es)) := by
  obtain ⟨e, he⟩ := pick h
  refine ⟨ns.all fun y => e (ns.idxOf y), .ins (.inr ⟨x, ns, hx, rfl, .inr ⟨rfl, fun y => e (ns.idxOf y), fun y hy => ?_, rfl⟩⟩), ?_⟩
  · have hi : ns.idxOf y < ns.length := List.idxOf_lt_length_of_mem hy
    have h0 : ns[ns.idxOf y]? = some y := by
      rw [List.getElem?_eq_getElem hi]
      simp
    have h1 : ds[ns.idxOf y]? = some (ds[ns.idxOf y]'(by omega)) := List.getElem?_eq_getElem _
    have h2 : es[ns.idxOf y]? = some (es[ns.idxOf y]'(by omega)) := List.getElem?_eq_getElem _
    exact ⟨_, _, zip_lookup nd h0 h1, zip_lookup nd h0 h2, (he _ _ _ h1 h2).1⟩
  · have q := eq_of_all (xs := ds) (ys := es) (e := e) (by omega) fun i x y hx hy => (he i x y hx hy).2
    rw [List.all_eq_true]
    have k : (∀ y, y ∈ ns → e (ns.idxOf y) = true) ↔ (List.range ds.length).all e = true := by
      rw [List.all_eq_true]
      constructor
      · intro a i hi
        rw [List.mem_range, l1] at hi
        have := a ns[i] (List.getElem_mem hi)
        rwa [nd.idxOf_getElem] at this
      · intro a y hy
        exact a _ (List.mem_range.mpr (by rw [l1]; exact List.idxOf_lt_length_of_mem hy))
    rw [k, q]
    constructor
    · rintro rfl
      rfl
    · intro z
      injection z with _ z
      have := congrArg (List.map Prod.snd) z
      rwa [List.map_snd_zip (by omega), List.map_snd_zip (by omega)] at this
theorem gq_far {x : Str} {ns : List Str} (hx : (x, ns) ∈ tb) {D : Addr} {fs gs : List (Str × Dt)} (h : Kc (cs x) D) : GQ (PA Kc tb cs Pr n) m (.ins (cs x) fs) (.ins D gs) false := .ins (.inr ⟨x, ns, hx, rfl, .inl ⟨h, rfl⟩⟩)
end
end My
set_option maxHeartbeats 4000000
namespace My
open PySem PySem.Spec PyProof.Rows L2 Lcn Sq Dl
inductive Kd where
  | T | N | D | B | W | L | G | F | E | P | R | S | M
def Kd.cp : Kd → Nat
  | .T => 84
  | .N => 78
  | .D => 68
  | .B => 66
  | .W => 87
  | .L => 76
  | .G => 71
  | .F => 70
  | .E => 69
  | .P => 80
  | .R => 82
  | .S => 83
  | .M => 77
def Kd.ch (k : Kd) : Str := ⟨#[k.cp]⟩
section
variable {K : PySem.W.Frag} {mg : Str → Option Value}
def csA (A : AllC K mg) (x : Str) : Addr := (([("Clash", A.x_Clash.C), ("Shape", A.x_Shape.C), ("Answer", A.x_Answer.C), ("Carries", A.x_Carries.C), ("Look", A.x_Look.C), ("Trail", A.x_Trail.C), ("Case", A.x_Case.C), ("Run", A.x_Run.C), ("Way", A.x_Way.C), ("Never", A.x_Never.C), ("Trial", A.x_Trial.C), ("Canon", A.x_Canon.C), ("Settled", A.x_Settled.C), ("Guess", A.x_Guess.C), ("Pressed", A.x_Pressed.C), ("Stages", A.x_Stages.C), ("Entry", A.x_Entry.C), ("Root", A.x_Root.C), ("Found", A.x_Found.C), ("Shut", A.x_Shut.C), ("Book", A.x_Book.C), ("Grammar", A.x_Grammar.C), ("Filling", A.x_Filling.C), ("Paper", A.x_Paper.C)] : List (Str × Addr)).lookup x).getD 0
theorem e_Clash (A : AllC K mg) : csA A "Clash" = A.x_Clash.C := by rfl
theorem e_Shape (A : AllC K mg) : csA A "Shape" = A.x_Shape.C := by rfl
theorem e_Answer (A : AllC K mg) : csA A "Answer" = A.x_Answer.C := by rfl
theorem e_Carries (A : AllC K mg) : csA A "Carries" = A.x_Carries.C := by rfl
theorem e_Look (A : AllC K mg) : csA A "Look" = A.x_Look.C := by rfl
theorem e_Trail (A : AllC K mg) : csA A "Trail" = A.x_Trail.C := by rfl
theorem e_Case (A : AllC K mg) : csA A "Case" = A.x_Case.C := by rfl
theorem e_Run (A : AllC K mg) : csA A "Run" = A.x_Run.C := by rfl
theorem e_Way (A : AllC K mg) : csA A "Way" = A.x_Way.C := by rfl
theorem e_Never (A : AllC K mg) : csA A "Never" = A.x_Never.C := by rfl
theorem e_Trial (A : AllC K mg) : csA A "Trial" = A.x_Trial.C := by rfl
theorem e_Canon (A : AllC K mg) : csA A "Canon" = A.x_Canon.C := by rfl
theorem e_Settled (A : AllC K mg) : csA A "Settled" = A.x_Settled.C := by rfl
theorem e_Guess (A : AllC K mg) : csA A "Guess" = A.x_Guess.C := by rfl
theorem e_Pressed (A : AllC K mg) : csA A "Pressed" = A.x_Pressed.C := by rfl
theorem e_Stages (A : AllC K mg) : csA A "Stages" = A.x_Stages.C := by rfl
theorem e_Entry (A : AllC K mg) : csA A "Entry" = A.x_Entry.C := by rfl
theorem e_Root (A : AllC K mg) : csA A "Root" = A.x_Root.C := by rfl
theorem e_Found (A : AllC K mg) : csA A "Found" = A.x_Found.C := by rfl
theorem e_Shut (A : AllC K mg) : csA A "Shut" = A.x_Shut.C := by rfl
theorem e_Book (A : AllC K mg) : csA A "Book" = A.x_Book.C := by rfl
theorem e_Grammar (A : AllC K mg) : csA A "Grammar" = A.x_Grammar.C := by rfl
theorem e_Filling (A : AllC K mg) : csA A "Filling" = A.x_Filling.C := by rfl
theorem e_Paper (A : AllC K mg) : csA A "Paper" = A.x_Paper.C := by rfl
end
abbrev WR := Str × List Str × List Kd
def W : List WR := [("Clash", ["why", "at"], [.W, .N]), ("Canon", ["book", "letters", "unknowns"], [.B, .T, .T]), ("Settled", ["told", "letters", "unknowns", "spares"], [.B, .T, .T, .T]), ("Guess", ["parts", "news", "told", "letters", "unknowns", "spares", "equations"], [.T, .T, .B, .T, .T, .T, .T]), ("Shape", ["front", "stays", "back", "ends"], [.T, .L, .T, .T]), ("Answer", ["numbers"], [.T]), ("Carries", ["rows"], [.T]), ("Look", ["step", "outcomes"], [.T, .T]), ("Trail", ["root", "turns"], [.N, .T]), ("Pressed", ["table", "ends"], [.G, .T]), ("Stages", ["grammar", "stages"], [.G, .T]), ("Entry", ["book", "step", "lots"], [.B, .T, .T]), ("Paper", ["deeds", "entries"], [.D, .E]), ("Shut", ["paper"], [.P]), ("Case", ["rows", "sets", "full"], [.R, .S, .M]), ("Root", ["told", "letters", "unknowns", "spares", "empties"], [.B, .T, .T, .T, .T]), ("Run", ["turns", "used", "ends", "stop"], [.T, .N, .T, .N]), ("Way", ["turns", "reads", "sayings", "ends", "stop"], [.T, .N, .T, .T, .N]), ("Found", ["turns", "filling"], [.T, .F]), ("Never", ["papers"], [.T]), ("Trial", ["tolds", "refused"], [.T, .N])]
def wordS (i : Int) : Str := ((["front", "back", "empty", "state"] : List Str)[i.toNat]?).getD ""
def bkB (s : Int) : Bk := ⟨[(List.replicate s.toNat 0, [-1])], [[0]], [(0, [0])], 1⟩
section
variable (cs : Str → Addr)
def entB (s : Int) : Dt := .tup [.ins (cs "Entry") [("book", bookD (cs "Book") (bkB s)), ("step", .tup [.str "first", .int 0]), ("lots", .tup [])]]
def partD : Kd → Int → Dt
  | .T, s => .tup ((List.range (1 + s % 3).toNat).map fun (j : Nat) => .int ((s + (j : Int)) * (s + 1)))
  | .N, s => .int s
  | .D, s => .tup [.tup (List.replicate s.toNat (.int 0))]
  | .B, s => bookD (cs "Book") (bkB s)
  | .W, s => .str (wordS (s % 4))
  | .L, s => .bl (decide (s % 2 = 0))
  | .G, s => gramD (cs "Grammar") (repS "a" s.toNat)
  | .F, s => fillD (cs "Grammar") (cs "Filling") (repS "a" s.toNat)
  | .E, s => entB cs s
  | .P, s => .ins (cs "Paper") [("deeds", .tup [.tup [.int 0]]), ("entries", entB cs s)]
  | .R, s => .tup [.tup [.tup (List.replicate s.toNat (.str "a")), .tup [.str "?x"]]]
  | .S, s => .tup [.tup [.str "?x", .tup [.str "letter", .str ⟨#[97 + (s % 3).toNat]⟩], .bl true]]
  | .M, s => .tup [.str ((("?" : Str)) ++ repS "x" (1 + s % 8).toNat)]
end
def sp_book_ {K : PySem.W.Frag} {mg : Str → Option Value} (A : AllC K mg) : Spc := fun δ Q => ∃ s : Int, δ = [.val (.int s)] ∧ 1 ≤ s ∧ s ≤ 12 ∧ Q (bookD (csA A "Book") (bkB s))
def sp_part {K : PySem.W.Frag} {mg : Str → Option Value} (A : AllC K mg) : Spc := fun δ Q => ∃ (k : Kd) (s : Int), δ = [.val (.str k.ch), .val (.int s)] ∧ 1 ≤ s ∧ s ≤ 12 ∧ Q (partD (csA A) k s)
def sp_made {K : PySem.W.Frag} {mg : Str → Option Value} (A : AllC K mg) : Spc := fun δ Q => ∃ (w : Nat) (r : WR) (ds : List Dt), W[w]? = some r ∧ δ = [.val (.int (w : Int)), .val (.lst ds)] ∧ ds.length = r.2.1.length ∧ (w = 12 → ∀ d, d ∈ ds → ∃ xs, d = .tup xs) ∧ Q (.ins (csA A r.1) (r.2.1.zip ds))
def sp_later {K : PySem.W.Frag} {mg : Str → Option Value} (A : AllC K mg) : Spc := fun δ Q => ∃ (w : Nat) (r : WR) (ds : List Dt), 11 ≤ w ∧ W[w]? = some r ∧ δ = [.val (.int (w : Int)), .val (.lst ds)] ∧ ds.length = r.2.1.length ∧ (w = 12 → ∀ d, d ∈ ds → ∃ xs, d = .tup xs) ∧ Q (.ins (csA A r.1) (r.2.1.zip ds))
def sp_told {K : PySem.W.Frag} {mg : Str → Option Value} (A : AllC K mg) : Spc := fun δ Q => ∃ (w : Nat) (r : WR) (ds : List Dt), W[w]? = some r ∧ δ = [.val (.int (w : Int)), .val (.ins (csA A r.1) (r.2.1.zip ds))] ∧ ds.length = r.2.1.length ∧ Q (.lst ds)
def sp_tlater {K : PySem.W.Frag} {mg : Str → Option Value} (A : AllC K mg) : Spc := fun δ Q => ∃ (w : Nat) (r : WR) (ds : List Dt), 11 ≤ w ∧ W[w]? = some r ∧ δ = [.val (.int (w : Int)), .val (.ins (csA A r.1) (r.2.1.zip ds))] ∧ ds.length = r.2.1.length ∧ Q (.lst ds)
theorem W_lt {w : Nat} {r : WR} (h : W[w]? = some r) : w < 21 := (List.getElem?_eq_some_iff.mp h).1
theorem len1 {α : Type} {ds : List α} (h : ds.length = 1) : ∃ a0, ds = [a0] := by
  match ds, h with
  | [a0], _ => exact ⟨a0, rfl⟩
theorem len2 {α : Type} {ds : List α} (h : ds.length = 2) : ∃ a0 a1, ds = [a0, a1] := by
  match ds, h with
  | [a0, a1], _ => exact ⟨a0, a1, rfl⟩
theorem len3 {α : Type} {ds : List α} (h : ds.length = 3) : ∃ a0 a1 a2, ds = [a0, a1, a2] := by
  match ds, h with
  | [a0, a1, a2], _ => exact ⟨a0, a1, a2, rfl⟩
theorem len4 {α : Type} {ds : List α} (h : ds.length = 4) : ∃ a0 a1 a2 a3, ds = [a0, a1, a2, a3] := by
  match ds, h with
  | [a0, a1, a2, a3], _ => exact ⟨a0, a1, a2, a3, rfl⟩
theorem len5 {α : Type} {ds : List α} (h : ds.length = 5) : ∃ a0 a1 a2 a3 a4, ds = [a0, a1, a2, a3, a4] := by
  match ds, h with
  | [a0, a1, a2, a3, a4], _ => exact ⟨a0, a1, a2, a3, a4, rfl⟩
theorem len6 {α : Type} {ds : List α} (h : ds.length = 6) : ∃ a0 a1 a2 a3 a4 a5, ds = [a0, a1, a2, a3, a4, a5] := by
  match ds, h with
  | [a0, a1, a2, a3, a4, a5], _ => exact ⟨a0, a1, a2, a3, a4, a5, rfl⟩
theorem len7 {α : Type} {ds : List α} (h : ds.length = 7) : ∃ a0 a1 a2 a3 a4 a5 a6, ds = [a0, a1, a2, a3, a4, a5, a6] := by
  match ds, h with
  | [a0, a1, a2, a3, a4, a5, a6], _ => exact ⟨a0, a1, a2, a3, a4, a5, a6, rfl⟩
theorem sc__law_made_later : FnScope ["_law_which", "_law_parts"] ["_law_which", "_law_parts"] (defScope s__law_made_later) := ⟨rfl, rfl, rfl, by decide +kernel, rfl, by decide +kernel, by decide +kernel⟩
section
variable {P : Program} {w : World} {K : PySem.W.Frag} {mg : Str → Option Value} {base : Heap}
theorem ok__law_made_later (A : AllC K mg) (D__law_made_later : Dn K mg "_law_made_later" s__law_made_later ["_law_which", "_law_parts"]) (G_Entry_init : FnOk P w K mg base CX0 1 A.x_Entry.f A.x_Entry.fd ["self", "book", "step", "lots"] (dspI K A.x_Entry.C 3 sp_Entry)) (G_Paper_init : FnOk P w K mg base CX0 1 A.x_Paper.f A.x_Paper.fd ["self", "deeds", "entries"] (dspI K A.x_Paper.C 2 sp_Paper)) (G_Shut_init : FnOk P w K mg base CX0 1 A.x_Shut.f A.x_Shut.fd ["self", "paper"] (dspI K A.x_Shut.C 1 sp_Shut)) (G_Case_init : FnOk P w K mg base CX0 1 A.x_Case.f A.x_Case.fd ["self", "rows", "sets", "full"] (dspI K A.x_Case.C 3 sp_Case)) (G_Root_init : FnOk P w K mg base CX0 1 A.x_Root.f A.x_Root.fd ["self", "told", "letters", "unknowns", "spares", "empties"] (dspI K A.x_Root.C 5 sp_Root)) (G_Run_init : FnOk P w K mg base CX0 1 A.x_Run.f A.x_Run.fd ["self", "turns", "used", "ends", "stop"] (dspI K A.x_Run.C 4 sp_Run)) (G_Way_init : FnOk P w K mg base CX0 1 A.x_Way.f A.x_Way.fd ["self", "turns", "reads", "sayings", "ends", "stop"] (dspI K A.x_Way.C 5 sp_Way)) (G_Found_init : FnOk P w K mg base CX0 1 A.x_Found.f A.x_Found.fd ["self", "turns", "filling"] (dspI K A.x_Found.C 2 sp_Found)) (G_Never_init : FnOk P w K mg base CX0 1 A.x_Never.f A.x_Never.fd ["self", "papers"] (dspI K A.x_Never.C 1 sp_Never)) (G_Trial_init : FnOk P w K mg base CX0 1 A.x_Trial.f A.x_Trial.fd ["self", "tolds", "refused"] (dspI K A.x_Trial.C 2 sp_Trial)) (T : TB mg) : FnOk P w K mg base CX0 3 D__law_made_later.f D__law_made_later.fd ["_law_which", "_law_parts"] (dsp K 2 (sp_later A)) := by
  refine fn_d (k := 2) (N := ["_law_which", "_law_parts"]) D__law_made_later.F sc__law_made_later (fun cdv Ar outer s H E hr => (dss_cons (ds_if (dt_cmpC (cd_eq (fun _ => ru64 hr)) (de_var (fun _ => pv 0)) de_int (nomark _)) (dss_one (ds_ret (de_make (fun _ pa => pe_make A.x_Entry.M G_Entry_init (hr.mono (by decide)) (by rfl) A.x_Entry.m A.x_Entry.b0 A.x_Entry.w0 pass0 pa) (fun _ _ => .nil) (dl_val (de_ixA (de_var (fun _ => pv 1)) de_int (fun _ _ => rfl)) (dl_val (de_ixA (de_var (fun _ => pv 1)) de_int (fun _ _ => rfl)) (dl_val (de_ixA (de_var (fun _ => pv 1)) de_int (fun _ _ => rfl)) dl_nil)))))) dss_nil)
  (dss_cons (ds_if (dt_cmpC (cd_eq (fun _ => ru64 hr)) (de_var (fun _ => pv 0)) de_int (nomark _)) (dss_one (ds_ret (de_make (fun _ pa => pe_make A.x_Paper.M G_Paper_init (hr.mono (by decide)) (by rfl) A.x_Paper.m A.x_Paper.b0 A.x_Paper.w0 pass0 pa) (fun _ _ => .nil) (dl_val (de_ixA (de_var (fun _ => pv 1)) de_int (fun _ _ => rfl)) (dl_val (de_ixA (de_var (fun _ => pv 1)) de_int (fun _ _ => rfl)) dl_nil))))) dss_nil)
  (dss_cons (ds_if (dt_cmpC (cd_eq (fun _ => ru64 hr)) (de_var (fun _ => pv 0)) de_int (nomark _)) (dss_one (ds_ret (de_make (fun _ pa => pe_make A.x_Shut.M G_Shut_init (hr.mono (by decide)) (by rfl) A.x_Shut.m A.x_Shut.b0 A.x_Shut.w0 pass0 pa) (fun _ _ => .nil) (dl_val (de_ixA (de_var (fun _ => pv 1)) de_int (fun _ _ => rfl)) dl_nil)))) dss_nil)
  (dss_cons (ds_if (dt_cmpC (cd_eq (fun _ => ru64 hr)) (de_var (fun _ => pv 0)) de_int (nomark _)) (dss_one (ds_ret (de_make (fun _ pa => pe_make A.x_Case.M G_Case_init (hr.mono (by decide)) (by rfl) A.x_Case.m A.x_Case.b0 A.x_Case.w0 pass0 pa) (fun _ _ => .nil) (dl_val (de_ixA (de_var (fun _ => pv 1)) de_int (fun _ _ => rfl)) (dl_val (de_ixA (de_var (fun _ => pv 1)) de_int (fun _ _ => rfl)) (dl_val (de_ixA (de_var (fun _ => pv 1)) de_int (fun _ _ => rfl)) dl_nil)))))) dss_nil)
  (dss_cons (ds_if (dt_cmpC (cd_eq (fun _ => ru64 hr)) (de_var (fun _ => pv 0)) de_int (nomark _)) (dss_one (ds_ret (de_make (fun _ pa => pe_make A.x_Root.M G_Root_init (hr.mono (by decide)) (by rfl) A.x_Root.m A.x_Root.b0 A.x_Root.w0 pass0 pa) (fun _ _ => .nil) (dl_val (de_ixA (de_var (fun _ => pv 1)) de_int (fun _ _ => rfl)) (dl_val (de_ixA (de_var (fun _ => pv 1)) de_int (fun _ _ => rfl)) (dl_val (de_ixA (de_var (fun _ => pv 1)) de_int (fun _ _ => rfl)) (dl_val (de_ixA (de_var (fun _ => pv 1)) de_int (fun _ _ => rfl)) (dl_val (de_ixA (de_var (fun _ => pv 1)) de_int (fun _ _ => rfl)) dl_nil)))))))) dss_nil)
  (dss_cons (ds_if (dt_cmpC (cd_eq (fun _ => ru64 hr)) (de_var (fun _ => pv 0)) de_int (nomark _)) (dss_one (ds_ret (de_make (fun _ pa => pe_make A.x_Run.M G_Run_init (hr.mono (by decide)) (by rfl) A.x_Run.m A.x_Run.b0 A.x_Run.w0 pass0 pa) (fun _ _ => .nil) (dl_val (de_ixA (de_var (fun _ => pv 1)) de_int (fun _ _ => rfl)) (dl_val (de_ixA (de_var (fun _ => pv 1)) de_int (fun _ _ => rfl)) (dl_val (de_ixA (de_var (fun _ => pv 1)) de_int (fun _ _ => rfl)) (dl_val (de_ixA (de_var (fun _ => pv 1)) de_int (fun _ _ => rfl)) dl_nil))))))) dss_nil)
  (dss_cons (ds_if (dt_cmpC (cd_eq (fun _ => ru64 hr)) (de_var (fun _ => pv 0)) de_int (nomark _)) (dss_one (ds_ret (de_make (fun _ pa => pe_make A.x_Way.M G_Way_init (hr.mono (by decide)) (by rfl) A.x_Way.m A.x_Way.b0 A.x_Way.w0 pass0 pa) (fun _ _ => .nil) (dl_val (de_ixA (de_var (fun _ => pv 1)) de_int (fun _ _ => rfl)) (dl_val (de_ixA (de_var (fun _ => pv 1)) de_int (fun _ _ => rfl)) (dl_val (de_ixA (de_var (fun _ => pv 1)) de_int (fun _ _ => rfl)) (dl_val (de_ixA (de_var (fun _ => pv 1)) de_int (fun _ _ => rfl)) (dl_val (de_ixA (de_var (fun _ => pv 1)) de_int (fun _ _ => rfl)) dl_nil)))))))) dss_nil)
  (dss_cons (ds_if (dt_cmpC (cd_eq (fun _ => ru64 hr)) (de_var (fun _ => pv 0)) de_int (nomark _)) (dss_one (ds_ret (de_make (fun _ pa => pe_make A.x_Found.M G_Found_init (hr.mono (by decide)) (by rfl) A.x_Found.m A.x_Found.b0 A.x_Found.w0 pass0 pa) (fun _ _ => .nil) (dl_val (de_ixA (de_var (fun _ => pv 1)) de_int (fun _ _ => rfl)) (dl_val (de_ixA (de_var (fun _ => pv 1)) de_int (fun _ _ => rfl)) dl_nil))))) dss_nil)
  (dss_cons (ds_if (dt_cmpC (cd_eq (fun _ => ru64 hr)) (de_var (fun _ => pv 0)) de_int (nomark _)) (dss_one (ds_ret (de_make (fun _ pa => pe_make A.x_Never.M G_Never_init (hr.mono (by decide)) (by rfl) A.x_Never.m A.x_Never.b0 A.x_Never.w0 pass0 pa) (fun _ _ => .nil) (dl_val (de_ixA (de_var (fun _ => pv 1)) de_int (fun _ _ => rfl)) dl_nil)))) dss_nil)
  (dss_one (ds_ret (de_make (fun _ pa => pe_make A.x_Trial.M G_Trial_init (hr.mono (by decide)) (by rfl) A.x_Trial.m A.x_Trial.b0 A.x_Trial.w0 pass0 pa) (fun _ _ => .nil) (dl_val (de_ixA (de_var (fun _ => pv 1)) de_int (fun _ _ => rfl)) (dl_val (de_ixA (de_var (fun _ => pv 1)) de_int (fun _ _ => rfl)) dl_nil))))))))))))))) (fun δ Qd l h => ?_)
  obtain ⟨w, r, ds, h11, hW, rfl, hl, hp, hq⟩ := h
  have hw := W_lt hW
  have hw : w = 11 ∨ w = 12 ∨ w = 13 ∨ w = 14 ∨ w = 15 ∨ w = 16 ∨ w = 17 ∨ w = 18 ∨ w = 19 ∨ w = 20 := by omega
  rcases hw with rfl | rfl | rfl | rfl | rfl | rfl | rfl | rfl | rfl | rfl
  · cases hW
    obtain ⟨a0, a1, a2, rfl⟩ := len3 hl
    refine dEq_int true (by decide) ⟨_, rfl, ite_t rfl ?_⟩
    rw [e_Entry] at hq
    exact ⟨_, rfl, _, rfl, _, rfl, rfl, _, _, _, rfl, hq⟩
  · cases hW
    obtain ⟨a0, a1, rfl⟩ := len2 hl
    obtain ⟨x0, rfl⟩ := hp rfl a0 (by simp)
    obtain ⟨x1, rfl⟩ := hp rfl a1 (by simp)
    refine dEq_int false (by decide) ⟨_, rfl, ite_f rfl ?_⟩
    refine dEq_int true (by decide) ⟨_, rfl, ite_t rfl ?_⟩
    rw [e_Paper] at hq
    exact ⟨_, rfl, _, rfl, rfl, _, _, rfl, hq⟩
  · cases hW
    obtain ⟨a0, rfl⟩ := len1 hl
    refine dEq_int false (by decide) ⟨_, rfl, ite_f rfl ?_⟩
    refine dEq_int false (by decide) ⟨_, rfl, ite_f rfl ?_⟩
    refine dEq_int true (by decide) ⟨_, rfl, ite_t rfl ?_⟩
    rw [e_Shut] at hq
    exact ⟨_, rfl, rfl, _, rfl, hq⟩
  · cases hW
    obtain ⟨a0, a1, a2, rfl⟩ := len3 hl
    refine dEq_int false (by decide) ⟨_, rfl, ite_f rfl ?_⟩
    refine dEq_int false (by decide) ⟨_, rfl, ite_f rfl ?_⟩
    refine dEq_int false (by decide) ⟨_, rfl, ite_f rfl ?_⟩
    refine dEq_int true (by decide) ⟨_, rfl, ite_t rfl ?_⟩
    rw [e_Case] at hq
    exact ⟨_, rfl, _, rfl, _, rfl, rfl, _, _, _, rfl, hq⟩
  · cases hW
    obtain ⟨a0, a1, a2, a3, a4, rfl⟩ := len5 hl
    refine dEq_int false (by decide) ⟨_, rfl, ite_f rfl ?_⟩
    refine dEq_int false (by decide) ⟨_, rfl, ite_f rfl ?_⟩
    refine dEq_int false (by decide) ⟨_, rfl, ite_f rfl ?_⟩
    refine dEq_int false (by decide) ⟨_, rfl, ite_f rfl ?_⟩
    refine dEq_int true (by decide) ⟨_, rfl, ite_t rfl ?_⟩
    rw [e_Root] at hq
    exact ⟨_, rfl, _, rfl, _, rfl, _, rfl, _, rfl, rfl, _, _, _, _, _, rfl, hq⟩
  · cases hW
    obtain ⟨a0, a1, a2, a3, rfl⟩ := len4 hl
    refine dEq_int false (by decide) ⟨_, rfl, ite_f rfl ?_⟩
    refine dEq_int false (by decide) ⟨_, rfl, ite_f rfl ?_⟩
    refine dEq_int false (by decide) ⟨_, rfl, ite_f rfl ?_⟩
    refine dEq_int false (by decide) ⟨_, rfl, ite_f rfl ?_⟩
    refine dEq_int false (by decide) ⟨_, rfl, ite_f rfl ?_⟩
    refine dEq_int true (by decide) ⟨_, rfl, ite_t rfl ?_⟩
    rw [e_Run] at hq
    exact ⟨_, rfl, _, rfl, _, rfl, _, rfl, rfl, _, _, _, _, rfl, hq⟩
  · cases hW
    obtain ⟨a0, a1, a2, a3, a4, rfl⟩ := len5 hl
    refine dEq_int false (by decide) ⟨_, rfl, ite_f rfl ?_⟩
    refine dEq_int false (by decide) ⟨_, rfl, ite_f rfl ?_⟩
    refine dEq_int false (by decide) ⟨_, rfl, ite_f rfl ?_⟩
    refine dEq_int false (by decide) ⟨_, rfl, ite_f rfl ?_⟩
    refine dEq_int false (by decide) ⟨_, rfl, ite_f rfl ?_⟩
    refine dEq_int false (by decide) ⟨_, rfl, ite_f rfl ?_⟩
    refine dEq_int true (by decide) ⟨_, rfl, ite_t rfl ?_⟩
    rw [e_Way] at hq
    exact ⟨_, rfl, _, rfl, _, rfl, _, rfl, _, rfl, rfl, _, _, _, _, _, rfl, hq⟩
  · cases hW
    obtain ⟨a0, a1, rfl⟩ := len2 hl
    refine dEq_int false (by decide) ⟨_, rfl, ite_f rfl ?_⟩
    refine dEq_int false (by decide) ⟨_, rfl, ite_f rfl ?_⟩
    refine dEq_int false (by decide) ⟨_, rfl, ite_f rfl ?_⟩
    refine dEq_int false (by decide) ⟨_, rfl, ite_f rfl ?_⟩
    refine dEq_int false (by decide) ⟨_, rfl, ite_f rfl ?_⟩
    refine dEq_int false (by decide) ⟨_, rfl, ite_f rfl ?_⟩
    refine dEq_int false (by decide) ⟨_, rfl, ite_f rfl ?_⟩
    refine dEq_int true (by decide) ⟨_, rfl, ite_t rfl ?_⟩
    rw [e_Found] at hq
    exact ⟨_, rfl, _, rfl, rfl, _, _, rfl, hq⟩
  · cases hW
    obtain ⟨a0, rfl⟩ := len1 hl
    refine dEq_int false (by decide) ⟨_, rfl, ite_f rfl ?_⟩
    refine dEq_int false (by decide) ⟨_, rfl, ite_f rfl ?_⟩
    refine dEq_int false (by decide) ⟨_, rfl, ite_f rfl ?_⟩
    refine dEq_int false (by decide) ⟨_, rfl, ite_f rfl ?_⟩
    refine dEq_int false (by decide) ⟨_, rfl, ite_f rfl ?_⟩
    refine dEq_int false (by decide) ⟨_, rfl, ite_f rfl ?_⟩
    refine dEq_int false (by decide) ⟨_, rfl, ite_f rfl ?_⟩
    refine dEq_int false (by decide) ⟨_, rfl, ite_f rfl ?_⟩
    refine dEq_int true (by decide) ⟨_, rfl, ite_t rfl ?_⟩
    rw [e_Never] at hq
    exact ⟨_, rfl, rfl, _, rfl, hq⟩
  · cases hW
    obtain ⟨a0, a1, rfl⟩ := len2 hl
    refine dEq_int false (by decide) ⟨_, rfl, ite_f rfl ?_⟩
    refine dEq_int false (by decide) ⟨_, rfl, ite_f rfl ?_⟩
    refine dEq_int false (by decide) ⟨_, rfl, ite_f rfl ?_⟩
    refine dEq_int false (by decide) ⟨_, rfl, ite_f rfl ?_⟩
    refine dEq_int false (by decide) ⟨_, rfl, ite_f rfl ?_⟩
    refine dEq_int false (by decide) ⟨_, rfl, ite_f rfl ?_⟩
    refine dEq_int false (by decide) ⟨_, rfl, ite_f rfl ?_⟩
    refine dEq_int false (by decide) ⟨_, rfl, ite_f rfl ?_⟩
    refine dEq_int false (by decide) ⟨_, rfl, ite_f rfl ?_⟩
    rw [e_Trial] at hq
    exact ⟨_, rfl, _, rfl, rfl, _, _, rfl, hq⟩
end
theorem sc__law_made : FnScope ["_law_which", "_law_parts"] ["_law_which", "_law_parts"] (defScope s__law_made) := ⟨rfl, rfl, rfl, by decide +kernel, rfl, by decide +kernel, by decide +kernel⟩
section
variable {P : Program} {w : World} {K : PySem.W.Frag} {mg : Str → Option Value} {base : Heap}
theorem ok__law_made (A : AllC K mg) (D__law_made : Dn K mg "_law_made" s__law_made ["_law_which", "_law_parts"]) (D__law_made_later : Dn K mg "_law_made_later" s__law_made_later ["_law_which", "_law_parts"]) (G__law_made_later : FnOk P w K mg base CX0 3 D__law_made_later.f D__law_made_later.fd ["_law_which", "_law_parts"] (dsp K 2 (sp_later A))) (G_Clash_init : FnOk P w K mg base CX0 1 A.x_Clash.f A.x_Clash.fd ["self", "why", "at"] (dspI K A.x_Clash.C 2 sp_Clash)) (G_Canon_init : FnOk P w K mg base CX0 1 A.x_Canon.f A.x_Canon.fd ["self", "book", "letters", "unknowns"] (dspI K A.x_Canon.C 3 sp_Canon)) (G_Settled_init : FnOk P w K mg base CX0 1 A.x_Settled.f A.x_Settled.fd ["self", "told", "letters", "unknowns", "spares"] (dspI K A.x_Settled.C 4 sp_Settled)) (G_Guess_init : FnOk P w K mg base CX0 1 A.x_Guess.f A.x_Guess.fd ["self", "parts", "news", "told", "letters", "unknowns", "spares", "equations"] (dspI K A.x_Guess.C 7 sp_Guess)) (G_Shape_init : FnOk P w K mg base CX0 1 A.x_Shape.f A.x_Shape.fd ["self", "front", "stays", "back", "ends"] (dspI K A.x_Shape.C 4 sp_Shape)) (G_Answer_init : FnOk P w K mg base CX0 1 A.x_Answer.f A.x_Answer.fd ["self", "numbers"] (dspI K A.x_Answer.C 1 sp_Answer)) (G_Carries_init : FnOk P w K mg base CX0 1 A.x_Carries.f A.x_Carries.fd ["self", "rows"] (dspI K A.x_Carries.C 1 sp_Carries)) (G_Look_init : FnOk P w K mg base CX0 1 A.x_Look.f A.x_Look.fd ["self", "step", "outcomes"] (dspI K A.x_Look.C 2 sp_Look)) (G_Trail_init : FnOk P w K mg base CX0 1 A.x_Trail.f A.x_Trail.fd ["self", "root", "turns"] (dspI K A.x_Trail.C 2 sp_Trail)) (G_Pressed_init : FnOk P w K mg base CX0 1 A.x_Pressed.f A.x_Pressed.fd ["self", "table", "ends"] (dspI K A.x_Pressed.C 2 sp_Pressed)) (G_Stages_init : FnOk P w K mg base CX0 1 A.x_Stages.f A.x_Stages.fd ["self", "grammar", "stages"] (dspI K A.x_Stages.C 2 sp_Stages)) (T : TB mg) : FnOk P w K mg base CX0 4 D__law_made.f D__law_made.fd ["_law_which", "_law_parts"] (dsp K 2 (sp_made A)) := by
  refine fn_d (k := 3) (N := ["_law_which", "_law_parts"]) D__law_made.F sc__law_made (fun cdv Ar outer s H E hr => (dss_cons (ds_if (dt_cmpC (cd_eq (fun _ => ru64 hr)) (de_var (fun _ => pv 0)) de_int (nomark _)) (dss_one (ds_ret (de_make (fun _ pa => pe_make A.x_Clash.M G_Clash_init (hr.mono (by decide)) (by rfl) A.x_Clash.m A.x_Clash.b0 A.x_Clash.w0 pass0 pa) (fun _ _ => .nil) (dl_val (de_ixA (de_var (fun _ => pv 1)) de_int (fun _ _ => rfl)) (dl_val (de_ixA (de_var (fun _ => pv 1)) de_int (fun _ _ => rfl)) dl_nil))))) dss_nil)
  (dss_cons (ds_if (dt_cmpC (cd_eq (fun _ => ru64 hr)) (de_var (fun _ => pv 0)) de_int (nomark _)) (dss_one (ds_ret (de_make (fun _ pa => pe_make A.x_Canon.M G_Canon_init (hr.mono (by decide)) (by rfl) A.x_Canon.m A.x_Canon.b0 A.x_Canon.w0 pass0 pa) (fun _ _ => .nil) (dl_val (de_ixA (de_var (fun _ => pv 1)) de_int (fun _ _ => rfl)) (dl_val (de_ixA (de_var (fun _ => pv 1)) de_int (fun _ _ => rfl)) (dl_val (de_ixA (de_var (fun _ => pv 1)) de_int (fun _ _ => rfl)) dl_nil)))))) dss_nil)
  (dss_cons (ds_if (dt_cmpC (cd_eq (fun _ => ru64 hr)) (de_var (fun _ => pv 0)) de_int (nomark _)) (dss_one (ds_ret (de_make (fun _ pa => pe_make A.x_Settled.M G_Settled_init (hr.mono (by decide)) (by rfl) A.x_Settled.m A.x_Settled.b0 A.x_Settled.w0 pass0 pa) (fun _ _ => .nil) (dl_val (de_ixA (de_var (fun _ => pv 1)) de_int (fun _ _ => rfl)) (dl_val (de_ixA (de_var (fun _ => pv 1)) de_int (fun _ _ => rfl)) (dl_val (de_ixA (de_var (fun _ => pv 1)) de_int (fun _ _ => rfl)) (dl_val (de_ixA (de_var (fun _ => pv 1)) de_int (fun _ _ => rfl)) dl_nil))))))) dss_nil)
  (dss_cons (ds_if (dt_cmpC (cd_eq (fun _ => ru64 hr)) (de_var (fun _ => pv 0)) de_int (nomark _)) (dss_one (ds_ret (de_make (fun _ pa => pe_make A.x_Guess.M G_Guess_init (hr.mono (by decide)) (by rfl) A.x_Guess.m A.x_Guess.b0 A.x_Guess.w0 pass0 pa) (fun _ _ => .nil) (dl_val (de_ixA (de_var (fun _ => pv 1)) de_int (fun _ _ => rfl)) (dl_val (de_ixA (de_var (fun _ => pv 1)) de_int (fun _ _ => rfl)) (dl_val (de_ixA (de_var (fun _ => pv 1)) de_int (fun _ _ => rfl)) (dl_val (de_ixA (de_var (fun _ => pv 1)) de_int (fun _ _ => rfl)) (dl_val (de_ixA (de_var (fun _ => pv 1)) de_int (fun _ _ => rfl)) (dl_val (de_ixA (de_var (fun _ => pv 1)) de_int (fun _ _ => rfl)) (dl_val (de_ixA (de_var (fun _ => pv 1)) de_int (fun _ _ => rfl)) dl_nil)))))))))) dss_nil)
  (dss_cons (ds_if (dt_cmpC (cd_eq (fun _ => ru64 hr)) (de_var (fun _ => pv 0)) de_int (nomark _)) (dss_one (ds_ret (de_make (fun _ pa => pe_make A.x_Shape.M G_Shape_init (hr.mono (by decide)) (by rfl) A.x_Shape.m A.x_Shape.b0 A.x_Shape.w0 pass0 pa) (fun _ _ => .nil) (dl_val (de_ixA (de_var (fun _ => pv 1)) de_int (fun _ _ => rfl)) (dl_val (de_ixA (de_var (fun _ => pv 1)) de_int (fun _ _ => rfl)) (dl_val (de_ixA (de_var (fun _ => pv 1)) de_int (fun _ _ => rfl)) (dl_val (de_ixA (de_var (fun _ => pv 1)) de_int (fun _ _ => rfl)) dl_nil))))))) dss_nil)
  (dss_cons (ds_if (dt_cmpC (cd_eq (fun _ => ru64 hr)) (de_var (fun _ => pv 0)) de_int (nomark _)) (dss_one (ds_ret (de_make (fun _ pa => pe_make A.x_Answer.M G_Answer_init (hr.mono (by decide)) (by rfl) A.x_Answer.m A.x_Answer.b0 A.x_Answer.w0 pass0 pa) (fun _ _ => .nil) (dl_val (de_ixA (de_var (fun _ => pv 1)) de_int (fun _ _ => rfl)) dl_nil)))) dss_nil)
  (dss_cons (ds_if (dt_cmpC (cd_eq (fun _ => ru64 hr)) (de_var (fun _ => pv 0)) de_int (nomark _)) (dss_one (ds_ret (de_make (fun _ pa => pe_make A.x_Carries.M G_Carries_init (hr.mono (by decide)) (by rfl) A.x_Carries.m A.x_Carries.b0 A.x_Carries.w0 pass0 pa) (fun _ _ => .nil) (dl_val (de_ixA (de_var (fun _ => pv 1)) de_int (fun _ _ => rfl)) dl_nil)))) dss_nil)
  (dss_cons (ds_if (dt_cmpC (cd_eq (fun _ => ru64 hr)) (de_var (fun _ => pv 0)) de_int (nomark _)) (dss_one (ds_ret (de_make (fun _ pa => pe_make A.x_Look.M G_Look_init (hr.mono (by decide)) (by rfl) A.x_Look.m A.x_Look.b0 A.x_Look.w0 pass0 pa) (fun _ _ => .nil) (dl_val (de_ixA (de_var (fun _ => pv 1)) de_int (fun _ _ => rfl)) (dl_val (de_ixA (de_var (fun _ => pv 1)) de_int (fun _ _ => rfl)) dl_nil))))) dss_nil)
  (dss_cons (ds_if (dt_cmpC (cd_eq (fun _ => ru64 hr)) (de_var (fun _ => pv 0)) de_int (nomark _)) (dss_one (ds_ret (de_make (fun _ pa => pe_make A.x_Trail.M G_Trail_init (hr.mono (by decide)) (by rfl) A.x_Trail.m A.x_Trail.b0 A.x_Trail.w0 pass0 pa) (fun _ _ => .nil) (dl_val (de_ixA (de_var (fun _ => pv 1)) de_int (fun _ _ => rfl)) (dl_val (de_ixA (de_var (fun _ => pv 1)) de_int (fun _ _ => rfl)) dl_nil))))) dss_nil)
  (dss_cons (ds_if (dt_cmpC (cd_eq (fun _ => ru64 hr)) (de_var (fun _ => pv 0)) de_int (nomark _)) (dss_one (ds_ret (de_make (fun _ pa => pe_make A.x_Pressed.M G_Pressed_init (hr.mono (by decide)) (by rfl) A.x_Pressed.m A.x_Pressed.b0 A.x_Pressed.w0 pass0 pa) (fun _ _ => .nil) (dl_val (de_ixA (de_var (fun _ => pv 1)) de_int (fun _ _ => rfl)) (dl_val (de_ixA (de_var (fun _ => pv 1)) de_int (fun _ _ => rfl)) dl_nil))))) dss_nil)
  (dss_cons (ds_if (dt_cmpC (cd_eq (fun _ => ru64 hr)) (de_var (fun _ => pv 0)) de_int (nomark _)) (dss_one (ds_ret (de_make (fun _ pa => pe_make A.x_Stages.M G_Stages_init (hr.mono (by decide)) (by rfl) A.x_Stages.m A.x_Stages.b0 A.x_Stages.w0 pass0 pa) (fun _ _ => .nil) (dl_val (de_ixA (de_var (fun _ => pv 1)) de_int (fun _ _ => rfl)) (dl_val (de_ixA (de_var (fun _ => pv 1)) de_int (fun _ _ => rfl)) dl_nil))))) dss_nil)
  (dss_one (ds_ret (de_call (fun _ pa => pe_call G__law_made_later (hr.mono (by decide)) (by rfl) D__law_made_later.m D__law_made_later.F.kp D__law_made_later.b .nil pass0 pa) (dl_val (de_var (fun _ => pv 0)) (dl_val (de_var (fun _ => pv 1)) dl_nil))))))))))))))))) (fun δ Qd l h => ?_)
  obtain ⟨w, r, ds, hW, rfl, hl, hp, hq⟩ := h
  have hw := W_lt hW
  have hw : w = 0 ∨ w = 1 ∨ w = 2 ∨ w = 3 ∨ w = 4 ∨ w = 5 ∨ w = 6 ∨ w = 7 ∨ w = 8 ∨ w = 9 ∨ w = 10 ∨ w = 11 ∨ w = 12 ∨ w = 13 ∨ w = 14 ∨ w = 15 ∨ w = 16 ∨ w = 17 ∨ w = 18 ∨ w = 19 ∨ w = 20 := by omega
  rcases hw with rfl | rfl | rfl | rfl | rfl | rfl | rfl | rfl | rfl | rfl | rfl | rfl | rfl | rfl | rfl | rfl | rfl | rfl | rfl | rfl | rfl
  · cases hW
    obtain ⟨a0, a1, rfl⟩ := len2 hl
    refine dEq_int true (by decide) ⟨_, rfl, ite_t rfl ?_⟩
    rw [e_Clash] at hq
    exact ⟨_, rfl, _, rfl, rfl, _, _, rfl, hq⟩
  · cases hW
    obtain ⟨a0, a1, a2, rfl⟩ := len3 hl
    refine dEq_int false (by decide) ⟨_, rfl, ite_f rfl ?_⟩
    refine dEq_int true (by decide) ⟨_, rfl, ite_t rfl ?_⟩
    rw [e_Canon] at hq
    exact ⟨_, rfl, _, rfl, _, rfl, rfl, _, _, _, rfl, hq⟩
  · cases hW
    obtain ⟨a0, a1, a2, a3, rfl⟩ := len4 hl
    refine dEq_int false (by decide) ⟨_, rfl, ite_f rfl ?_⟩
    refine dEq_int false (by decide) ⟨_, rfl, ite_f rfl ?_⟩
    refine dEq_int true (by decide) ⟨_, rfl, ite_t rfl ?_⟩
    rw [e_Settled] at hq
    exact ⟨_, rfl, _, rfl, _, rfl, _, rfl, rfl, _, _, _, _, rfl, hq⟩
  · cases hW
    obtain ⟨a0, a1, a2, a3, a4, a5, a6, rfl⟩ := len7 hl
    refine dEq_int false (by decide) ⟨_, rfl, ite_f rfl ?_⟩
    refine dEq_int false (by decide) ⟨_, rfl, ite_f rfl ?_⟩
    refine dEq_int false (by decide) ⟨_, rfl, ite_f rfl ?_⟩
    refine dEq_int true (by decide) ⟨_, rfl, ite_t rfl ?_⟩
    rw [e_Guess] at hq
    exact ⟨_, rfl, _, rfl, _, rfl, _, rfl, _, rfl, _, rfl, _, rfl, rfl, _, _, _, _, _, _, _, rfl, hq⟩
  · cases hW
    obtain ⟨a0, a1, a2, a3, rfl⟩ := len4 hl
    refine dEq_int false (by decide) ⟨_, rfl, ite_f rfl ?_⟩
    refine dEq_int false (by decide) ⟨_, rfl, ite_f rfl ?_⟩
    refine dEq_int false (by decide) ⟨_, rfl, ite_f rfl ?_⟩
    refine dEq_int false (by decide) ⟨_, rfl, ite_f rfl ?_⟩
    refine dEq_int true (by decide) ⟨_, rfl, ite_t rfl ?_⟩
    rw [e_Shape] at hq
    exact ⟨_, rfl, _, rfl, _, rfl, _, rfl, rfl, _, _, _, _, rfl, hq⟩
  · cases hW
    obtain ⟨a0, rfl⟩ := len1 hl
    refine dEq_int false (by decide) ⟨_, rfl, ite_f rfl ?_⟩
    refine dEq_int false (by decide) ⟨_, rfl, ite_f rfl ?_⟩
    refine dEq_int false (by decide) ⟨_, rfl, ite_f rfl ?_⟩
    refine dEq_int false (by decide) ⟨_, rfl, ite_f rfl ?_⟩
    refine dEq_int false (by decide) ⟨_, rfl, ite_f rfl ?_⟩
    refine dEq_int true (by decide) ⟨_, rfl, ite_t rfl ?_⟩
    rw [e_Answer] at hq
    exact ⟨_, rfl, rfl, _, rfl, hq⟩
  · cases hW
    obtain ⟨a0, rfl⟩ := len1 hl
    refine dEq_int false (by decide) ⟨_, rfl, ite_f rfl ?_⟩
    refine dEq_int false (by decide) ⟨_, rfl, ite_f rfl ?_⟩
    refine dEq_int false (by decide) ⟨_, rfl, ite_f rfl ?_⟩
    refine dEq_int false (by decide) ⟨_, rfl, ite_f rfl ?_⟩
    refine dEq_int false (by decide) ⟨_, rfl, ite_f rfl ?_⟩
    refine dEq_int false (by decide) ⟨_, rfl, ite_f rfl ?_⟩
    refine dEq_int true (by decide) ⟨_, rfl, ite_t rfl ?_⟩
    rw [e_Carries] at hq
    exact ⟨_, rfl, rfl, _, rfl, hq⟩
  · cases hW
    obtain ⟨a0, a1, rfl⟩ := len2 hl
    refine dEq_int false (by decide) ⟨_, rfl, ite_f rfl ?_⟩
    refine dEq_int false (by decide) ⟨_, rfl, ite_f rfl ?_⟩
    refine dEq_int false (by decide) ⟨_, rfl, ite_f rfl ?_⟩
    refine dEq_int false (by decide) ⟨_, rfl, ite_f rfl ?_⟩
    refine dEq_int false (by decide) ⟨_, rfl, ite_f rfl ?_⟩
    refine dEq_int false (by decide) ⟨_, rfl, ite_f rfl ?_⟩
    refine dEq_int false (by decide) ⟨_, rfl, ite_f rfl ?_⟩
    refine dEq_int true (by decide) ⟨_, rfl, ite_t rfl ?_⟩
    rw [e_Look] at hq
    exact ⟨_, rfl, _, rfl, rfl, _, _, rfl, hq⟩
  · cases hW
    obtain ⟨a0, a1, rfl⟩ := len2 hl
    refine dEq_int false (by decide) ⟨_, rfl, ite_f rfl ?_⟩
    refine dEq_int false (by decide) ⟨_, rfl, ite_f rfl ?_⟩
    refine dEq_int false (by decide) ⟨_, rfl, ite_f rfl ?_⟩
    refine dEq_int false (by decide) ⟨_, rfl, ite_f rfl ?_⟩
    refine dEq_int false (by decide) ⟨_, rfl, ite_f rfl ?_⟩
    refine dEq_int false (by decide) ⟨_, rfl, ite_f rfl ?_⟩
    refine dEq_int false (by decide) ⟨_, rfl, ite_f rfl ?_⟩
    refine dEq_int false (by decide) ⟨_, rfl, ite_f rfl ?_⟩
    refine dEq_int true (by decide) ⟨_, rfl, ite_t rfl ?_⟩
    rw [e_Trail] at hq
    exact ⟨_, rfl, _, rfl, rfl, _, _, rfl, hq⟩
  · cases hW
    obtain ⟨a0, a1, rfl⟩ := len2 hl
    refine dEq_int false (by decide) ⟨_, rfl, ite_f rfl ?_⟩
    refine dEq_int false (by decide) ⟨_, rfl, ite_f rfl ?_⟩
    refine dEq_int false (by decide) ⟨_, rfl, ite_f rfl ?_⟩
    refine dEq_int false (by decide) ⟨_, rfl, ite_f rfl ?_⟩
    refine dEq_int false (by decide) ⟨_, rfl, ite_f rfl ?_⟩
    refine dEq_int false (by decide) ⟨_, rfl, ite_f rfl ?_⟩
    refine dEq_int false (by decide) ⟨_, rfl, ite_f rfl ?_⟩
    refine dEq_int false (by decide) ⟨_, rfl, ite_f rfl ?_⟩
    refine dEq_int false (by decide) ⟨_, rfl, ite_f rfl ?_⟩
    refine dEq_int true (by decide) ⟨_, rfl, ite_t rfl ?_⟩
    rw [e_Pressed] at hq
    exact ⟨_, rfl, _, rfl, rfl, _, _, rfl, hq⟩
  · cases hW
    obtain ⟨a0, a1, rfl⟩ := len2 hl
    refine dEq_int false (by decide) ⟨_, rfl, ite_f rfl ?_⟩
    refine dEq_int false (by decide) ⟨_, rfl, ite_f rfl ?_⟩
    refine dEq_int false (by decide) ⟨_, rfl, ite_f rfl ?_⟩
    refine dEq_int false (by decide) ⟨_, rfl, ite_f rfl ?_⟩
    refine dEq_int false (by decide) ⟨_, rfl, ite_f rfl ?_⟩
    refine dEq_int false (by decide) ⟨_, rfl, ite_f rfl ?_⟩
    refine dEq_int false (by decide) ⟨_, rfl, ite_f rfl ?_⟩
    refine dEq_int false (by decide) ⟨_, rfl, ite_f rfl ?_⟩
    refine dEq_int false (by decide) ⟨_, rfl, ite_f rfl ?_⟩
    refine dEq_int false (by decide) ⟨_, rfl, ite_f rfl ?_⟩
    refine dEq_int true (by decide) ⟨_, rfl, ite_t rfl ?_⟩
    rw [e_Stages] at hq
    exact ⟨_, rfl, _, rfl, rfl, _, _, rfl, hq⟩
  · cases hW
    refine dEq_int false (by decide) ⟨_, rfl, ite_f rfl ?_⟩
    refine dEq_int false (by decide) ⟨_, rfl, ite_f rfl ?_⟩
    refine dEq_int false (by decide) ⟨_, rfl, ite_f rfl ?_⟩
    refine dEq_int false (by decide) ⟨_, rfl, ite_f rfl ?_⟩
    refine dEq_int false (by decide) ⟨_, rfl, ite_f rfl ?_⟩
    refine dEq_int false (by decide) ⟨_, rfl, ite_f rfl ?_⟩
    refine dEq_int false (by decide) ⟨_, rfl, ite_f rfl ?_⟩
    refine dEq_int false (by decide) ⟨_, rfl, ite_f rfl ?_⟩
    refine dEq_int false (by decide) ⟨_, rfl, ite_f rfl ?_⟩
    refine dEq_int false (by decide) ⟨_, rfl, ite_f rfl ?_⟩
    refine dEq_int false (by decide) ⟨_, rfl, ite_f rfl ?_⟩
    exact ⟨rfl, _, _, ds, (by decide), rfl, rfl, hl, hp, hq⟩
  · cases hW
    refine dEq_int false (by decide) ⟨_, rfl, ite_f rfl ?_⟩
    refine dEq_int false (by decide) ⟨_, rfl, ite_f rfl ?_⟩
    refine dEq_int false (by decide) ⟨_, rfl, ite_f rfl ?_⟩
    refine dEq_int false (by decide) ⟨_, rfl, ite_f rfl ?_⟩
    refine dEq_int false (by decide) ⟨_, rfl, ite_f rfl ?_⟩
    refine dEq_int false (by decide) ⟨_, rfl, ite_f rfl ?_⟩
    refine dEq_int false (by decide) ⟨_, rfl, ite_f rfl ?_⟩
    refine dEq_int false (by decide) ⟨_, rfl, ite_f rfl ?_⟩
    refine dEq_int false (by decide) ⟨_, rfl, ite_f rfl ?_⟩
    refine dEq_int false (by decide) ⟨_, rfl, ite_f rfl ?_⟩
    refine dEq_int false (by decide) ⟨_, rfl, ite_f rfl ?_⟩
    exact ⟨rfl, _, _, ds, (by decide), rfl, rfl, hl, hp, hq⟩
  · cases hW
    refine dEq_int false (by decide) ⟨_, rfl, ite_f rfl ?_⟩
    refine dEq_int false (by decide) ⟨_, rfl, ite_f rfl ?_⟩
    refine dEq_int false (by decide) ⟨_, rfl, ite_f rfl ?_⟩
    refine dEq_int false (by decide) ⟨_, rfl, ite_f rfl ?_⟩
    refine dEq_int false (by decide) ⟨_, rfl, ite_f rfl ?_⟩
    refine dEq_int false (by decide) ⟨_, rfl, ite_f rfl ?_⟩
    refine dEq_int false (by decide) ⟨_, rfl, ite_f rfl ?_⟩
    refine dEq_int false (by decide) ⟨_, rfl, ite_f rfl ?_⟩
    refine dEq_int false (by decide) ⟨_, rfl, ite_f rfl ?_⟩
    refine dEq_int false (by decide) ⟨_, rfl, ite_f rfl ?_⟩
    refine dEq_int false (by decide) ⟨_, rfl, ite_f rfl ?_⟩
    exact ⟨rfl, _, _, ds, (by decide), rfl, rfl, hl, hp, hq⟩
  · cases hW
    refine dEq_int false (by decide) ⟨_, rfl, ite_f rfl ?_⟩
    refine dEq_int false (by decide) ⟨_, rfl, ite_f rfl ?_⟩
    refine dEq_int false (by decide) ⟨_, rfl, ite_f rfl ?_⟩
    refine dEq_int false (by decide) ⟨_, rfl, ite_f rfl ?_⟩
    refine dEq_int false (by decide) ⟨_, rfl, ite_f rfl ?_⟩
    refine dEq_int false (by decide) ⟨_, rfl, ite_f rfl ?_⟩
    refine dEq_int false (by decide) ⟨_, rfl, ite_f rfl ?_⟩
    refine dEq_int false (by decide) ⟨_, rfl, ite_f rfl ?_⟩
    refine dEq_int false (by decide) ⟨_, rfl, ite_f rfl ?_⟩
    refine dEq_int false (by decide) ⟨_, rfl, ite_f rfl ?_⟩
    refine dEq_int false (by decide) ⟨_, rfl, ite_f rfl ?_⟩
    exact ⟨rfl, _, _, ds, (by decide), rfl, rfl, hl, hp, hq⟩
  · cases hW
    refine dEq_int false (by decide) ⟨_, rfl, ite_f rfl ?_⟩
    refine dEq_int false (by decide) ⟨_, rfl, ite_f rfl ?_⟩
    refine dEq_int false (by decide) ⟨_, rfl, ite_f rfl ?_⟩
    refine dEq_int false (by decide) ⟨_, rfl, ite_f rfl ?_⟩
    refine dEq_int false (by decide) ⟨_, rfl, ite_f rfl ?_⟩
    refine dEq_int false (by decide) ⟨_, rfl, ite_f rfl ?_⟩
    refine dEq_int false (by decide) ⟨_, rfl, ite_f rfl ?_⟩
    refine dEq_int false (by decide) ⟨_, rfl, ite_f rfl ?_⟩
    refine dEq_int false (by decide) ⟨_, rfl, ite_f rfl ?_⟩
    refine dEq_int false (by decide) ⟨_, rfl, ite_f rfl ?_⟩
    refine dEq_int false (by decide) ⟨_, rfl, ite_f rfl ?_⟩
    exact ⟨rfl, _, _, ds, (by decide), rfl, rfl, hl, hp, hq⟩
  · cases hW
    refine dEq_int false (by decide) ⟨_, rfl, ite_f rfl ?_⟩
    refine dEq_int false (by decide) ⟨_, rfl, ite_f rfl ?_⟩
    refine dEq_int false (by decide) ⟨_, rfl, ite_f rfl ?_⟩
    refine dEq_int false (by decide) ⟨_, rfl, ite_f rfl ?_⟩
    refine dEq_int false (by decide) ⟨_, rfl, ite_f rfl ?_⟩
    refine dEq_int false (by decide) ⟨_, rfl, ite_f rfl ?_⟩
    refine dEq_int false (by decide) ⟨_, rfl, ite_f rfl ?_⟩
    refine dEq_int false (by decide) ⟨_, rfl, ite_f rfl ?_⟩
    refine dEq_int false (by decide) ⟨_, rfl, ite_f rfl ?_⟩
    refine dEq_int false (by decide) ⟨_, rfl, ite_f rfl ?_⟩
    refine dEq_int false (by decide) ⟨_, rfl, ite_f rfl ?_⟩
    exact ⟨rfl, _, _, ds, (by decide), rfl, rfl, hl, hp, hq⟩
  · cases hW
    refine dEq_int false (by decide) ⟨_, rfl, ite_f rfl ?_⟩
    refine dEq_int false (by decide) ⟨_, rfl, ite_f rfl ?_⟩
    refine dEq_int false (by decide) ⟨_, rfl, ite_f rfl ?_⟩
    refine dEq_int false (by decide) ⟨_, rfl, ite_f rfl ?_⟩
    refine dEq_int false (by decide) ⟨_, rfl, ite_f rfl ?_⟩
    refine dEq_int false (by decide) ⟨_, rfl, ite_f rfl ?_⟩
    refine dEq_int false (by decide) ⟨_, rfl, ite_f rfl ?_⟩
    refine dEq_int false (by decide) ⟨_, rfl, ite_f rfl ?_⟩
    refine dEq_int false (by decide) ⟨_, rfl, ite_f rfl ?_⟩
    refine dEq_int false (by decide) ⟨_, rfl, ite_f rfl ?_⟩
    refine dEq_int false (by decide) ⟨_, rfl, ite_f rfl ?_⟩
    exact ⟨rfl, _, _, ds, (by decide), rfl, rfl, hl, hp, hq⟩
  · cases hW
    refine dEq_int false (by decide) ⟨_, rfl, ite_f rfl ?_⟩
    refine dEq_int false (by decide) ⟨_, rfl, ite_f rfl ?_⟩
    refine dEq_int false (by decide) ⟨_, rfl, ite_f rfl ?_⟩
    refine dEq_int false (by decide) ⟨_, rfl, ite_f rfl ?_⟩
    refine dEq_int false (by decide) ⟨_, rfl, ite_f rfl ?_⟩
    refine dEq_int false (by decide) ⟨_, rfl, ite_f rfl ?_⟩
    refine dEq_int false (by decide) ⟨_, rfl, ite_f rfl ?_⟩
    refine dEq_int false (by decide) ⟨_, rfl, ite_f rfl ?_⟩
    refine dEq_int false (by decide) ⟨_, rfl, ite_f rfl ?_⟩
    refine dEq_int false (by decide) ⟨_, rfl, ite_f rfl ?_⟩
    refine dEq_int false (by decide) ⟨_, rfl, ite_f rfl ?_⟩
    exact ⟨rfl, _, _, ds, (by decide), rfl, rfl, hl, hp, hq⟩
  · cases hW
    refine dEq_int false (by decide) ⟨_, rfl, ite_f rfl ?_⟩
    refine dEq_int false (by decide) ⟨_, rfl, ite_f rfl ?_⟩
    refine dEq_int false (by decide) ⟨_, rfl, ite_f rfl ?_⟩
    refine dEq_int false (by decide) ⟨_, rfl, ite_f rfl ?_⟩
    refine dEq_int false (by decide) ⟨_, rfl, ite_f rfl ?_⟩
    refine dEq_int false (by decide) ⟨_, rfl, ite_f rfl ?_⟩
    refine dEq_int false (by decide) ⟨_, rfl, ite_f rfl ?_⟩
    refine dEq_int false (by decide) ⟨_, rfl, ite_f rfl ?_⟩
    refine dEq_int false (by decide) ⟨_, rfl, ite_f rfl ?_⟩
    refine dEq_int false (by decide) ⟨_, rfl, ite_f rfl ?_⟩
    refine dEq_int false (by decide) ⟨_, rfl, ite_f rfl ?_⟩
    exact ⟨rfl, _, _, ds, (by decide), rfl, rfl, hl, hp, hq⟩
  · cases hW
    refine dEq_int false (by decide) ⟨_, rfl, ite_f rfl ?_⟩
    refine dEq_int false (by decide) ⟨_, rfl, ite_f rfl ?_⟩
    refine dEq_int false (by decide) ⟨_, rfl, ite_f rfl ?_⟩
    refine dEq_int false (by decide) ⟨_, rfl, ite_f rfl ?_⟩
    refine dEq_int false (by decide) ⟨_, rfl, ite_f rfl ?_⟩
    refine dEq_int false (by decide) ⟨_, rfl, ite_f rfl ?_⟩
    refine dEq_int false (by decide) ⟨_, rfl, ite_f rfl ?_⟩
    refine dEq_int false (by decide) ⟨_, rfl, ite_f rfl ?_⟩
    refine dEq_int false (by decide) ⟨_, rfl, ite_f rfl ?_⟩
    refine dEq_int false (by decide) ⟨_, rfl, ite_f rfl ?_⟩
    refine dEq_int false (by decide) ⟨_, rfl, ite_f rfl ?_⟩
    exact ⟨rfl, _, _, ds, (by decide), rfl, rfl, hl, hp, hq⟩
end
theorem sc__law_told_later : FnScope ["_law_which", "_law_one"] ["_law_which", "_law_one"] (defScope s__law_told_later) := ⟨rfl, rfl, rfl, by decide +kernel, rfl, by decide +kernel, by decide +kernel⟩
section
variable {P : Program} {w : World} {K : PySem.W.Frag} {mg : Str → Option Value} {base : Heap}
theorem ok__law_told_later (A : AllC K mg) (D__law_told_later : Dn K mg "_law_told_later" s__law_told_later ["_law_which", "_law_one"]) (T : TB mg) : FnOk P w K mg base CX0 1 D__law_told_later.f D__law_told_later.fd ["_law_which", "_law_one"] (dsp K 2 (sp_tlater A)) := by
  refine fn_d (k := 0) (N := ["_law_which", "_law_one"]) D__law_told_later.F sc__law_told_later (fun cdv Ar outer s H E hr => (dss_cons (ds_if (dt_cmpC (cd_eq (fun _ => ru64 hr)) (de_var (fun _ => pv 0)) de_int (nomark _)) (dss_one (ds_ret (de_n (dn_lst (da_cons (de_fld (de_var (fun _ => pv 1))) (da_cons (de_fld (de_var (fun _ => pv 1))) (da_cons (de_fld (de_var (fun _ => pv 1))) da_nil))))))) dss_nil)
  (dss_cons (ds_if (dt_cmpC (cd_eq (fun _ => ru64 hr)) (de_var (fun _ => pv 0)) de_int (nomark _)) (dss_one (ds_ret (de_n (dn_lst (da_cons (de_fld (de_var (fun _ => pv 1))) (da_cons (de_fld (de_var (fun _ => pv 1))) da_nil)))))) dss_nil)
  (dss_cons (ds_if (dt_cmpC (cd_eq (fun _ => ru64 hr)) (de_var (fun _ => pv 0)) de_int (nomark _)) (dss_one (ds_ret (de_n (dn_lst (da_cons (de_fld (de_var (fun _ => pv 1))) da_nil))))) dss_nil)
  (dss_cons (ds_if (dt_cmpC (cd_eq (fun _ => ru64 hr)) (de_var (fun _ => pv 0)) de_int (nomark _)) (dss_one (ds_ret (de_n (dn_lst (da_cons (de_fld (de_var (fun _ => pv 1))) (da_cons (de_fld (de_var (fun _ => pv 1))) (da_cons (de_fld (de_var (fun _ => pv 1))) da_nil))))))) dss_nil)
  (dss_cons (ds_if (dt_cmpC (cd_eq (fun _ => ru64 hr)) (de_var (fun _ => pv 0)) de_int (nomark _)) (dss_one (ds_ret (de_n (dn_lst (da_cons (de_fld (de_var (fun _ => pv 1))) (da_cons (de_fld (de_var (fun _ => pv 1))) (da_cons (de_fld (de_var (fun _ => pv 1))) (da_cons (de_fld (de_var (fun _ => pv 1))) (da_cons (de_fld (de_var (fun _ => pv 1))) da_nil))))))))) dss_nil)
  (dss_cons (ds_if (dt_cmpC (cd_eq (fun _ => ru64 hr)) (de_var (fun _ => pv 0)) de_int (nomark _)) (dss_one (ds_ret (de_n (dn_lst (da_cons (de_fld (de_var (fun _ => pv 1))) (da_cons (de_fld (de_var (fun _ => pv 1))) (da_cons (de_fld (de_var (fun _ => pv 1))) (da_cons (de_fld (de_var (fun _ => pv 1))) da_nil)))))))) dss_nil)
  (dss_cons (ds_if (dt_cmpC (cd_eq (fun _ => ru64 hr)) (de_var (fun _ => pv 0)) de_int (nomark _)) (dss_one (ds_ret (de_n (dn_lst (da_cons (de_fld (de_var (fun _ => pv 1))) (da_cons (de_fld (de_var (fun _ => pv 1))) (da_cons (de_fld (de_var (fun _ => pv 1))) (da_cons (de_fld (de_var (fun _ => pv 1))) (da_cons (de_fld (de_var (fun _ => pv 1))) da_nil))))))))) dss_nil)
  (dss_cons (ds_if (dt_cmpC (cd_eq (fun _ => ru64 hr)) (de_var (fun _ => pv 0)) de_int (nomark _)) (dss_one (ds_ret (de_n (dn_lst (da_cons (de_fld (de_var (fun _ => pv 1))) (da_cons (de_fld (de_var (fun _ => pv 1))) da_nil)))))) dss_nil)
  (dss_cons (ds_if (dt_cmpC (cd_eq (fun _ => ru64 hr)) (de_var (fun _ => pv 0)) de_int (nomark _)) (dss_one (ds_ret (de_n (dn_lst (da_cons (de_fld (de_var (fun _ => pv 1))) da_nil))))) dss_nil)
  (dss_one (ds_ret (de_n (dn_lst (da_cons (de_fld (de_var (fun _ => pv 1))) (da_cons (de_fld (de_var (fun _ => pv 1))) da_nil)))))))))))))))) (fun δ Qd l h => ?_)
  obtain ⟨w, r, ds, h11, hW, rfl, hl, hq⟩ := h
  have hw := W_lt hW
  have hw : w = 11 ∨ w = 12 ∨ w = 13 ∨ w = 14 ∨ w = 15 ∨ w = 16 ∨ w = 17 ∨ w = 18 ∨ w = 19 ∨ w = 20 := by omega
  rcases hw with rfl | rfl | rfl | rfl | rfl | rfl | rfl | rfl | rfl | rfl
  · cases hW
    obtain ⟨a0, a1, a2, rfl⟩ := len3 hl
    refine dEq_int true (by decide) ⟨_, rfl, ite_t rfl ?_⟩
    exact ⟨A.x_Entry.cl, A.x_Entry.na _ (by simp), _, rfl, A.x_Entry.cl, A.x_Entry.na _ (by simp), _, rfl, A.x_Entry.cl, A.x_Entry.na _ (by simp), _, rfl, (by show 3 ≤ sizeLine; decide), hq⟩
  · cases hW
    obtain ⟨a0, a1, rfl⟩ := len2 hl
    refine dEq_int false (by decide) ⟨_, rfl, ite_f rfl ?_⟩
    refine dEq_int true (by decide) ⟨_, rfl, ite_t rfl ?_⟩
    exact ⟨A.x_Paper.cl, A.x_Paper.na _ (by simp), _, rfl, A.x_Paper.cl, A.x_Paper.na _ (by simp), _, rfl, (by show 2 ≤ sizeLine; decide), hq⟩
  · cases hW
    obtain ⟨a0, rfl⟩ := len1 hl
    refine dEq_int false (by decide) ⟨_, rfl, ite_f rfl ?_⟩
    refine dEq_int false (by decide) ⟨_, rfl, ite_f rfl ?_⟩
    refine dEq_int true (by decide) ⟨_, rfl, ite_t rfl ?_⟩
    exact ⟨A.x_Shut.cl, A.x_Shut.na _ (by simp), _, rfl, (by show 1 ≤ sizeLine; decide), hq⟩
  · cases hW
    obtain ⟨a0, a1, a2, rfl⟩ := len3 hl
    refine dEq_int false (by decide) ⟨_, rfl, ite_f rfl ?_⟩
    refine dEq_int false (by decide) ⟨_, rfl, ite_f rfl ?_⟩
    refine dEq_int false (by decide) ⟨_, rfl, ite_f rfl ?_⟩
    refine dEq_int true (by decide) ⟨_, rfl, ite_t rfl ?_⟩
    exact ⟨A.x_Case.cl, A.x_Case.na _ (by simp), _, rfl, A.x_Case.cl, A.x_Case.na _ (by simp), _, rfl, A.x_Case.cl, A.x_Case.na _ (by simp), _, rfl, (by show 3 ≤ sizeLine; decide), hq⟩
  · cases hW
    obtain ⟨a0, a1, a2, a3, a4, rfl⟩ := len5 hl
    refine dEq_int false (by decide) ⟨_, rfl, ite_f rfl ?_⟩
    refine dEq_int false (by decide) ⟨_, rfl, ite_f rfl ?_⟩
    refine dEq_int false (by decide) ⟨_, rfl, ite_f rfl ?_⟩
    refine dEq_int false (by decide) ⟨_, rfl, ite_f rfl ?_⟩
    refine dEq_int true (by decide) ⟨_, rfl, ite_t rfl ?_⟩
    exact ⟨A.x_Root.cl, A.x_Root.na _ (by simp), _, rfl, A.x_Root.cl, A.x_Root.na _ (by simp), _, rfl, A.x_Root.cl, A.x_Root.na _ (by simp), _, rfl, A.x_Root.cl, A.x_Root.na _ (by simp), _, rfl, A.x_Root.cl, A.x_Root.na _ (by simp), _, rfl, (by show 5 ≤ sizeLine; decide), hq⟩
  · cases hW
    obtain ⟨a0, a1, a2, a3, rfl⟩ := len4 hl
    refine dEq_int false (by decide) ⟨_, rfl, ite_f rfl ?_⟩
    refine dEq_int false (by decide) ⟨_, rfl, ite_f rfl ?_⟩
    refine dEq_int false (by decide) ⟨_, rfl, ite_f rfl ?_⟩
    refine dEq_int false (by decide) ⟨_, rfl, ite_f rfl ?_⟩
    refine dEq_int false (by decide) ⟨_, rfl, ite_f rfl ?_⟩
    refine dEq_int true (by decide) ⟨_, rfl, ite_t rfl ?_⟩
    exact ⟨A.x_Run.cl, A.x_Run.na _ (by simp), _, rfl, A.x_Run.cl, A.x_Run.na _ (by simp), _, rfl, A.x_Run.cl, A.x_Run.na _ (by simp), _, rfl, A.x_Run.cl, A.x_Run.na _ (by simp), _, rfl, (by show 4 ≤ sizeLine; decide), hq⟩
  · cases hW
    obtain ⟨a0, a1, a2, a3, a4, rfl⟩ := len5 hl
    refine dEq_int false (by decide) ⟨_, rfl, ite_f rfl ?_⟩
    refine dEq_int false (by decide) ⟨_, rfl, ite_f rfl ?_⟩
    refine dEq_int false (by decide) ⟨_, rfl, ite_f rfl ?_⟩
    refine dEq_int false (by decide) ⟨_, rfl, ite_f rfl ?_⟩
    refine dEq_int false (by decide) ⟨_, rfl, ite_f rfl ?_⟩
    refine dEq_int false (by decide) ⟨_, rfl, ite_f rfl ?_⟩
    refine dEq_int true (by decide) ⟨_, rfl, ite_t rfl ?_⟩
    exact ⟨A.x_Way.cl, A.x_Way.na _ (by simp), _, rfl, A.x_Way.cl, A.x_Way.na _ (by simp), _, rfl, A.x_Way.cl, A.x_Way.na _ (by simp), _, rfl, A.x_Way.cl, A.x_Way.na _ (by simp), _, rfl, A.x_Way.cl, A.x_Way.na _ (by simp), _, rfl, (by show 5 ≤ sizeLine; decide), hq⟩
  · cases hW
    obtain ⟨a0, a1, rfl⟩ := len2 hl
    refine dEq_int false (by decide) ⟨_, rfl, ite_f rfl ?_⟩
    refine dEq_int false (by decide) ⟨_, rfl, ite_f rfl ?_⟩
    refine dEq_int false (by decide) ⟨_, rfl, ite_f rfl ?_⟩
    refine dEq_int false (by decide) ⟨_, rfl, ite_f rfl ?_⟩
    refine dEq_int false (by decide) ⟨_, rfl, ite_f rfl ?_⟩
    refine dEq_int false (by decide) ⟨_, rfl, ite_f rfl ?_⟩
    refine dEq_int false (by decide) ⟨_, rfl, ite_f rfl ?_⟩
    refine dEq_int true (by decide) ⟨_, rfl, ite_t rfl ?_⟩
    exact ⟨A.x_Found.cl, A.x_Found.na _ (by simp), _, rfl, A.x_Found.cl, A.x_Found.na _ (by simp), _, rfl, (by show 2 ≤ sizeLine; decide), hq⟩
  · cases hW
    obtain ⟨a0, rfl⟩ := len1 hl
    refine dEq_int false (by decide) ⟨_, rfl, ite_f rfl ?_⟩
    refine dEq_int false (by decide) ⟨_, rfl, ite_f rfl ?_⟩
    refine dEq_int false (by decide) ⟨_, rfl, ite_f rfl ?_⟩
    refine dEq_int false (by decide) ⟨_, rfl, ite_f rfl ?_⟩
    refine dEq_int false (by decide) ⟨_, rfl, ite_f rfl ?_⟩
    refine dEq_int false (by decide) ⟨_, rfl, ite_f rfl ?_⟩
    refine dEq_int false (by decide) ⟨_, rfl, ite_f rfl ?_⟩
    refine dEq_int false (by decide) ⟨_, rfl, ite_f rfl ?_⟩
    refine dEq_int true (by decide) ⟨_, rfl, ite_t rfl ?_⟩
    exact ⟨A.x_Never.cl, A.x_Never.na _ (by simp), _, rfl, (by show 1 ≤ sizeLine; decide), hq⟩
  · cases hW
    obtain ⟨a0, a1, rfl⟩ := len2 hl
    refine dEq_int false (by decide) ⟨_, rfl, ite_f rfl ?_⟩
    refine dEq_int false (by decide) ⟨_, rfl, ite_f rfl ?_⟩
    refine dEq_int false (by decide) ⟨_, rfl, ite_f rfl ?_⟩
    refine dEq_int false (by decide) ⟨_, rfl, ite_f rfl ?_⟩
    refine dEq_int false (by decide) ⟨_, rfl, ite_f rfl ?_⟩
    refine dEq_int false (by decide) ⟨_, rfl, ite_f rfl ?_⟩
    refine dEq_int false (by decide) ⟨_, rfl, ite_f rfl ?_⟩
    refine dEq_int false (by decide) ⟨_, rfl, ite_f rfl ?_⟩
    refine dEq_int false (by decide) ⟨_, rfl, ite_f rfl ?_⟩
    exact ⟨A.x_Trial.cl, A.x_Trial.na _ (by simp), _, rfl, A.x_Trial.cl, A.x_Trial.na _ (by simp), _, rfl, (by show 2 ≤ sizeLine; decide), hq⟩
end
theorem sc__law_told : FnScope ["_law_which", "_law_one"] ["_law_which", "_law_one"] (defScope s__law_told) := ⟨rfl, rfl, rfl, by decide +kernel, rfl, by decide +kernel, by decide +kernel⟩
section
variable {P : Program} {w : World} {K : PySem.W.Frag} {mg : Str → Option Value} {base : Heap}
theorem ok__law_told (A : AllC K mg) (D__law_told : Dn K mg "_law_told" s__law_told ["_law_which", "_law_one"]) (D__law_told_later : Dn K mg "_law_told_later" s__law_told_later ["_law_which", "_law_one"]) (G__law_told_later : FnOk P w K mg base CX0 1 D__law_told_later.f D__law_told_later.fd ["_law_which", "_law_one"] (dsp K 2 (sp_tlater A))) (T : TB mg) : FnOk P w K mg base CX0 2 D__law_told.f D__law_told.fd ["_law_which", "_law_one"] (dsp K 2 (sp_told A)) := by
  refine fn_d (k := 1) (N := ["_law_which", "_law_one"]) D__law_told.F sc__law_told (fun cdv Ar outer s H E hr => (dss_cons (ds_if (dt_cmpC (cd_eq (fun _ => ru64 hr)) (de_var (fun _ => pv 0)) de_int (nomark _)) (dss_one (ds_ret (de_n (dn_lst (da_cons (de_fld (de_var (fun _ => pv 1))) (da_cons (de_fld (de_var (fun _ => pv 1))) da_nil)))))) dss_nil)
  (dss_cons (ds_if (dt_cmpC (cd_eq (fun _ => ru64 hr)) (de_var (fun _ => pv 0)) de_int (nomark _)) (dss_one (ds_ret (de_n (dn_lst (da_cons (de_fld (de_var (fun _ => pv 1))) (da_cons (de_fld (de_var (fun _ => pv 1))) (da_cons (de_fld (de_var (fun _ => pv 1))) da_nil))))))) dss_nil)
  (dss_cons (ds_if (dt_cmpC (cd_eq (fun _ => ru64 hr)) (de_var (fun _ => pv 0)) de_int (nomark _)) (dss_one (ds_ret (de_n (dn_lst (da_cons (de_fld (de_var (fun _ => pv 1))) (da_cons (de_fld (de_var (fun _ => pv 1))) (da_cons (de_fld (de_var (fun _ => pv 1))) (da_cons (de_fld (de_var (fun _ => pv 1))) da_nil)))))))) dss_nil)
  (dss_cons (ds_if (dt_cmpC (cd_eq (fun _ => ru64 hr)) (de_var (fun _ => pv 0)) de_int (nomark _)) (dss_one (ds_ret (de_n (dn_lst (da_cons (de_fld (de_var (fun _ => pv 1))) (da_cons (de_fld (de_var (fun _ => pv 1))) (da_cons (de_fld (de_var (fun _ => pv 1))) (da_cons (de_fld (de_var (fun _ => pv 1))) (da_cons (de_fld (de_var (fun _ => pv 1))) (da_cons (de_fld (de_var (fun _ => pv 1))) (da_cons (de_fld (de_var (fun _ => pv 1))) da_nil))))))))))) dss_nil)
  (dss_cons (ds_if (dt_cmpC (cd_eq (fun _ => ru64 hr)) (de_var (fun _ => pv 0)) de_int (nomark _)) (dss_one (ds_ret (de_n (dn_lst (da_cons (de_fld (de_var (fun _ => pv 1))) (da_cons (de_fld (de_var (fun _ => pv 1))) (da_cons (de_fld (de_var (fun _ => pv 1))) (da_cons (de_fld (de_var (fun _ => pv 1))) da_nil)))))))) dss_nil)
  (dss_cons (ds_if (dt_cmpC (cd_eq (fun _ => ru64 hr)) (de_var (fun _ => pv 0)) de_int (nomark _)) (dss_one (ds_ret (de_n (dn_lst (da_cons (de_fld (de_var (fun _ => pv 1))) da_nil))))) dss_nil)
  (dss_cons (ds_if (dt_cmpC (cd_eq (fun _ => ru64 hr)) (de_var (fun _ => pv 0)) de_int (nomark _)) (dss_one (ds_ret (de_n (dn_lst (da_cons (de_fld (de_var (fun _ => pv 1))) da_nil))))) dss_nil)
  (dss_cons (ds_if (dt_cmpC (cd_eq (fun _ => ru64 hr)) (de_var (fun _ => pv 0)) de_int (nomark _)) (dss_one (ds_ret (de_n (dn_lst (da_cons (de_fld (de_var (fun _ => pv 1))) (da_cons (de_fld (de_var (fun _ => pv 1))) da_nil)))))) dss_nil)
  (dss_cons (ds_if (dt_cmpC (cd_eq (fun _ => ru64 hr)) (de_var (fun _ => pv 0)) de_int (nomark _)) (dss_one (ds_ret (de_n (dn_lst (da_cons (de_fld (de_var (fun _ => pv 1))) (da_cons (de_fld (de_var (fun _ => pv 1))) da_nil)))))) dss_nil)
  (dss_cons (ds_if (dt_cmpC (cd_eq (fun _ => ru64 hr)) (de_var (fun _ => pv 0)) de_int (nomark _)) (dss_one (ds_ret (de_n (dn_lst (da_cons (de_fld (de_var (fun _ => pv 1))) (da_cons (de_fld (de_var (fun _ => pv 1))) da_nil)))))) dss_nil)
  (dss_cons (ds_if (dt_cmpC (cd_eq (fun _ => ru64 hr)) (de_var (fun _ => pv 0)) de_int (nomark _)) (dss_one (ds_ret (de_n (dn_lst (da_cons (de_fld (de_var (fun _ => pv 1))) (da_cons (de_fld (de_var (fun _ => pv 1))) da_nil)))))) dss_nil)
  (dss_one (ds_ret (de_call (fun _ pa => pe_call G__law_told_later (hr.mono (by decide)) (by rfl) D__law_told_later.m D__law_told_later.F.kp D__law_told_later.b .nil pass0 pa) (dl_val (de_var (fun _ => pv 0)) (dl_val (de_var (fun _ => pv 1)) dl_nil))))))))))))))))) (fun δ Qd l h => ?_)
  obtain ⟨w, r, ds, hW, rfl, hl, hq⟩ := h
  have hw := W_lt hW
  have hw : w = 0 ∨ w = 1 ∨ w = 2 ∨ w = 3 ∨ w = 4 ∨ w = 5 ∨ w = 6 ∨ w = 7 ∨ w = 8 ∨ w = 9 ∨ w = 10 ∨ w = 11 ∨ w = 12 ∨ w = 13 ∨ w = 14 ∨ w = 15 ∨ w = 16 ∨ w = 17 ∨ w = 18 ∨ w = 19 ∨ w = 20 := by omega
  rcases hw with rfl | rfl | rfl | rfl | rfl | rfl | rfl | rfl | rfl | rfl | rfl | rfl | rfl | rfl | rfl | rfl | rfl | rfl | rfl | rfl | rfl
  · cases hW
    obtain ⟨a0, a1, rfl⟩ := len2 hl
    refine dEq_int true (by decide) ⟨_, rfl, ite_t rfl ?_⟩
    exact ⟨A.x_Clash.cl, A.x_Clash.na _ (by simp), _, rfl, A.x_Clash.cl, A.x_Clash.na _ (by simp), _, rfl, (by show 2 ≤ sizeLine; decide), hq⟩
  · cases hW
    obtain ⟨a0, a1, a2, rfl⟩ := len3 hl
    refine dEq_int false (by decide) ⟨_, rfl, ite_f rfl ?_⟩
    refine dEq_int true (by decide) ⟨_, rfl, ite_t rfl ?_⟩
    exact ⟨A.x_Canon.cl, A.x_Canon.na _ (by simp), _, rfl, A.x_Canon.cl, A.x_Canon.na _ (by simp), _, rfl, A.x_Canon.cl, A.x_Canon.na _ (by simp), _, rfl, (by show 3 ≤ sizeLine; decide), hq⟩
  · cases hW
    obtain ⟨a0, a1, a2, a3, rfl⟩ := len4 hl
    refine dEq_int false (by decide) ⟨_, rfl, ite_f rfl ?_⟩
    refine dEq_int false (by decide) ⟨_, rfl, ite_f rfl ?_⟩
    refine dEq_int true (by decide) ⟨_, rfl, ite_t rfl ?_⟩
    exact ⟨A.x_Settled.cl, A.x_Settled.na _ (by simp), _, rfl, A.x_Settled.cl, A.x_Settled.na _ (by simp), _, rfl, A.x_Settled.cl, A.x_Settled.na _ (by simp), _, rfl, A.x_Settled.cl, A.x_Settled.na _ (by simp), _, rfl, (by show 4 ≤ sizeLine; decide), hq⟩
  · cases hW
    obtain ⟨a0, a1, a2, a3, a4, a5, a6, rfl⟩ := len7 hl
    refine dEq_int false (by decide) ⟨_, rfl, ite_f rfl ?_⟩
    refine dEq_int false (by decide) ⟨_, rfl, ite_f rfl ?_⟩
    refine dEq_int false (by decide) ⟨_, rfl, ite_f rfl ?_⟩
    refine dEq_int true (by decide) ⟨_, rfl, ite_t rfl ?_⟩
    exact ⟨A.x_Guess.cl, A.x_Guess.na _ (by simp), _, rfl, A.x_Guess.cl, A.x_Guess.na _ (by simp), _, rfl, A.x_Guess.cl, A.x_Guess.na _ (by simp), _, rfl, A.x_Guess.cl, A.x_Guess.na _ (by simp), _, rfl, A.x_Guess.cl, A.x_Guess.na _ (by simp), _, rfl, A.x_Guess.cl, A.x_Guess.na _ (by simp), _, rfl, A.x_Guess.cl, A.x_Guess.na _ (by simp), _, rfl, (by show 7 ≤ sizeLine; decide), hq⟩
  · cases hW
    obtain ⟨a0, a1, a2, a3, rfl⟩ := len4 hl
    refine dEq_int false (by decide) ⟨_, rfl, ite_f rfl ?_⟩
    refine dEq_int false (by decide) ⟨_, rfl, ite_f rfl ?_⟩
    refine dEq_int false (by decide) ⟨_, rfl, ite_f rfl ?_⟩
    refine dEq_int false (by decide) ⟨_, rfl, ite_f rfl ?_⟩
    refine dEq_int true (by decide) ⟨_, rfl, ite_t rfl ?_⟩
    exact ⟨A.x_Shape.cl, A.x_Shape.na _ (by simp), _, rfl, A.x_Shape.cl, A.x_Shape.na _ (by simp), _, rfl, A.x_Shape.cl, A.x_Shape.na _ (by simp), _, rfl, A.x_Shape.cl, A.x_Shape.na _ (by simp), _, rfl, (by show 4 ≤ sizeLine; decide), hq⟩
  · cases hW
    obtain ⟨a0, rfl⟩ := len1 hl
    refine dEq_int false (by decide) ⟨_, rfl, ite_f rfl ?_⟩
    refine dEq_int false (by decide) ⟨_, rfl, ite_f rfl ?_⟩
    refine dEq_int false (by decide) ⟨_, rfl, ite_f rfl ?_⟩
    refine dEq_int false (by decide) ⟨_, rfl, ite_f rfl ?_⟩
    refine dEq_int false (by decide) ⟨_, rfl, ite_f rfl ?_⟩
    refine dEq_int true (by decide) ⟨_, rfl, ite_t rfl ?_⟩
    exact ⟨A.x_Answer.cl, A.x_Answer.na _ (by simp), _, rfl, (by show 1 ≤ sizeLine; decide), hq⟩
  · cases hW
    obtain ⟨a0, rfl⟩ := len1 hl
    refine dEq_int false (by decide) ⟨_, rfl, ite_f rfl ?_⟩
    refine dEq_int false (by decide) ⟨_, rfl, ite_f rfl ?_⟩
    refine dEq_int false (by decide) ⟨_, rfl, ite_f rfl ?_⟩
    refine dEq_int false (by decide) ⟨_, rfl, ite_f rfl ?_⟩
    refine dEq_int false (by decide) ⟨_, rfl, ite_f rfl ?_⟩
    refine dEq_int false (by decide) ⟨_, rfl, ite_f rfl ?_⟩
    refine dEq_int true (by decide) ⟨_, rfl, ite_t rfl ?_⟩
    exact ⟨A.x_Carries.cl, A.x_Carries.na _ (by simp), _, rfl, (by show 1 ≤ sizeLine; decide), hq⟩
  · cases hW
    obtain ⟨a0, a1, rfl⟩ := len2 hl
    refine dEq_int false (by decide) ⟨_, rfl, ite_f rfl ?_⟩
    refine dEq_int false (by decide) ⟨_, rfl, ite_f rfl ?_⟩
    refine dEq_int false (by decide) ⟨_, rfl, ite_f rfl ?_⟩
    refine dEq_int false (by decide) ⟨_, rfl, ite_f rfl ?_⟩
    refine dEq_int false (by decide) ⟨_, rfl, ite_f rfl ?_⟩
    refine dEq_int false (by decide) ⟨_, rfl, ite_f rfl ?_⟩
    refine dEq_int false (by decide) ⟨_, rfl, ite_f rfl ?_⟩
    refine dEq_int true (by decide) ⟨_, rfl, ite_t rfl ?_⟩
    exact ⟨A.x_Look.cl, A.x_Look.na _ (by simp), _, rfl, A.x_Look.cl, A.x_Look.na _ (by simp), _, rfl, (by show 2 ≤ sizeLine; decide), hq⟩
  · cases hW
    obtain ⟨a0, a1, rfl⟩ := len2 hl
    refine dEq_int false (by decide) ⟨_, rfl, ite_f rfl ?_⟩
    refine dEq_int false (by decide) ⟨_, rfl, ite_f rfl ?_⟩
    refine dEq_int false (by decide) ⟨_, rfl, ite_f rfl ?_⟩
    refine dEq_int false (by decide) ⟨_, rfl, ite_f rfl ?_⟩
    refine dEq_int false (by decide) ⟨_, rfl, ite_f rfl ?_⟩
    refine dEq_int false (by decide) ⟨_, rfl, ite_f rfl ?_⟩
    refine dEq_int false (by decide) ⟨_, rfl, ite_f rfl ?_⟩
    refine dEq_int false (by decide) ⟨_, rfl, ite_f rfl ?_⟩
    refine dEq_int true (by decide) ⟨_, rfl, ite_t rfl ?_⟩
    exact ⟨A.x_Trail.cl, A.x_Trail.na _ (by simp), _, rfl, A.x_Trail.cl, A.x_Trail.na _ (by simp), _, rfl, (by show 2 ≤ sizeLine; decide), hq⟩
  · cases hW
    obtain ⟨a0, a1, rfl⟩ := len2 hl
    refine dEq_int false (by decide) ⟨_, rfl, ite_f rfl ?_⟩
    refine dEq_int false (by decide) ⟨_, rfl, ite_f rfl ?_⟩
    refine dEq_int false (by decide) ⟨_, rfl, ite_f rfl ?_⟩
    refine dEq_int false (by decide) ⟨_, rfl, ite_f rfl ?_⟩
    refine dEq_int false (by decide) ⟨_, rfl, ite_f rfl ?_⟩
    refine dEq_int false (by decide) ⟨_, rfl, ite_f rfl ?_⟩
    refine dEq_int false (by decide) ⟨_, rfl, ite_f rfl ?_⟩
    refine dEq_int false (by decide) ⟨_, rfl, ite_f rfl ?_⟩
    refine dEq_int false (by decide) ⟨_, rfl, ite_f rfl ?_⟩
    refine dEq_int true (by decide) ⟨_, rfl, ite_t rfl ?_⟩
    exact ⟨A.x_Pressed.cl, A.x_Pressed.na _ (by simp), _, rfl, A.x_Pressed.cl, A.x_Pressed.na _ (by simp), _, rfl, (by show 2 ≤ sizeLine; decide), hq⟩
  · cases hW
    obtain ⟨a0, a1, rfl⟩ := len2 hl
    refine dEq_int false (by decide) ⟨_, rfl, ite_f rfl ?_⟩
    refine dEq_int false (by decide) ⟨_, rfl, ite_f rfl ?_⟩
    refine dEq_int false (by decide) ⟨_, rfl, ite_f rfl ?_⟩
    refine dEq_int false (by decide) ⟨_, rfl, ite_f rfl ?_⟩
    refine dEq_int false (by decide) ⟨_, rfl, ite_f rfl ?_⟩
    refine dEq_int false (by decide) ⟨_, rfl, ite_f rfl ?_⟩
    refine dEq_int false (by decide) ⟨_, rfl, ite_f rfl ?_⟩
    refine dEq_int false (by decide) ⟨_, rfl, ite_f rfl ?_⟩
    refine dEq_int false (by decide) ⟨_, rfl, ite_f rfl ?_⟩
    refine dEq_int false (by decide) ⟨_, rfl, ite_f rfl ?_⟩
    refine dEq_int true (by decide) ⟨_, rfl, ite_t rfl ?_⟩
    exact ⟨A.x_Stages.cl, A.x_Stages.na _ (by simp), _, rfl, A.x_Stages.cl, A.x_Stages.na _ (by simp), _, rfl, (by show 2 ≤ sizeLine; decide), hq⟩
  · cases hW
    refine dEq_int false (by decide) ⟨_, rfl, ite_f rfl ?_⟩
    refine dEq_int false (by decide) ⟨_, rfl, ite_f rfl ?_⟩
    refine dEq_int false (by decide) ⟨_, rfl, ite_f rfl ?_⟩
    refine dEq_int false (by decide) ⟨_, rfl, ite_f rfl ?_⟩
    refine dEq_int false (by decide) ⟨_, rfl, ite_f rfl ?_⟩
    refine dEq_int false (by decide) ⟨_, rfl, ite_f rfl ?_⟩
    refine dEq_int false (by decide) ⟨_, rfl, ite_f rfl ?_⟩
    refine dEq_int false (by decide) ⟨_, rfl, ite_f rfl ?_⟩
    refine dEq_int false (by decide) ⟨_, rfl, ite_f rfl ?_⟩
    refine dEq_int false (by decide) ⟨_, rfl, ite_f rfl ?_⟩
    refine dEq_int false (by decide) ⟨_, rfl, ite_f rfl ?_⟩
    exact ⟨rfl, _, _, ds, (by decide), rfl, rfl, hl, hq⟩
  · cases hW
    refine dEq_int false (by decide) ⟨_, rfl, ite_f rfl ?_⟩
    refine dEq_int false (by decide) ⟨_, rfl, ite_f rfl ?_⟩
    refine dEq_int false (by decide) ⟨_, rfl, ite_f rfl ?_⟩
    refine dEq_int false (by decide) ⟨_, rfl, ite_f rfl ?_⟩
    refine dEq_int false (by decide) ⟨_, rfl, ite_f rfl ?_⟩
    refine dEq_int false (by decide) ⟨_, rfl, ite_f rfl ?_⟩
    refine dEq_int false (by decide) ⟨_, rfl, ite_f rfl ?_⟩
    refine dEq_int false (by decide) ⟨_, rfl, ite_f rfl ?_⟩
    refine dEq_int false (by decide) ⟨_, rfl, ite_f rfl ?_⟩
    refine dEq_int false (by decide) ⟨_, rfl, ite_f rfl ?_⟩
    refine dEq_int false (by decide) ⟨_, rfl, ite_f rfl ?_⟩
    exact ⟨rfl, _, _, ds, (by decide), rfl, rfl, hl, hq⟩
  · cases hW
    refine dEq_int false (by decide) ⟨_, rfl, ite_f rfl ?_⟩
    refine dEq_int false (by decide) ⟨_, rfl, ite_f rfl ?_⟩
    refine dEq_int false (by decide) ⟨_, rfl, ite_f rfl ?_⟩
    refine dEq_int false (by decide) ⟨_, rfl, ite_f rfl ?_⟩
    refine dEq_int false (by decide) ⟨_, rfl, ite_f rfl ?_⟩
    refine dEq_int false (by decide) ⟨_, rfl, ite_f rfl ?_⟩
    refine dEq_int false (by decide) ⟨_, rfl, ite_f rfl ?_⟩
    refine dEq_int false (by decide) ⟨_, rfl, ite_f rfl ?_⟩
    refine dEq_int false (by decide) ⟨_, rfl, ite_f rfl ?_⟩
    refine dEq_int false (by decide) ⟨_, rfl, ite_f rfl ?_⟩
    refine dEq_int false (by decide) ⟨_, rfl, ite_f rfl ?_⟩
    exact ⟨rfl, _, _, ds, (by decide), rfl, rfl, hl, hq⟩
  · cases hW
    refine dEq_int false (by decide) ⟨_, rfl, ite_f rfl ?_⟩
    refine dEq_int false (by decide) ⟨_, rfl, ite_f rfl ?_⟩
    refine dEq_int false (by decide) ⟨_, rfl, ite_f rfl ?_⟩
    refine dEq_int false (by decide) ⟨_, rfl, ite_f rfl ?_⟩
    refine dEq_int false (by decide) ⟨_, rfl, ite_f rfl ?_⟩
    refine dEq_int false (by decide) ⟨_, rfl, ite_f rfl ?_⟩
    refine dEq_int false (by decide) ⟨_, rfl, ite_f rfl ?_⟩
    refine dEq_int false (by decide) ⟨_, rfl, ite_f rfl ?_⟩
    refine dEq_int false (by decide) ⟨_, rfl, ite_f rfl ?_⟩
    refine dEq_int false (by decide) ⟨_, rfl, ite_f rfl ?_⟩
    refine dEq_int false (by decide) ⟨_, rfl, ite_f rfl ?_⟩
    exact ⟨rfl, _, _, ds, (by decide), rfl, rfl, hl, hq⟩
  · cases hW
    refine dEq_int false (by decide) ⟨_, rfl, ite_f rfl ?_⟩
    refine dEq_int false (by decide) ⟨_, rfl, ite_f rfl ?_⟩
    refine dEq_int false (by decide) ⟨_, rfl, ite_f rfl ?_⟩
    refine dEq_int false (by decide) ⟨_, rfl, ite_f rfl ?_⟩
    refine dEq_int false (by decide) ⟨_, rfl, ite_f rfl ?_⟩
    refine dEq_int false (by decide) ⟨_, rfl, ite_f rfl ?_⟩
    refine dEq_int false (by decide) ⟨_, rfl, ite_f rfl ?_⟩
    refine dEq_int false (by decide) ⟨_, rfl, ite_f rfl ?_⟩
    refine dEq_int false (by decide) ⟨_, rfl, ite_f rfl ?_⟩
    refine dEq_int false (by decide) ⟨_, rfl, ite_f rfl ?_⟩
    refine dEq_int false (by decide) ⟨_, rfl, ite_f rfl ?_⟩
    exact ⟨rfl, _, _, ds, (by decide), rfl, rfl, hl, hq⟩
  · cases hW
    refine dEq_int false (by decide) ⟨_, rfl, ite_f rfl ?_⟩
    refine dEq_int false (by decide) ⟨_, rfl, ite_f rfl ?_⟩
    refine dEq_int false (by decide) ⟨_, rfl, ite_f rfl ?_⟩
    refine dEq_int false (by decide) ⟨_, rfl, ite_f rfl ?_⟩
    refine dEq_int false (by decide) ⟨_, rfl, ite_f rfl ?_⟩
    refine dEq_int false (by decide) ⟨_, rfl, ite_f rfl ?_⟩
    refine dEq_int false (by decide) ⟨_, rfl, ite_f rfl ?_⟩
    refine dEq_int false (by decide) ⟨_, rfl, ite_f rfl ?_⟩
    refine dEq_int false (by decide) ⟨_, rfl, ite_f rfl ?_⟩
    refine dEq_int false (by decide) ⟨_, rfl, ite_f rfl ?_⟩
    refine dEq_int false (by decide) ⟨_, rfl, ite_f rfl ?_⟩
    exact ⟨rfl, _, _, ds, (by decide), rfl, rfl, hl, hq⟩
  · cases hW
    refine dEq_int false (by decide) ⟨_, rfl, ite_f rfl ?_⟩
    refine dEq_int false (by decide) ⟨_, rfl, ite_f rfl ?_⟩
    refine dEq_int false (by decide) ⟨_, rfl, ite_f rfl ?_⟩
    refine dEq_int false (by decide) ⟨_, rfl, ite_f rfl ?_⟩
    refine dEq_int false (by decide) ⟨_, rfl, ite_f rfl ?_⟩
    refine dEq_int false (by decide) ⟨_, rfl, ite_f rfl ?_⟩
    refine dEq_int false (by decide) ⟨_, rfl, ite_f rfl ?_⟩
    refine dEq_int false (by decide) ⟨_, rfl, ite_f rfl ?_⟩
    refine dEq_int false (by decide) ⟨_, rfl, ite_f rfl ?_⟩
    refine dEq_int false (by decide) ⟨_, rfl, ite_f rfl ?_⟩
    refine dEq_int false (by decide) ⟨_, rfl, ite_f rfl ?_⟩
    exact ⟨rfl, _, _, ds, (by decide), rfl, rfl, hl, hq⟩
  · cases hW
    refine dEq_int false (by decide) ⟨_, rfl, ite_f rfl ?_⟩
    refine dEq_int false (by decide) ⟨_, rfl, ite_f rfl ?_⟩
    refine dEq_int false (by decide) ⟨_, rfl, ite_f rfl ?_⟩
    refine dEq_int false (by decide) ⟨_, rfl, ite_f rfl ?_⟩
    refine dEq_int false (by decide) ⟨_, rfl, ite_f rfl ?_⟩
    refine dEq_int false (by decide) ⟨_, rfl, ite_f rfl ?_⟩
    refine dEq_int false (by decide) ⟨_, rfl, ite_f rfl ?_⟩
    refine dEq_int false (by decide) ⟨_, rfl, ite_f rfl ?_⟩
    refine dEq_int false (by decide) ⟨_, rfl, ite_f rfl ?_⟩
    refine dEq_int false (by decide) ⟨_, rfl, ite_f rfl ?_⟩
    refine dEq_int false (by decide) ⟨_, rfl, ite_f rfl ?_⟩
    exact ⟨rfl, _, _, ds, (by decide), rfl, rfl, hl, hq⟩
  · cases hW
    refine dEq_int false (by decide) ⟨_, rfl, ite_f rfl ?_⟩
    refine dEq_int false (by decide) ⟨_, rfl, ite_f rfl ?_⟩
    refine dEq_int false (by decide) ⟨_, rfl, ite_f rfl ?_⟩
    refine dEq_int false (by decide) ⟨_, rfl, ite_f rfl ?_⟩
    refine dEq_int false (by decide) ⟨_, rfl, ite_f rfl ?_⟩
    refine dEq_int false (by decide) ⟨_, rfl, ite_f rfl ?_⟩
    refine dEq_int false (by decide) ⟨_, rfl, ite_f rfl ?_⟩
    refine dEq_int false (by decide) ⟨_, rfl, ite_f rfl ?_⟩
    refine dEq_int false (by decide) ⟨_, rfl, ite_f rfl ?_⟩
    refine dEq_int false (by decide) ⟨_, rfl, ite_f rfl ?_⟩
    refine dEq_int false (by decide) ⟨_, rfl, ite_f rfl ?_⟩
    exact ⟨rfl, _, _, ds, (by decide), rfl, rfl, hl, hq⟩
  · cases hW
    refine dEq_int false (by decide) ⟨_, rfl, ite_f rfl ?_⟩
    refine dEq_int false (by decide) ⟨_, rfl, ite_f rfl ?_⟩
    refine dEq_int false (by decide) ⟨_, rfl, ite_f rfl ?_⟩
    refine dEq_int false (by decide) ⟨_, rfl, ite_f rfl ?_⟩
    refine dEq_int false (by decide) ⟨_, rfl, ite_f rfl ?_⟩
    refine dEq_int false (by decide) ⟨_, rfl, ite_f rfl ?_⟩
    refine dEq_int false (by decide) ⟨_, rfl, ite_f rfl ?_⟩
    refine dEq_int false (by decide) ⟨_, rfl, ite_f rfl ?_⟩
    refine dEq_int false (by decide) ⟨_, rfl, ite_f rfl ?_⟩
    refine dEq_int false (by decide) ⟨_, rfl, ite_f rfl ?_⟩
    refine dEq_int false (by decide) ⟨_, rfl, ite_f rfl ?_⟩
    exact ⟨rfl, _, _, ds, (by decide), rfl, rfl, hl, hq⟩
end
end My
set_option maxHeartbeats 4000000
namespace My
open PySem PySem.Spec PyProof.Rows L2 Lcn Sq Dl
theorem rep_flat {α : Type} (n : Nat) (d : α) : (List.replicate n [d]).flatten = List.replicate n d := by
  induction n with
  | zero => rfl
  | succ n ih => rw [List.replicate_succ, List.flatten_cons, ih]; rfl
theorem seqld_one {α : Type} {P : α → Dt → Prop} {x : α} {d : Dt} (h : P x d) : SeqLd P (.lst [d]) [x] := ⟨[(x, d)], rfl, fun p m => by rw [List.mem_singleton] at m; subst m; exact h, rfl⟩
theorem okB_B {s : Int} (h0 : 1 ≤ s) (h1 : s ≤ 12) : okB (bkB s) := by
  refine ⟨(by show (1 : Int) ≤ 1; decide), (by show (1 : Int) < 1000; decide), (by show 1 < 1000; decide), (by show 1 < 1000; decide), (by show 1 < 1000; decide), fun r m => ?_, fun d m => ?_, fun e m => ?_, fun r m t ht => ?_⟩
  · have : r = (List.replicate s.toNat 0, [-1]) := by simpa [bkB] using m
    subst this
    simp
    omega
  · have : d = [0] := by simpa [bkB] using m
    subst this
    simp [bkB]
  · have : e = (0, [0]) := by simpa [bkB] using m
    subst this
    refine ⟨by decide, (by show (0 : Int) < 1; decide), by decide, fun i m => ?_, fun i x y h1 h2 => ?_⟩
    · have : i = 0 := by simpa using m
      subst this
      exact ⟨by decide, (by show (0 : Int) < 1; decide)⟩
    · match i with
      | 0 => cases h2
      | i + 1 => cases h1
  · have : r = (List.replicate s.toNat 0, [-1]) := by simpa [bkB] using m
    subst this
    rcases List.mem_append.mp ht with a | a
    · have := List.eq_of_mem_replicate a
      subst this
      refine ⟨fun _ => ?_, fun z => absurd z (by decide)⟩
      show (0 : Int) < ((1 : Nat) : Int)
      decide
    · have : t = -1 := by simpa using a
      subst this
      refine ⟨fun z => absurd z (by decide), fun _ => ?_⟩
      show (-1 : Int) - -1 < ((1 : Nat) : Int)
      decide
theorem cmul {i j : Int} (hi : i.natAbs ≤ 1000) (hj : j.natAbs ≤ 1000) : CMulW i j := by
  unfold CMulW
  have := Nat.log2_le_self i.natAbs
  have := Nat.log2_le_self j.natAbs
  omega
theorem txt_a {s : Int} (h0 : 1 ≤ s) (h1 : s ≤ 12) : TextOk (repS "a" s.toNat) := by
  have l : (repS "a" s.toNat).length = s.toNat * 1 := repS_len _ _
  refine ⟨by rw [l]; omega, by rw [l]; omega, fun c m => ?_, ok_rep (by decide +kernel) _⟩
  have a := foldl_all ("a" : Str) (fun c => c == 97) (by decide +kernel) s.toNat #[] (by simp)
  rw [Array.all_eq_true'] at a
  have := a c (Array.mem_toList_iff.mp m)
  have : c = 97 := by simpa using this
  subst this
  decide +kernel
theorem sc__law_book : FnScope ["_law_size"] ["_law_size"] (defScope s__law_book) := ⟨rfl, rfl, rfl, by decide +kernel, rfl, by decide +kernel, by decide +kernel⟩
section
variable {P : Program} {w : World} {K : PySem.W.Frag} {mg : Str → Option Value} {base : Heap}
theorem ok__law_book (A : AllC K mg) (D__law_book : Dn K mg "_law_book" s__law_book ["_law_size"]) (G_Book_init : FnOk P w K mg base CX0 5 A.x_Book.f A.x_Book.fd ["self", "rows", "deeds", "ends", "states"] (dspI K A.x_Book.C 4 sp_Book)) (T : TB mg) : FnOk P w K mg base CX0 7 D__law_book.f D__law_book.fd ["_law_size"] (dsp K 1 (sp_book_ A)) := by
  refine fn_d (k := 6) (N := ["_law_size"]) D__law_book.F sc__law_book (fun cdv Ar outer s H E hr => (dss_one (ds_ret (de_make (fun _ pa => pe_make A.x_Book.M G_Book_init (hr.mono (by decide)) (by rfl) A.x_Book.m A.x_Book.b1 A.x_Book.w1 pass0 pa) (fun _ _ => (.cons (.int _) .nil)) (dl_val (de_n (dn_lst (da_cons (de_tup (da_cons (de_mulA (de_tup (da_cons de_int da_nil)) (de_var (fun _ => pv 0))) (da_cons (de_tup (da_cons (de_neg de_int) da_nil)) da_nil))) da_nil))) (dl_val (de_n (dn_lst (da_cons (de_tup (da_cons de_int da_nil)) da_nil))) (dl_val (de_n (dn_lst (da_cons (de_tup (da_cons de_int (da_cons (de_tup (da_cons de_int da_nil)) da_nil))) da_nil))) dl_nil))))))) (fun δ Qd l h => ?_)
  obtain ⟨s, rfl, h0, h1, hq⟩ := h
  have z1 : 1 ≤ sizeLine := by decide
  have z2 : 2 ≤ sizeLine := by decide
  refine ⟨z1, (by simp), (by decide), (by omega), (by omega), ?_⟩
  refine ⟨_, rfl, z1, z2, z1, z1, z1, z1, z2, z1, rfl, ?_⟩
  refine ⟨_, _, _, bkB s, rfl, seqld_one ⟨_, _, rfl, ?_, rfl⟩, seqld_one rfl, seqld_one ⟨_, _, rfl, rfl, rfl⟩, okB_B h0 h1, hq⟩
  show itemsD (.tup (List.replicate s.toNat [Dt.int 0]).flatten) = _
  rw [rep_flat]
  show some _ = some _
  rw [List.map_replicate]
end
theorem sc__law_part : FnScope ["_law_kind", "_law_size", "_law_k"] ["_law_kind", "_law_size"] (defScope s__law_part) := ⟨rfl, rfl, rfl, by decide +kernel, rfl, by decide +kernel, by decide +kernel⟩
section
variable {P : Program} {w : World} {K : PySem.W.Frag} {mg : Str → Option Value} {base : Heap}
theorem ok__law_part (A : AllC K mg) (D__law_part : Dn K mg "_law_part" s__law_part ["_law_kind", "_law_size"]) (D__law_book : Dn K mg "_law_book" s__law_book ["_law_size"]) (G__law_book : FnOk P w K mg base CX0 7 D__law_book.f D__law_book.fd ["_law_size"] (dsp K 1 (sp_book_ A))) (D_filling_of : Dn K mg "filling_of" s_filling_of ["texts"]) (G_filling_of : FnOk P w K mg base CX0 6 D_filling_of.f D_filling_of.fd ["texts"] (dsp K 1 (sp_filling_of A.x_Grammar.C A.x_Filling.C))) (G_Grammar_init : FnOk P w K mg base CX0 4 A.x_Grammar.f A.x_Grammar.fd ["self", "rules"] (dspI K A.x_Grammar.C 1 sp_Grammar)) (G_Entry_init : FnOk P w K mg base CX0 1 A.x_Entry.f A.x_Entry.fd ["self", "book", "step", "lots"] (dspI K A.x_Entry.C 3 sp_Entry)) (G_Paper_init : FnOk P w K mg base CX0 1 A.x_Paper.f A.x_Paper.fd ["self", "deeds", "entries"] (dspI K A.x_Paper.C 2 sp_Paper)) (T : TB mg) : FnOk P w K mg base CX0 8 D__law_part.f D__law_part.fd ["_law_kind", "_law_size"] (dsp K 2 (sp_part A)) := by
  refine fn_d (k := 7) (N := ["_law_kind", "_law_size", "_law_k"]) D__law_part.F sc__law_part (fun cdv Ar outer s H E hr => (dss_cons (ds_if (dt_cmpC (cd_eq (fun _ => ru64 hr)) (de_var (fun _ => pv 0)) de_str (nomark _)) (dss_one (ds_ret (de_callTy (fun _ => cr_tuple rfl) rc_tuple (fun _ => by rfl) (fun _ => T.tuple_) (by decide +kernel) (da_cons (de_n (dn_lc (o := true) (own := [(("_law_k" : Str), 2)]) (fun _ => rfl) (fun _ => sc__law_part.nd) (di_range1 (fun _ => by rfl) (fun _ => T.range) (da_cons (de_add de_int (de_mod (de_var (fun _ => pv 1)) de_int)) da_nil)) (fun _ => (blkOk_by (own := [(("_law_k" : Str), 2)]) (N := ["_law_kind", "_law_size", "_law_k"]) (sc := defScope s__law_part) (by decide +kernel))) (dg_name (i := 2) (fun _ => pg_name sc__law_part.nd rfl (by first | exact Or.inl rfl | exact Or.inr rfl))) dts_nil (de_mulA (de_add (de_var (fun _ => pv 1)) (de_var (fun _ => pv 2))) (de_add (de_var (fun _ => pv 1)) de_int)) (by decide))) da_nil)))) dss_nil)
  (dss_cons (ds_if (dt_cmpC (cd_eq (fun _ => ru64 hr)) (de_var (fun _ => pv 0)) de_str (nomark _)) (dss_one (ds_ret (de_var (fun _ => pv 1)))) dss_nil)
  (dss_cons (ds_if (dt_cmpC (cd_eq (fun _ => ru64 hr)) (de_var (fun _ => pv 0)) de_str (nomark _)) (dss_one (ds_ret (de_tup (da_cons (de_mulA (de_tup (da_cons de_int da_nil)) (de_var (fun _ => pv 1))) da_nil)))) dss_nil)
  (dss_cons (ds_if (dt_cmpC (cd_eq (fun _ => ru64 hr)) (de_var (fun _ => pv 0)) de_str (nomark _)) (dss_one (ds_ret (de_call (fun _ pa => pe_call G__law_book (hr.mono (by decide)) (by rfl) D__law_book.m D__law_book.F.kp D__law_book.b .nil pass0 pa) (dl_val (de_var (fun _ => pv 1)) dl_nil)))) dss_nil)
  (dss_cons (ds_if (dt_cmpC (cd_eq (fun _ => ru64 hr)) (de_var (fun _ => pv 0)) de_str (nomark _)) (dss_one (ds_ret (de_ixA (de_n (dn_lst (da_cons de_str (da_cons de_str (da_cons de_str (da_cons de_str da_nil)))))) (de_mod (de_callTy (fun _ => call_int1) rc_int (fun _ => by rfl) (fun _ => T.int) PyProof.Rows.boot_int (da_cons (de_var (fun _ => pv 1)) da_nil)) de_int) (fun _ _ => rfl)))) dss_nil)
  (dss_cons (ds_if (dt_cmpC (cd_eq (fun _ => ru64 hr)) (de_var (fun _ => pv 0)) de_str (nomark _)) (dss_one (ds_ret (de_cmpC (cd_eq (fun _ => ru64 hr)) (de_mod (de_callTy (fun _ => call_int1) rc_int (fun _ => by rfl) (fun _ => T.int) PyProof.Rows.boot_int (da_cons (de_var (fun _ => pv 1)) da_nil)) de_int) de_int (nomark _)))) dss_nil)
  (dss_cons (ds_if (dt_cmpC (cd_eq (fun _ => ru64 hr)) (de_var (fun _ => pv 0)) de_str (nomark _)) (dss_one (ds_ret (de_make (fun _ pa => pe_make A.x_Grammar.M G_Grammar_init (hr.mono (by decide)) (by rfl) A.x_Grammar.m A.x_Grammar.b0 A.x_Grammar.w0 pass0 pa) (fun _ _ => .nil) (dl_val (de_n (dn_lst (da_cons (de_tup (da_cons de_str (da_cons (de_mulS de_str (de_var (fun _ => pv 1))) da_nil))) da_nil))) dl_nil)))) dss_nil)
  (dss_cons (ds_if (dt_cmpC (cd_eq (fun _ => ru64 hr)) (de_var (fun _ => pv 0)) de_str (nomark _)) (dss_one (ds_ret (de_call (fun _ pa => pe_call G_filling_of (hr.mono (by decide)) (by rfl) D_filling_of.m D_filling_of.F.kp D_filling_of.b .nil pass0 pa) (dl_val (de_n (dn_lst (da_cons (de_tup (da_cons de_str (da_cons (de_mulS de_str (de_var (fun _ => pv 1))) da_nil))) da_nil))) dl_nil)))) dss_nil)
  (dss_cons (ds_if (dt_cmpC (cd_eq (fun _ => ru64 hr)) (de_var (fun _ => pv 0)) de_str (nomark _)) (dss_one (ds_ret (de_tup (da_cons (de_make (fun _ pa => pe_make A.x_Entry.M G_Entry_init (hr.mono (by decide)) (by rfl) A.x_Entry.m A.x_Entry.b0 A.x_Entry.w0 pass0 pa) (fun _ _ => .nil) (dl_val (de_call (fun _ pa => pe_call G__law_book (hr.mono (by decide)) (by rfl) D__law_book.m D__law_book.F.kp D__law_book.b .nil pass0 pa) (dl_val (de_var (fun _ => pv 1)) dl_nil)) (dl_val (de_tup (da_cons de_str (da_cons de_int da_nil))) (dl_val (de_tup da_nil) dl_nil)))) da_nil)))) dss_nil)
  (dss_cons (ds_if (dt_cmpC (cd_eq (fun _ => ru64 hr)) (de_var (fun _ => pv 0)) de_str (nomark _)) (dss_one (ds_ret (de_make (fun _ pa => pe_make A.x_Paper.M G_Paper_init (hr.mono (by decide)) (by rfl) A.x_Paper.m A.x_Paper.b0 A.x_Paper.w0 pass0 pa) (fun _ _ => .nil) (dl_val (de_tup (da_cons (de_tup (da_cons de_int da_nil)) da_nil)) (dl_val (de_tup (da_cons (de_make (fun _ pa => pe_make A.x_Entry.M G_Entry_init (hr.mono (by decide)) (by rfl) A.x_Entry.m A.x_Entry.b0 A.x_Entry.w0 pass0 pa) (fun _ _ => .nil) (dl_val (de_call (fun _ pa => pe_call G__law_book (hr.mono (by decide)) (by rfl) D__law_book.m D__law_book.F.kp D__law_book.b .nil pass0 pa) (dl_val (de_var (fun _ => pv 1)) dl_nil)) (dl_val (de_tup (da_cons de_str (da_cons de_int da_nil))) (dl_val (de_tup da_nil) dl_nil)))) da_nil)) dl_nil))))) dss_nil)
  (dss_cons (ds_if (dt_cmpC (cd_eq (fun _ => ru64 hr)) (de_var (fun _ => pv 0)) de_str (nomark _)) (dss_one (ds_ret (de_tup (da_cons (de_tup (da_cons (de_mulA (de_tup (da_cons de_str da_nil)) (de_var (fun _ => pv 1))) (da_cons (de_tup (da_cons de_str da_nil)) da_nil))) da_nil)))) dss_nil)
  (dss_cons (ds_if (dt_cmpC (cd_eq (fun _ => ru64 hr)) (de_var (fun _ => pv 0)) de_str (nomark _)) (dss_one (ds_ret (de_tup (da_cons (de_tup (da_cons de_str (da_cons (de_tup (da_cons de_str (da_cons (de_ixA de_str (de_mod (de_callTy (fun _ => call_int1) rc_int (fun _ => by rfl) (fun _ => T.int) PyProof.Rows.boot_int (da_cons (de_var (fun _ => pv 1)) da_nil)) de_int) (fun _ _ => rfl)) da_nil))) (da_cons de_bl da_nil)))) da_nil)))) dss_nil)
  (dss_one (ds_ret (de_tup (da_cons (de_add de_str (de_mulS de_str (de_add de_int (de_mod (de_callTy (fun _ => call_int1) rc_int (fun _ => by rfl) (fun _ => T.int) PyProof.Rows.boot_int (da_cons (de_var (fun _ => pv 1)) da_nil)) de_int)))) da_nil))))))))))))))))) (fun δ Qd l h => ?_)
  obtain ⟨k, s, rfl, h0, h1, hq⟩ := h
  have z1 : 1 ≤ sizeLine := by decide
  have z2 : 2 ≤ sizeLine := by decide
  have z3 : 3 ≤ sizeLine := by decide
  have z4 : 4 ≤ sizeLine := by decide
  have z0 : 0 ≤ sizeLine := by decide
  cases k
  · -- T
    refine dEq_str (by decide +kernel) (by decide +kernel) true (by decide +kernel) ⟨_, rfl, ite_t rfl ?_⟩
    have b := b62 (i := 1 + s % 3) (by omega) (by omega)
    refine ⟨(by show (0 : Int) < 3; decide), b.1, b.2, rfl, by rw [rngD_len]; exact k1000 (by omega), ?_⟩
    unfold rngD
    refine lc_map (fun i : Nat => Dt.int ((s + (i : Int)) * (s + 1))) (List.range (1 + s % 3).toNat) (fun i m Q q => ?_) ?_
    · have hi := List.mem_range.mp m
      rw [Int.zero_add]
      exact ⟨cmul (by omega) (by omega), q⟩
    · exact hq
  · -- N
    refine dEq_str (by decide +kernel) (by decide +kernel) false (by decide +kernel) ⟨_, rfl, ite_f rfl ?_⟩
    refine dEq_str (by decide +kernel) (by decide +kernel) true (by decide +kernel) ⟨_, rfl, ite_t rfl ?_⟩
    exact hq
  · -- D
    refine dEq_str (by decide +kernel) (by decide +kernel) false (by decide +kernel) ⟨_, rfl, ite_f rfl ?_⟩
    refine dEq_str (by decide +kernel) (by decide +kernel) false (by decide +kernel) ⟨_, rfl, ite_f rfl ?_⟩
    refine dEq_str (by decide +kernel) (by decide +kernel) true (by decide +kernel) ⟨_, rfl, ite_t rfl ?_⟩
    refine ⟨z1, (by simp), (by decide), (by omega), (by omega), z1, ?_⟩
    rw [rep_flat]
    exact hq
  · -- B
    refine dEq_str (by decide +kernel) (by decide +kernel) false (by decide +kernel) ⟨_, rfl, ite_f rfl ?_⟩
    refine dEq_str (by decide +kernel) (by decide +kernel) false (by decide +kernel) ⟨_, rfl, ite_f rfl ?_⟩
    refine dEq_str (by decide +kernel) (by decide +kernel) false (by decide +kernel) ⟨_, rfl, ite_f rfl ?_⟩
    refine dEq_str (by decide +kernel) (by decide +kernel) true (by decide +kernel) ⟨_, rfl, ite_t rfl ?_⟩
    exact ⟨rfl, s, rfl, h0, h1, hq⟩
  · -- W
    refine dEq_str (by decide +kernel) (by decide +kernel) false (by decide +kernel) ⟨_, rfl, ite_f rfl ?_⟩
    refine dEq_str (by decide +kernel) (by decide +kernel) false (by decide +kernel) ⟨_, rfl, ite_f rfl ?_⟩
    refine dEq_str (by decide +kernel) (by decide +kernel) false (by decide +kernel) ⟨_, rfl, ite_f rfl ?_⟩
    refine dEq_str (by decide +kernel) (by decide +kernel) false (by decide +kernel) ⟨_, rfl, ite_f rfl ?_⟩
    refine dEq_str (by decide +kernel) (by decide +kernel) true (by decide +kernel) ⟨_, rfl, ite_t rfl ?_⟩
    refine ⟨z4, (by show (0 : Int) < 4; decide), Dt.str (wordS (s % 4)), ?_, hq⟩
    have : s % 4 = 0 ∨ s % 4 = 1 ∨ s % 4 = 2 ∨ s % 4 = 3 := by omega
    rcases this with e | e | e | e <;> rw [e] <;> rfl
  · -- L
    refine dEq_str (by decide +kernel) (by decide +kernel) false (by decide +kernel) ⟨_, rfl, ite_f rfl ?_⟩
    refine dEq_str (by decide +kernel) (by decide +kernel) false (by decide +kernel) ⟨_, rfl, ite_f rfl ?_⟩
    refine dEq_str (by decide +kernel) (by decide +kernel) false (by decide +kernel) ⟨_, rfl, ite_f rfl ?_⟩
    refine dEq_str (by decide +kernel) (by decide +kernel) false (by decide +kernel) ⟨_, rfl, ite_f rfl ?_⟩
    refine dEq_str (by decide +kernel) (by decide +kernel) false (by decide +kernel) ⟨_, rfl, ite_f rfl ?_⟩
    refine dEq_str (by decide +kernel) (by decide +kernel) true (by decide +kernel) ⟨_, rfl, ite_t rfl ?_⟩
    exact ⟨(by show (0 : Int) < 2; decide), dEq_int (decide (s % 2 = 0)) rfl hq⟩
  · -- G
    refine dEq_str (by decide +kernel) (by decide +kernel) false (by decide +kernel) ⟨_, rfl, ite_f rfl ?_⟩
    refine dEq_str (by decide +kernel) (by decide +kernel) false (by decide +kernel) ⟨_, rfl, ite_f rfl ?_⟩
    refine dEq_str (by decide +kernel) (by decide +kernel) false (by decide +kernel) ⟨_, rfl, ite_f rfl ?_⟩
    refine dEq_str (by decide +kernel) (by decide +kernel) false (by decide +kernel) ⟨_, rfl, ite_f rfl ?_⟩
    refine dEq_str (by decide +kernel) (by decide +kernel) false (by decide +kernel) ⟨_, rfl, ite_f rfl ?_⟩
    refine dEq_str (by decide +kernel) (by decide +kernel) false (by decide +kernel) ⟨_, rfl, ite_f rfl ?_⟩
    refine dEq_str (by decide +kernel) (by decide +kernel) true (by decide +kernel) ⟨_, rfl, ite_t rfl ?_⟩
    exact ⟨⟨by omega, by omega, by decide, by decide⟩, z2, z1, rfl, _, rfl, txt_a h0 h1, hq⟩
  · -- F
    refine dEq_str (by decide +kernel) (by decide +kernel) false (by decide +kernel) ⟨_, rfl, ite_f rfl ?_⟩
    refine dEq_str (by decide +kernel) (by decide +kernel) false (by decide +kernel) ⟨_, rfl, ite_f rfl ?_⟩
    refine dEq_str (by decide +kernel) (by decide +kernel) false (by decide +kernel) ⟨_, rfl, ite_f rfl ?_⟩
    refine dEq_str (by decide +kernel) (by decide +kernel) false (by decide +kernel) ⟨_, rfl, ite_f rfl ?_⟩
    refine dEq_str (by decide +kernel) (by decide +kernel) false (by decide +kernel) ⟨_, rfl, ite_f rfl ?_⟩
    refine dEq_str (by decide +kernel) (by decide +kernel) false (by decide +kernel) ⟨_, rfl, ite_f rfl ?_⟩
    refine dEq_str (by decide +kernel) (by decide +kernel) false (by decide +kernel) ⟨_, rfl, ite_f rfl ?_⟩
    refine dEq_str (by decide +kernel) (by decide +kernel) true (by decide +kernel) ⟨_, rfl, ite_t rfl ?_⟩
    exact ⟨⟨by omega, by omega, by decide, by decide⟩, z2, z1, rfl, _, rfl, txt_a h0 h1, hq⟩
  · -- E
    refine dEq_str (by decide +kernel) (by decide +kernel) false (by decide +kernel) ⟨_, rfl, ite_f rfl ?_⟩
    refine dEq_str (by decide +kernel) (by decide +kernel) false (by decide +kernel) ⟨_, rfl, ite_f rfl ?_⟩
    refine dEq_str (by decide +kernel) (by decide +kernel) false (by decide +kernel) ⟨_, rfl, ite_f rfl ?_⟩
    refine dEq_str (by decide +kernel) (by decide +kernel) false (by decide +kernel) ⟨_, rfl, ite_f rfl ?_⟩
    refine dEq_str (by decide +kernel) (by decide +kernel) false (by decide +kernel) ⟨_, rfl, ite_f rfl ?_⟩
    refine dEq_str (by decide +kernel) (by decide +kernel) false (by decide +kernel) ⟨_, rfl, ite_f rfl ?_⟩
    refine dEq_str (by decide +kernel) (by decide +kernel) false (by decide +kernel) ⟨_, rfl, ite_f rfl ?_⟩
    refine dEq_str (by decide +kernel) (by decide +kernel) false (by decide +kernel) ⟨_, rfl, ite_f rfl ?_⟩
    refine dEq_str (by decide +kernel) (by decide +kernel) true (by decide +kernel) ⟨_, rfl, ite_t rfl ?_⟩
    exact ⟨rfl, s, rfl, h0, h1, z2, z0, rfl, _, _, _, rfl, z1, hq⟩
  · -- P
    refine dEq_str (by decide +kernel) (by decide +kernel) false (by decide +kernel) ⟨_, rfl, ite_f rfl ?_⟩
    refine dEq_str (by decide +kernel) (by decide +kernel) false (by decide +kernel) ⟨_, rfl, ite_f rfl ?_⟩
    refine dEq_str (by decide +kernel) (by decide +kernel) false (by decide +kernel) ⟨_, rfl, ite_f rfl ?_⟩
    refine dEq_str (by decide +kernel) (by decide +kernel) false (by decide +kernel) ⟨_, rfl, ite_f rfl ?_⟩
    refine dEq_str (by decide +kernel) (by decide +kernel) false (by decide +kernel) ⟨_, rfl, ite_f rfl ?_⟩
    refine dEq_str (by decide +kernel) (by decide +kernel) false (by decide +kernel) ⟨_, rfl, ite_f rfl ?_⟩
    refine dEq_str (by decide +kernel) (by decide +kernel) false (by decide +kernel) ⟨_, rfl, ite_f rfl ?_⟩
    refine dEq_str (by decide +kernel) (by decide +kernel) false (by decide +kernel) ⟨_, rfl, ite_f rfl ?_⟩
    refine dEq_str (by decide +kernel) (by decide +kernel) false (by decide +kernel) ⟨_, rfl, ite_f rfl ?_⟩
    refine dEq_str (by decide +kernel) (by decide +kernel) true (by decide +kernel) ⟨_, rfl, ite_t rfl ?_⟩
    exact ⟨z1, z1, rfl, s, rfl, h0, h1, z2, z0, rfl, _, _, _, rfl, z1, rfl, _, _, rfl, hq⟩
  · -- R
    refine dEq_str (by decide +kernel) (by decide +kernel) false (by decide +kernel) ⟨_, rfl, ite_f rfl ?_⟩
    refine dEq_str (by decide +kernel) (by decide +kernel) false (by decide +kernel) ⟨_, rfl, ite_f rfl ?_⟩
    refine dEq_str (by decide +kernel) (by decide +kernel) false (by decide +kernel) ⟨_, rfl, ite_f rfl ?_⟩
    refine dEq_str (by decide +kernel) (by decide +kernel) false (by decide +kernel) ⟨_, rfl, ite_f rfl ?_⟩
    refine dEq_str (by decide +kernel) (by decide +kernel) false (by decide +kernel) ⟨_, rfl, ite_f rfl ?_⟩
    refine dEq_str (by decide +kernel) (by decide +kernel) false (by decide +kernel) ⟨_, rfl, ite_f rfl ?_⟩
    refine dEq_str (by decide +kernel) (by decide +kernel) false (by decide +kernel) ⟨_, rfl, ite_f rfl ?_⟩
    refine dEq_str (by decide +kernel) (by decide +kernel) false (by decide +kernel) ⟨_, rfl, ite_f rfl ?_⟩
    refine dEq_str (by decide +kernel) (by decide +kernel) false (by decide +kernel) ⟨_, rfl, ite_f rfl ?_⟩
    refine dEq_str (by decide +kernel) (by decide +kernel) false (by decide +kernel) ⟨_, rfl, ite_f rfl ?_⟩
    refine dEq_str (by decide +kernel) (by decide +kernel) true (by decide +kernel) ⟨_, rfl, ite_t rfl ?_⟩
    refine ⟨z1, (by simp), (by decide), (by omega), (by omega), z1, z2, z1, ?_⟩
    rw [rep_flat]
    exact hq
  · -- S
    refine dEq_str (by decide +kernel) (by decide +kernel) false (by decide +kernel) ⟨_, rfl, ite_f rfl ?_⟩
    refine dEq_str (by decide +kernel) (by decide +kernel) false (by decide +kernel) ⟨_, rfl, ite_f rfl ?_⟩
    refine dEq_str (by decide +kernel) (by decide +kernel) false (by decide +kernel) ⟨_, rfl, ite_f rfl ?_⟩
    refine dEq_str (by decide +kernel) (by decide +kernel) false (by decide +kernel) ⟨_, rfl, ite_f rfl ?_⟩
    refine dEq_str (by decide +kernel) (by decide +kernel) false (by decide +kernel) ⟨_, rfl, ite_f rfl ?_⟩
    refine dEq_str (by decide +kernel) (by decide +kernel) false (by decide +kernel) ⟨_, rfl, ite_f rfl ?_⟩
    refine dEq_str (by decide +kernel) (by decide +kernel) false (by decide +kernel) ⟨_, rfl, ite_f rfl ?_⟩
    refine dEq_str (by decide +kernel) (by decide +kernel) false (by decide +kernel) ⟨_, rfl, ite_f rfl ?_⟩
    refine dEq_str (by decide +kernel) (by decide +kernel) false (by decide +kernel) ⟨_, rfl, ite_f rfl ?_⟩
    refine dEq_str (by decide +kernel) (by decide +kernel) false (by decide +kernel) ⟨_, rfl, ite_f rfl ?_⟩
    refine dEq_str (by decide +kernel) (by decide +kernel) false (by decide +kernel) ⟨_, rfl, ite_f rfl ?_⟩
    refine dEq_str (by decide +kernel) (by decide +kernel) true (by decide +kernel) ⟨_, rfl, ite_t rfl ?_⟩
    refine ⟨(by show (0 : Int) < 3; decide), z3, 97 + (s % 3).toNat, ?_, z2, z3, z1, hq⟩
    have : s % 3 = 0 ∨ s % 3 = 1 ∨ s % 3 = 2 := by omega
    rcases this with e | e | e <;> rw [e] <;> decide +kernel
  · -- M
    refine dEq_str (by decide +kernel) (by decide +kernel) false (by decide +kernel) ⟨_, rfl, ite_f rfl ?_⟩
    refine dEq_str (by decide +kernel) (by decide +kernel) false (by decide +kernel) ⟨_, rfl, ite_f rfl ?_⟩
    refine dEq_str (by decide +kernel) (by decide +kernel) false (by decide +kernel) ⟨_, rfl, ite_f rfl ?_⟩
    refine dEq_str (by decide +kernel) (by decide +kernel) false (by decide +kernel) ⟨_, rfl, ite_f rfl ?_⟩
    refine dEq_str (by decide +kernel) (by decide +kernel) false (by decide +kernel) ⟨_, rfl, ite_f rfl ?_⟩
    refine dEq_str (by decide +kernel) (by decide +kernel) false (by decide +kernel) ⟨_, rfl, ite_f rfl ?_⟩
    refine dEq_str (by decide +kernel) (by decide +kernel) false (by decide +kernel) ⟨_, rfl, ite_f rfl ?_⟩
    refine dEq_str (by decide +kernel) (by decide +kernel) false (by decide +kernel) ⟨_, rfl, ite_f rfl ?_⟩
    refine dEq_str (by decide +kernel) (by decide +kernel) false (by decide +kernel) ⟨_, rfl, ite_f rfl ?_⟩
    refine dEq_str (by decide +kernel) (by decide +kernel) false (by decide +kernel) ⟨_, rfl, ite_f rfl ?_⟩
    refine dEq_str (by decide +kernel) (by decide +kernel) false (by decide +kernel) ⟨_, rfl, ite_f rfl ?_⟩
    refine dEq_str (by decide +kernel) (by decide +kernel) false (by decide +kernel) ⟨_, rfl, ite_f rfl ?_⟩
    refine ⟨(by show (0 : Int) < 8; decide), ⟨by omega, by omega, by decide, by decide⟩, ?_, z1, hq⟩
    rw [repS_len, sizeLine_eq]
    show 1 + (1 + s % 8).toNat * 1 ≤ _
    omega
end
end My
set_option maxHeartbeats 4000000
namespace My
open PySem PySem.Spec PyProof.Rows L2 Lcn Sq Dl
def Kd.rk : Kd → Nat
  | .T => 0
  | .N => 0
  | .D => 0
  | .B => 1
  | .W => 0
  | .L => 0
  | .G => 1
  | .F => 2
  | .E => 2
  | .P => 3
  | .R => 0
  | .S => 0
  | .M => 0
def nm99 : List Str := ["Clash", "Shape", "Answer", "Carries", "Look", "Trail", "Case", "Run", "Way", "Never", "Trial", "Canon", "Settled", "Guess", "Pressed", "Stages", "Entry", "Root", "Found", "Shut", "Book", "Grammar", "Filling", "Paper"]
def Kc99 (cs : Str → Addr) (C D : Addr) : Prop := ∃ x y, x ∈ nm99 ∧ y ∈ nm99 ∧ x ≠ y ∧ C = cs x ∧ D = cs y
def tbn : Nat → Tb
  | 0 => tb0
  | 1 => tb1
  | 2 => tb2
  | _ => tb3
section
variable (Kc : Addr → Addr → Prop) (cs : Str → Addr)
def Pn : Nat → QP
  | 0 => P0
  | 1 => P1 Kc cs
  | 2 => P2 Kc cs
  | 3 => P3 Kc cs
  | _ => P4 Kc cs
theorem Pn_step : ∀ i, i < 4 → Pn Kc cs (i + 1) = PA Kc (tbn i) cs (Pn Kc cs i) 4
  | 0, _ => by unfold Pn P1; rfl
  | 1, _ => by unfold Pn P2; rfl
  | 2, _ => by unfold Pn P3; rfl
  | 3, _ => by unfold Pn P4; rfl
theorem Pn_up : ∀ (i j : Nat), i ≤ j → j ≤ 4 → ∀ C D fs gs b, Pn Kc cs i C D fs gs b → Pn Kc cs j C D fs gs b := by
  intro i j
  induction j with
  | zero =>
    intro h _ C D fs gs b p
    have : i = 0 := by omega
    subst this
    exact p
  | succ j ih =>
    intro h hj C D fs gs b p
    by_cases e : i = j + 1
    · subst e
      exact p
    · rw [Pn_step Kc cs j (by omega)]
      exact .inl (ih (by omega) (by omega) C D fs gs b p)
end
section
variable {Kc : Addr → Addr → Prop} {cs : Str → Addr} {m : Nat}
theorem tl_insn {i : Nat} (hi : i < 4) {x : Str} {ns : List Str} (hx : (x, ns) ∈ tbn i) (nd : ns.Nodup) {ds es : List Dt} (l1 : ds.length = ns.length) (l2 : es.length = ns.length) (h : ∀ (j : Nat) (d e : Dt), ds[j]? = some d → es[j]? = some e → TlP (Pn Kc cs i) 4 d e) : TlP (Pn Kc cs (i + 1)) m (.ins (cs x) (ns.zip ds)) (.ins (cs x) (ns.zip es)) := by
  rw [Pn_step Kc cs i hi]
  exact tl_ins hx nd l1 l2 h
theorem pt2 {P : Nat → Dt → Dt → Prop} {a b a' b' : Dt} (h0 : P 0 a a') (h1 : P 1 b b') : ∀ (j : Nat) (d e : Dt), [a, b][j]? = some d → [a', b'][j]? = some e → P j d e := fun j d e h k => by
  match j with
  | 0 => cases h; cases k; exact h0
  | 1 => cases h; cases k; exact h1
  | j + 2 => cases h
theorem pt3 {P : Nat → Dt → Dt → Prop} {a b c a' b' c' : Dt} (h0 : P 0 a a') (h1 : P 1 b b') (h2 : P 2 c c') : ∀ (j : Nat) (d e : Dt), [a, b, c][j]? = some d → [a', b', c'][j]? = some e → P j d e := fun j d e h k => by
  match j with
  | 0 => cases h; cases k; exact h0
  | 1 => cases h; cases k; exact h1
  | 2 => cases h; cases k; exact h2
  | j + 3 => cases h
theorem pt4 {P : Nat → Dt → Dt → Prop} {a b c d' a' b' c' d'' : Dt} (h0 : P 0 a a') (h1 : P 1 b b') (h2 : P 2 c c') (h3 : P 3 d' d'') : ∀ (j : Nat) (d e : Dt), [a, b, c, d'][j]? = some d → [a', b', c', d''][j]? = some e → P j d e := fun j d e h k => by
  match j with
  | 0 => cases h; cases k; exact h0
  | 1 => cases h; cases k; exact h1
  | 2 => cases h; cases k; exact h2
  | 3 => cases h; cases k; exact h3
  | j + 4 => cases h
theorem tl_nil {P : QP} {n : Nat} : TlP P (n + 1) (.tup []) (.tup []) := tl_tup fun i x y h => by cases i <;> cases h
theorem tl_book (s t : Int) : TlP (Pn Kc cs 1) m (bookD (cs "Book") (bkB s)) (bookD (cs "Book") (bkB t)) :=
  tl_insn (i := 0) (by decide) (x := "Book") (ns := ["rows", "deeds", "ends", "states"]) (by decide +kernel) (by decide +kernel) (ds := [.tup ((bkB s).rows.map rowT), .tup ((bkB s).deeds.map iT), .tup ((bkB s).ends.map endT), .int (bkB s).states]) (es := [.tup ((bkB t).rows.map rowT), .tup ((bkB t).deeds.map iT), .tup ((bkB t).ends.map endT), .int (bkB t).states]) rfl rfl
    (pt4 (P := fun _ d e => TlP (Pn Kc cs 0) 4 d e) (tl_map (n := 3) _ _ fun a b => tl_two (n := 2) (tl_map (n := 1) _ _ fun x y => tl_int x y) (tl_map (n := 1) _ _ fun x y => tl_int x y)) (tl_map (n := 3) _ _ fun a b => tl_map (n := 2) _ _ fun x y => tl_int x y) (tl_map (n := 3) _ _ fun a b => tl_two (n := 2) (tl_int _ _) (tl_map (n := 1) _ _ fun x y => tl_int x y)) (tl_int _ _))
theorem tl_gram {z y : Str} (hz : PyData.strOk z = true) (hy : PyData.strOk y = true) : TlP (Pn Kc cs 1) m (gramD (cs "Grammar") z) (gramD (cs "Grammar") y) := by
  obtain ⟨b, g, e⟩ := (tl_one (n := 3) (tl_two (n := 2) (tl_str (P := Pn Kc cs 0) (s := "text") (t := "text") (by decide +kernel) (by decide +kernel)) (tl_str hz hy)) : TlP (Pn Kc cs 0) 4 (.tup [ruleT z]) (.tup [ruleT y]))
  rw [Pn_step Kc cs 0 (by decide)]
  refine ⟨([("rules" : Str)].all fun _ => b), .ins (.inr ⟨"Grammar", ["rules"], (by decide +kernel), rfl, .inr ⟨rfl, fun _ => b, fun x hx => ?_, rfl⟩⟩), ?_⟩
  · have : x = "rules" := by simpa using hx
    subst this
    exact ⟨.tup [ruleT z], .tup [ruleT y], rfl, rfl, g⟩
  · have : ([("rules" : Str)].all fun _ => b) = b := by simp
    rw [this, e]
    constructor
    · intro h
      have : z = y := by
        injection h with h
        injection h with h
        injection h with h
        injection h with _ h
        injection h with h
        injection h
      subst this
      rfl
    · intro h
      injection h with _ h
      have := congrArg (fun l : List (Str × Dt) => l.lookup ("rules" : Str)) h
      exact Option.some.inj this
theorem tl_fill {z y : Str} (hz : PyData.strOk z = true) (hy : PyData.strOk y = true) : TlP (Pn Kc cs 2) m (fillD (cs "Grammar") (cs "Filling") z) (fillD (cs "Grammar") (cs "Filling") y) :=
  tl_insn (i := 1) (by decide) (x := "Filling") (ns := ["grammar", "words"]) (by decide +kernel) (by decide +kernel) (ds := [gramD (cs "Grammar") z, .tup [wdD]]) (es := [gramD (cs "Grammar") y, .tup [wdD]]) rfl rfl
    (pt2 (P := fun _ d e => TlP (Pn Kc cs 1) 4 d e) (tl_gram hz hy) (tl_one (n := 3) (tl_two (n := 2) (tl_str ok_name ok_name) (tl_one (n := 1) (tl_int 0 0)))))
theorem tl_ent (s t : Int) : TlP (Pn Kc cs 2) (m + 1) (entB cs s) (entB cs t) := tl_one (tl_insn (i := 1) (by decide) (x := "Entry") (ns := ["book", "step", "lots"]) (by decide +kernel) (by decide +kernel) (ds := [bookD (cs "Book") (bkB s), .tup [.str "first", .int 0], .tup []]) (es := [bookD (cs "Book") (bkB t), .tup [.str "first", .int 0], .tup []]) rfl rfl
    (pt3 (P := fun _ d e => TlP (Pn Kc cs 1) 4 d e) (tl_book s t) (tl_two (n := 3) (tl_str (by decide +kernel) (by decide +kernel)) (tl_int 0 0)) (tl_nil (n := 3))))
theorem okW (s : Int) : PyData.strOk (wordS (s % 4)) = true := by
  have : s % 4 = 0 ∨ s % 4 = 1 ∨ s % 4 = 2 ∨ s % 4 = 3 := by omega
  rcases this with e | e | e | e <;> rw [e] <;> decide +kernel
theorem okA (n : Nat) : PyData.strOk (repS "a" n) = true := ok_rep (by decide +kernel) n
theorem ok_cat {a b : Str} (ha : PyData.strOk a = true) (hb : PyData.strOk b = true) : PyData.strOk (a ++ b) = true := by
  unfold PyData.strOk at *
  show (a.cps ++ b.cps).all _ = true
  rw [Array.all_append, ha, hb]
  rfl
theorem ok3 (s : Int) : PyData.strOk ⟨#[97 + (s % 3).toNat]⟩ = true := by
  have : s % 3 = 0 ∨ s % 3 = 1 ∨ s % 3 = 2 := by omega
  rcases this with e | e | e <;> rw [e] <;> decide +kernel
theorem tl_part (k : Kd) (s t : Int) : TlP (Pn Kc cs k.rk) 4 (partD cs k s) (partD cs k t) := by
  cases k with
  | T => exact tl_map (n := 3) _ _ fun a b => tl_int _ _
  | N => exact tl_int s t
  | D => exact tl_one (n := 3) (tl_rep (n := 2) (tl_int 0 0))
  | B => exact tl_book s t
  | W => exact tl_str (okW s) (okW t)
  | L => exact tl_bl _ _
  | G => exact tl_gram (okA _) (okA _)
  | F => exact tl_fill (okA _) (okA _)
  | E => exact tl_ent (m := 3) s t
  | P => exact tl_insn (i := 2) (by decide) (x := "Paper") (ns := ["deeds", "entries"]) (by decide +kernel) (by decide +kernel) (ds := [.tup [.tup [.int 0]], entB cs s]) (es := [.tup [.tup [.int 0]], entB cs t]) rfl rfl (pt2 (P := fun _ d e => TlP (Pn Kc cs 2) 4 d e) (tl_one (n := 3) (tl_one (n := 2) (tl_int 0 0))) (tl_ent (m := 3) s t))
  | R => exact tl_one (n := 3) (tl_two (n := 2) (tl_rep (n := 1) (tl_str (by decide +kernel) (by decide +kernel))) (tl_one (n := 1) (tl_str ok_name ok_name)))
  | S => exact tl_one (n := 3) (tl_three (n := 2) (tl_str ok_name ok_name) (tl_two (n := 1) (tl_str (by decide +kernel) (by decide +kernel)) (tl_str (ok3 s) (ok3 t))) (tl_bl _ _))
  | M => exact tl_one (n := 3) (tl_str (ok_cat (by decide +kernel) (ok_rep (by decide +kernel) _)) (ok_cat (by decide +kernel) (ok_rep (by decide +kernel) _)))
/-- things of these kinds -/
def PartsOk (cs : Str → Addr) (ks : List Kd) (ds : List Dt) : Prop := ds.length = ks.length ∧ ∀ (i : Nat) (k : Kd) (d : Dt), ks[i]? = some k → ds[i]? = some d → ∃ s, d = partD cs k s
/-- what is known of a row -/
structure RowW (r : WR) (i : Nat) : Prop where
  lt : i < 4
  mem : (r.1, r.2.1) ∈ tbn i
  nd : r.2.1.Nodup
  rk : (r.2.2.all fun k => decide (k.rk ≤ i)) = true
  len : r.2.2.length = r.2.1.length
  l7 : r.2.1.length ≤ 7
  nm : r.1 ∈ nm99
theorem W_ok {w : Nat} {r : WR} (hW : W[w]? = some r) : ∃ i, RowW r i := by
  have hw := W_lt hW
  have hw : w = 0 ∨ w = 1 ∨ w = 2 ∨ w = 3 ∨ w = 4 ∨ w = 5 ∨ w = 6 ∨ w = 7 ∨ w = 8 ∨ w = 9 ∨ w = 10 ∨ w = 11 ∨ w = 12 ∨ w = 13 ∨ w = 14 ∨ w = 15 ∨ w = 16 ∨ w = 17 ∨ w = 18 ∨ w = 19 ∨ w = 20 := by omega
  rcases hw with rfl | rfl | rfl | rfl | rfl | rfl | rfl | rfl | rfl | rfl | rfl | rfl | rfl | rfl | rfl | rfl | rfl | rfl | rfl | rfl | rfl
  · cases hW
    exact ⟨0, ⟨by decide, by decide +kernel, by decide +kernel, by decide +kernel, rfl, by decide, by decide +kernel⟩⟩
  · cases hW
    exact ⟨1, ⟨by decide, by decide +kernel, by decide +kernel, by decide +kernel, rfl, by decide, by decide +kernel⟩⟩
  · cases hW
    exact ⟨1, ⟨by decide, by decide +kernel, by decide +kernel, by decide +kernel, rfl, by decide, by decide +kernel⟩⟩
  · cases hW
    exact ⟨1, ⟨by decide, by decide +kernel, by decide +kernel, by decide +kernel, rfl, by decide, by decide +kernel⟩⟩
  · cases hW
    exact ⟨0, ⟨by decide, by decide +kernel, by decide +kernel, by decide +kernel, rfl, by decide, by decide +kernel⟩⟩
  · cases hW
    exact ⟨0, ⟨by decide, by decide +kernel, by decide +kernel, by decide +kernel, rfl, by decide, by decide +kernel⟩⟩
  · cases hW
    exact ⟨0, ⟨by decide, by decide +kernel, by decide +kernel, by decide +kernel, rfl, by decide, by decide +kernel⟩⟩
  · cases hW
    exact ⟨0, ⟨by decide, by decide +kernel, by decide +kernel, by decide +kernel, rfl, by decide, by decide +kernel⟩⟩
  · cases hW
    exact ⟨0, ⟨by decide, by decide +kernel, by decide +kernel, by decide +kernel, rfl, by decide, by decide +kernel⟩⟩
  · cases hW
    exact ⟨1, ⟨by decide, by decide +kernel, by decide +kernel, by decide +kernel, rfl, by decide, by decide +kernel⟩⟩
  · cases hW
    exact ⟨1, ⟨by decide, by decide +kernel, by decide +kernel, by decide +kernel, rfl, by decide, by decide +kernel⟩⟩
  · cases hW
    exact ⟨1, ⟨by decide, by decide +kernel, by decide +kernel, by decide +kernel, rfl, by decide, by decide +kernel⟩⟩
  · cases hW
    exact ⟨2, ⟨by decide, by decide +kernel, by decide +kernel, by decide +kernel, rfl, by decide, by decide +kernel⟩⟩
  · cases hW
    exact ⟨3, ⟨by decide, by decide +kernel, by decide +kernel, by decide +kernel, rfl, by decide, by decide +kernel⟩⟩
  · cases hW
    exact ⟨0, ⟨by decide, by decide +kernel, by decide +kernel, by decide +kernel, rfl, by decide, by decide +kernel⟩⟩
  · cases hW
    exact ⟨1, ⟨by decide, by decide +kernel, by decide +kernel, by decide +kernel, rfl, by decide, by decide +kernel⟩⟩
  · cases hW
    exact ⟨0, ⟨by decide, by decide +kernel, by decide +kernel, by decide +kernel, rfl, by decide, by decide +kernel⟩⟩
  · cases hW
    exact ⟨0, ⟨by decide, by decide +kernel, by decide +kernel, by decide +kernel, rfl, by decide, by decide +kernel⟩⟩
  · cases hW
    exact ⟨2, ⟨by decide, by decide +kernel, by decide +kernel, by decide +kernel, rfl, by decide, by decide +kernel⟩⟩
  · cases hW
    exact ⟨0, ⟨by decide, by decide +kernel, by decide +kernel, by decide +kernel, rfl, by decide, by decide +kernel⟩⟩
  · cases hW
    exact ⟨0, ⟨by decide, by decide +kernel, by decide +kernel, by decide +kernel, rfl, by decide, by decide +kernel⟩⟩
theorem W_inj {w v : Nat} {r t : WR} (hW : W[w]? = some r) (hV : W[v]? = some t) (h : w ≠ v) : r.1 ≠ t.1 := by
  have nd : (W.map (·.1)).Nodup := by decide +kernel
  intro e
  have h1 : (W.map (·.1))[w]? = some r.1 := by rw [List.getElem?_map, hW]; rfl
  have h2 : (W.map (·.1))[v]? = some t.1 := by rw [List.getElem?_map, hV]; rfl
  have l1 := (List.getElem?_eq_some_iff.mp h1)
  have l2 := (List.getElem?_eq_some_iff.mp h2)
  obtain ⟨a1, a2⟩ := l1
  obtain ⟨b1, b2⟩ := l2
  have c1 := nd.idxOf_getElem w a1
  have c2 := nd.idxOf_getElem v b1
  rw [a2] at c1
  rw [b2, ← e] at c2
  exact h (c1.symm.trans c2)
theorem tl_made {w : Nat} {r : WR} (hW : W[w]? = some r) {ds es : List Dt} (h1 : PartsOk cs r.2.2 ds) (h2 : PartsOk cs r.2.2 es) : TlP (P4 Kc cs) 6 (.ins (cs r.1) (r.2.1.zip ds)) (.ins (cs r.1) (r.2.1.zip es)) := by
  obtain ⟨i, q⟩ := W_ok hW
  have t : TlP (Pn Kc cs (i + 1)) 6 (.ins (cs r.1) (r.2.1.zip ds)) (.ins (cs r.1) (r.2.1.zip es)) := by
    refine tl_insn q.lt q.mem q.nd (h1.1.trans q.len) (h2.1.trans q.len) fun j d e hd he => ?_
    have hj : j < r.2.2.length := by
      rw [← h1.1]
      exact (List.getElem?_eq_some_iff.mp hd).1
    have hk : r.2.2[j]? = some r.2.2[j] := List.getElem?_eq_getElem hj
    obtain ⟨s, rfl⟩ := h1.2 j _ d hk hd
    obtain ⟨u, rfl⟩ := h2.2 j _ e hk he
    have rk := List.all_eq_true.mp q.rk _ (List.getElem_mem hj)
    exact (tl_part _ s u).mono (Pn_up Kc cs _ _ (of_decide_eq_true rk) (by have := q.lt; omega)) (Nat.le_refl _)
  exact t.mono (Pn_up Kc cs _ 4 (by have := q.lt; omega) (Nat.le_refl _)) (Nat.le_refl _)
theorem tl_parts {ks : List Kd} {ds es : List Dt} (h1 : PartsOk cs ks ds) (h2 : PartsOk cs ks es) : TlP (P4 Kc cs) 6 (.lst ds) (.lst es) := by
  refine (tl_lst (n := 4) (P := P4 Kc cs) fun j d e hd he => ?_).mono (fun _ _ _ _ _ h => h) (by decide)
  have hj : j < ks.length := by
    rw [← h1.1]
    exact (List.getElem?_eq_some_iff.mp hd).1
  have hk : ks[j]? = some ks[j] := List.getElem?_eq_getElem hj
  obtain ⟨s, rfl⟩ := h1.2 j _ d hk hd
  obtain ⟨u, rfl⟩ := h2.2 j _ e hk he
  have rk : ∀ k : Kd, k.rk ≤ 4 := fun k => by cases k <;> decide
  exact (tl_part _ s u).mono (Pn_up Kc cs _ 4 (rk _) (Nat.le_refl _)) (Nat.le_refl _)
theorem gq_two {w v : Nat} {r t : WR} (hW : W[w]? = some r) (hV : W[v]? = some t) (h : w ≠ v) {fs gs : List (Str × Dt)} : GQ (P4 (Kc99 cs) cs) 6 (.ins (cs r.1) fs) (.ins (cs t.1) gs) false := by
  obtain ⟨i, q⟩ := W_ok hW
  obtain ⟨j, q2⟩ := W_ok hV
  have a : GQ (Pn (Kc99 cs) cs (i + 1)) 6 (.ins (cs r.1) fs) (.ins (cs t.1) gs) false := by
    rw [Pn_step _ cs i q.lt]
    exact gq_far q.mem ⟨_, _, q.nm, q2.nm, W_inj hW hV h, rfl, rfl⟩
  exact gq_mono (Pn_up _ cs _ 4 (by have := q.lt; omega) (Nat.le_refl _)) a (Nat.le_refl _)
end
end My
set_option maxHeartbeats 4000000
namespace My
open PySem PySem.Spec PyProof.Rows L2 Lcn Sq Dl
def kstr (ks : List Kd) : Str := ⟨(ks.map Kd.cp).toArray⟩
def sp_right {K : PySem.W.Frag} {mg : Str → Option Value} (A : AllC K mg) : Spc := fun δ Q => ∃ (w : Nat) (r : WR) (ss os : List Int), W[w]? = some r ∧ δ = [.val (.int (w : Int)), .val (.str (kstr r.2.2)), .val (iL ss), .val (iL os)] ∧ ss.length = 7 ∧ os.length = 7 ∧ (∀ s, s ∈ ss → 1 ≤ s ∧ s ≤ 12) ∧ (∀ s, s ∈ os → 1 ≤ s ∧ s ≤ 12) ∧ Q (.bl true)
theorem kstr_len (ks : List Kd) : (kstr ks).length = ks.length := by simp [kstr, Str.length]
theorem kstr_at {ks : List Kd} {i : Nat} {k : Kd} (h : ks[i]? = some k) : atI (kstr ks).cps.toList (i : Int) = some k.cp := atI_nat (by simp [kstr, h])
theorem tup_D {A : Str → Addr} {ds : List Dt} (h : PartsOk A [.D, .E] ds) : ∀ d, d ∈ ds → ∃ xs, d = .tup xs := fun d m => by
  obtain ⟨i, hi⟩ := List.mem_iff_getElem?.mp m
  have l := h.1
  have hl : i < 2 := by
    have := (List.getElem?_eq_some_iff.mp hi).1
    rw [l] at this
    exact this
  match i, hl with
  | 0, _ =>
    obtain ⟨s, e⟩ := h.2 0 .D d rfl hi
    exact ⟨_, e⟩
  | 1, _ =>
    obtain ⟨s, e⟩ := h.2 1 .E d rfl hi
    exact ⟨_, e⟩
theorem parts_set {cs : Str → Addr} {ks : List Kd} {ds : List Dt} (h : PartsOk cs ks ds) {i : Nat} {k : Kd} (hk : ks[i]? = some k) (s : Int) : PartsOk cs ks (ds.set i (partD cs k s)) := by
  refine ⟨by rw [List.length_set]; exact h.1, fun j k' d hk' hd => ?_⟩
  by_cases e : i = j
  · subst e
    rw [hk] at hk'
    cases hk'
    have hi : i < ds.length := by
      rw [h.1]
      exact (List.getElem?_eq_some_iff.mp hk).1
    rw [List.getElem?_set_self hi] at hd
    cases hd
    exact ⟨s, rfl⟩
  · rw [List.getElem?_set_ne e] at hd
    exact h.2 j k' d hk' hd
theorem made_inj {C : Addr} {ns : List Str} {ds es : List Dt} (l1 : ds.length = ns.length) (l2 : es.length = ns.length) (h : Dt.ins C (ns.zip ds) = .ins C (ns.zip es)) : ds = es := by
  injection h with _ z
  have := congrArg (List.map Prod.snd) z
  rwa [List.map_snd_zip (by omega), List.map_snd_zip (by omega)] at this
theorem ixN_nat {n i : Nat} (h : i < n) : ixN n (i : Int) = some i := by
  have : atI (List.range n) (i : Int) = some i := atI_nat (by simp [h])
  unfold atI at this
  rw [List.length_range] at this
  cases e : ixN n (i : Int) with
  | none => rw [e] at this; cases this
  | some j =>
    rw [e] at this
    have h2 : (List.range n)[j]? = some i := this
    have := (List.getElem?_eq_some_iff.mp h2).2
    simp at this
    rw [this]
theorem sc__law_result_right : FnScope ["_law_which", "_law_kinds", "_law_sizes", "_law_others", "_law_parts", "_law_made_here", "_law_twin", "_law_k", "_law_less", "_law_changed"] ["_law_which", "_law_kinds", "_law_sizes", "_law_others"] (defScope s__law_result_right) := ⟨rfl, rfl, rfl, by decide +kernel, rfl, by decide +kernel, by decide +kernel⟩
section
variable {P : Program} {w : World} {K : PySem.W.Frag} {mg : Str → Option Value} {base : Heap}
theorem ok__law_result_right (A : AllC K mg) (D__law_result_right : Dn K mg "_law_result_right" s__law_result_right ["_law_which", "_law_kinds", "_law_sizes", "_law_others"]) (D__law_part : Dn K mg "_law_part" s__law_part ["_law_kind", "_law_size"]) (G__law_part : FnOk P w K mg base CX0 8 D__law_part.f D__law_part.fd ["_law_kind", "_law_size"] (dsp K 2 (sp_part A))) (D__law_made : Dn K mg "_law_made" s__law_made ["_law_which", "_law_parts"]) (G__law_made : FnOk P w K mg base CX0 4 D__law_made.f D__law_made.fd ["_law_which", "_law_parts"] (dsp K 2 (sp_made A))) (D__law_told : Dn K mg "_law_told" s__law_told ["_law_which", "_law_one"]) (G__law_told : FnOk P w K mg base CX0 2 D__law_told.f D__law_told.fd ["_law_which", "_law_one"] (dsp K 2 (sp_told A))) (T : TB mg) (EQ : ClEqB P w K mg base 24 (P4 (Kc99 (csA A)) (csA A))) : FnOk P w K mg base CX0 31 D__law_result_right.f D__law_result_right.fd ["_law_which", "_law_kinds", "_law_sizes", "_law_others"] (dsp K 4 (sp_right A)) := by
  refine fn_d (k := 30) (N := ["_law_which", "_law_kinds", "_law_sizes", "_law_others", "_law_parts", "_law_made_here", "_law_twin", "_law_k", "_law_less", "_law_changed"]) D__law_result_right.F sc__law_result_right (fun cdv Ar outer s H E hr => (dss_cons (ds_ofV (ds_lcN (o := true) (i := 4) (own := [(("_law_k" : Str), 7)]) (fun _ => rfl) (fun _ => sc__law_result_right.nd) (fun _ => rfl) (fun _ => rfl) (fun _ => sw_true rfl rfl rfl (by decide +kernel)) (di_range1 (fun _ => by rfl) (fun _ => T.range) (da_cons (de_callB (fun _ => cr_len rfl) rc_len (fun _ => by rfl) (fun _ => T.len) PySem.boot_len (da_cons (de_var (fun _ => pv 1)) da_nil)) da_nil)) (fun _ => (blkOk_by (own := [(("_law_k" : Str), 7)]) (N := ["_law_which", "_law_kinds", "_law_sizes", "_law_others", "_law_parts", "_law_made_here", "_law_twin", "_law_k", "_law_less", "_law_changed"]) (sc := defScope s__law_result_right) (by decide +kernel))) (dg_name (i := 7) (fun _ => pg_name sc__law_result_right.nd rfl (by first | exact Or.inl rfl | exact Or.inr rfl))) dts_nil (de_call (fun _ pa => pe_call G__law_part (hr.mono (by decide)) (by rfl) D__law_part.m D__law_part.F.kp D__law_part.b .nil pass0 pa) (dl_val (de_ixA (de_var (fun _ => pv 1)) (de_var (fun _ => pv 7)) (fun _ _ => rfl)) (dl_val (de_ixA (de_var (fun _ => pv 2)) (de_var (fun _ => pv 7)) (fun _ _ => rfl)) dl_nil))) (by decide) rfl))
  (dss_cons (ds_set (fun _ p => ps_set (i := 5) sc__law_result_right.nd rfl (by first | exact Or.inl rfl | exact Or.inr rfl) p) (de_call (fun _ pa => pe_call G__law_made (hr.mono (by decide)) (by rfl) D__law_made.m D__law_made.F.kp D__law_made.b .nil pass0 pa) (dl_val (de_var (fun _ => pv 0)) (dl_val (de_var (fun _ => pv 4)) dl_nil))))
  (dss_cons (ds_if (dt_cmpC (cd_neH (n := 6) (fun _ => EQ) (fun _ => hr.mono (by decide))) (de_call (fun _ pa => pe_call G__law_told (hr.mono (by decide)) (by rfl) D__law_told.m D__law_told.F.kp D__law_told.b .nil pass0 pa) (dl_val (de_var (fun _ => pv 0)) (dl_val (de_var (fun _ => pv 5)) dl_nil))) (de_var (fun _ => pv 4)) (nomark _)) (dss_one (ds_ret de_bl)) dss_nil)
  (dss_cons (ds_set (fun _ p => ps_set (i := 6) sc__law_result_right.nd rfl (by first | exact Or.inl rfl | exact Or.inr rfl) p) (de_call (fun _ pa => pe_call G__law_made (hr.mono (by decide)) (by rfl) D__law_made.m D__law_made.F.kp D__law_made.b .nil pass0 pa) (dl_val (de_var (fun _ => pv 0)) (dl_val (de_callTy (fun _ => cr_list rfl) rc_list (fun _ => by rfl) (fun _ => T.list_) (by decide +kernel) (da_cons (de_var (fun _ => pv 4)) da_nil)) dl_nil))))
  (dss_cons (ds_if (dt_w (dw_or (dt_not (dt_cmpC (cd_eqH (n := 6) (fun _ => EQ) (fun _ => hr.mono (by decide))) (de_var (fun _ => pv 5)) (de_var (fun _ => pv 6)) (nomark _))) (dw_or1 (dt_not (dt_cmpC (cd_eqH (n := 6) (fun _ => EQ) (fun _ => hr.mono (by decide))) (de_var (fun _ => pv 6)) (de_var (fun _ => pv 5)) (nomark _)))))) (dss_one (ds_ret de_bl)) dss_nil)
  (dss_cons (ds_for (fun _ => rfl) (di_range1 (fun _ => by rfl) (fun _ => T.range) (da_cons (de_callB (fun _ => cr_len rfl) rc_len (fun _ => by rfl) (fun _ => T.len) PySem.boot_len (da_cons (de_var (fun _ => pv 1)) da_nil)) da_nil)) (dg_name (i := 7) (fun _ => pg_name sc__law_result_right.nd rfl (by first | exact Or.inl rfl | exact Or.inr rfl))) (dss_cons (ds_own (fun _ p => ps_set (i := 8) sc__law_result_right.nd rfl (by first | exact Or.inl rfl | exact Or.inr rfl) p) (dn_list (x := "list") (de_var (fun _ => pv 4)) (fun _ => by rfl) (fun _ => T.list_)))
  (dss_cons (ds_put (fun _ p q => ps_asg p (pg_sub (pv 8) q set_list)) (de_call (fun _ pa => pe_call G__law_part (hr.mono (by decide)) (by rfl) D__law_part.m D__law_part.F.kp D__law_part.b .nil pass0 pa) (dl_val (de_ixA (de_var (fun _ => pv 1)) (de_var (fun _ => pv 7)) (fun _ _ => rfl)) (dl_val (de_ixA (de_var (fun _ => pv 3)) (de_var (fun _ => pv 7)) (fun _ _ => rfl)) dl_nil))) (de_var (fun _ => pv 7)))
  (dss_cons (ds_if (dt_cmpC (cd_eqH (n := 6) (fun _ => EQ) (fun _ => hr.mono (by decide))) (de_ixA (de_varO (fun _ => pv 8)) (de_var (fun _ => pv 7)) (fun _ _ => rfl)) (de_ixA (de_var (fun _ => pv 4)) (de_var (fun _ => pv 7)) (fun _ _ => rfl)) (nomark _)) (dss_one ds_continue) dss_nil)
  (dss_frz 8 (dss_cons (ds_set (fun _ p => ps_set (i := 9) sc__law_result_right.nd rfl (by first | exact Or.inl rfl | exact Or.inr rfl) p) (de_call (fun _ pa => pe_call G__law_made (hr.mono (by decide)) (by rfl) D__law_made.m D__law_made.F.kp D__law_made.b .nil pass0 pa) (dl_val (de_var (fun _ => pv 0)) (dl_val (de_var (fun _ => pv 8)) dl_nil))))
  (dss_one (ds_if (dt_w (dw_or (dt_cmpC (cd_eqH (n := 6) (fun _ => EQ) (fun _ => hr.mono (by decide))) (de_var (fun _ => pv 5)) (de_var (fun _ => pv 9)) (nomark _)) (dw_or (dt_cmpC (cd_eqH (n := 6) (fun _ => EQ) (fun _ => hr.mono (by decide))) (de_var (fun _ => pv 9)) (de_var (fun _ => pv 5)) (nomark _)) (dw_or1 (dt_cmpC (cd_neH (n := 6) (fun _ => EQ) (fun _ => hr.mono (by decide))) (de_call (fun _ pa => pe_call G__law_told (hr.mono (by decide)) (by rfl) D__law_told.m D__law_told.F.kp D__law_told.b .nil pass0 pa) (dl_val (de_var (fun _ => pv 0)) (dl_val (de_var (fun _ => pv 9)) dl_nil))) (de_varO (fun _ => pv 8)) (nomark _)))))) (dss_one (ds_ret de_bl)) dss_nil))))))) (fun _ => PassesOwn.never))
  (dss_one (ds_ret de_bl))))))))) (fun δ Qd l h => ?_)
  obtain ⟨w, r, ss, os, hW, rfl, ls, lo, hs, ho, hq⟩ := h
  obtain ⟨i0, q⟩ := W_ok hW
  have hn : r.2.2.length ≤ 7 := by rw [q.len]; exact q.l7
  have b := b62 (i := ((kstr r.2.2).length : Int)) (by omega) (by rw [kstr_len]; omega)
  refine ⟨le1000 (by rw [kstr_len]; omega), b.1, b.2, rfl, by rw [rngD_len, kstr_len]; exact k1000 (by omega), ?_⟩
  have hkd : ∀ i, i < r.2.2.length → r.2.2[i]? = some (r.2.2.getD i .T) := fun i hi => by simp [List.getD_eq_getElem?_getD, hi]
  have hsd : ∀ i, i < r.2.2.length → ss[i]? = some (ss.getD i 0) := fun i hi => by
    have : i < ss.length := by omega
    simp [List.getD_eq_getElem?_getD, this]
  have hod : ∀ i, i < r.2.2.length → os[i]? = some (os.getD i 0) := fun i hi => by
    have : i < os.length := by omega
    simp [List.getD_eq_getElem?_getD, this]
  have hz : (kstr r.2.2).length ≤ sizeLine := le1000 (by rw [kstr_len]; omega)
  rw [show (((kstr r.2.2).length : Int)).toNat = r.2.2.length by rw [kstr_len]; omega]
  unfold rngD
  refine lc_map (g := fun i : Nat => Dt.int (0 + (i : Int))) (fun i => partD (csA A) (r.2.2.getD i .T) (ss.getD i 0)) (List.range r.2.2.length) (fun i m Q q => ?_) ?_
  · have hi := List.mem_range.mp m
    rw [Int.zero_add]
    have s1 := hs _ (List.mem_of_getElem? (hsd i hi))
    exact ⟨hz, _, kstr_at (hkd i hi), _, atI_map (f := Dt.int) (atI_nat (hsd i hi)), rfl, _, _, rfl, s1.1, s1.2, q⟩
  have hP : PartsOk (csA A) r.2.2 ((List.range r.2.2.length).map fun i => partD (csA A) (r.2.2.getD i .T) (ss.getD i 0)) := by
    refine ⟨by simp, fun i k d hk hd => ?_⟩
    rw [List.getElem?_map] at hd
    obtain ⟨j, hj, rfl⟩ := Option.map_eq_some_iff.mp hd
    have hij : j = i := by
      have := (List.getElem?_eq_some_iff.mp hj).2
      simpa using this.symm
    subst hij
    have := hkd j (List.getElem?_eq_some_iff.mp hk).1
    rw [hk] at this
    cases this
    exact ⟨_, rfl⟩
  generalize hD : ((List.range r.2.2.length).map fun i => partD (csA A) (r.2.2.getD i .T) (ss.getD i 0)) = D at hP
  have hl : ∀ {es : List Dt}, PartsOk (csA A) r.2.2 es → es.length = r.2.1.length := fun h => h.1.trans q.len
  have hpa : ∀ {es : List Dt}, PartsOk (csA A) r.2.2 es → w = 12 → ∀ d, d ∈ es → ∃ xs, d = .tup xs := fun h e => by
    subst e
    cases hW
    exact tup_D h
  obtain ⟨b1, g1, e1⟩ := tl_parts (Kc := Kc99 (csA A)) hP hP
  have e1 := e1.mpr rfl
  subst e1
  obtain ⟨b2, g2, e2⟩ := tl_made (Kc := Kc99 (csA A)) hW hP hP
  have e2 := e2.mpr rfl
  subst e2
  refine ⟨rfl, w, r, D, hW, rfl, hl hP, hpa hP, ?_⟩
  refine ⟨rfl, w, r, D, hW, rfl, hl hP, dEqH_of g1 ⟨_, rfl, ite_f rfl ?_⟩⟩
  refine ⟨rfl, w, r, D, hW, rfl, hl hP, hpa hP, ?_⟩
  refine dEqH_of g2 ⟨_, rfl, ite_f rfl (dEqH_of g2 ⟨_, rfl, ite_f rfl ?_⟩)⟩
  refine ⟨hz, b.1, b.2, ?_⟩
  refine for_inv (fun i δ => ∃ s7 s8 s9, δ = [.val (.int (w : Int)), .val (.str (kstr r.2.2)), .val (iL ss), .val (iL os), .val (.lst D), .val (.ins (csA A r.1) (r.2.1.zip D)), .val (.ins (csA A r.1) (r.2.1.zip D)), s7, s8, s9]) ⟨_, _, _, rfl⟩ (fun i dd δ N hi hI h1 => ?_) (fun δ hI => ?_)
  · obtain ⟨s7, s8, s9, rfl⟩ := hI
    obtain ⟨hj, rfl⟩ := rngD_get hi
    have hi : i < r.2.2.length := by
      rw [kstr_len] at hj
      omega
    rw [Int.zero_add]
    have o1 := ho _ (List.mem_of_getElem? (hod i hi))
    have hDi : i < D.length := by rw [hP.1]; exact hi
    have hP' := parts_set hP (hkd i hi) (os.getD i 0)
    refine ⟨_, rfl, fun a => ?_⟩
    refine ⟨hz, _, kstr_at (hkd i hi), _, atI_map (f := Dt.int) (atI_nat (hod i hi)), rfl, _, _, rfl, o1.1, o1.2, i, ixN_nat hDi, ?_⟩
    obtain ⟨u, hu⟩ := hP.2 i _ _ (hkd i hi) (List.getElem?_eq_getElem hDi)
    have t := (tl_part (Kc := Kc99 (csA A)) (cs := csA A) (r.2.2.getD i .T) (os.getD i 0) u).mono (m := 6) (Pn_up _ _ _ 4 (by cases r.2.2.getD i .T <;> decide) (Nat.le_refl _)) (by decide)
    obtain ⟨b3, g3, e3⟩ := t
    have a1 : atI (D.set i (partD (csA A) (r.2.2.getD i .T) (os.getD i 0))) (i : Int) = some (partD (csA A) (r.2.2.getD i .T) (os.getD i 0)) := atI_nat (List.getElem?_set_self hDi)
    have a2 : atI D (i : Int) = some (partD (csA A) (r.2.2.getD i .T) u) := atI_nat (by rw [List.getElem?_eq_getElem hDi, hu])
    refine ⟨_, a1, _, a2, dEqH_of g3 ⟨_, rfl, ?_⟩⟩
    cases b3 with
    | true => exact ite_t rfl (h1 _ ⟨_, _, _, rfl⟩)
    | false =>
      have ne : D.set i (partD (csA A) (r.2.2.getD i .T) (os.getD i 0)) ≠ D := fun z => by
        have h2 : (D.set i (partD (csA A) (r.2.2.getD i .T) (os.getD i 0)))[i]? = some (partD (csA A) (r.2.2.getD i .T) u) := by
          rw [z, List.getElem?_eq_getElem hDi, hu]
        rw [List.getElem?_set_self hDi] at h2
        have := e3.mpr (Option.some.inj h2)
        cases this
      obtain ⟨b4, g4, e4⟩ := tl_made (Kc := Kc99 (csA A)) hW hP hP'
      obtain ⟨b5, g5, e5⟩ := tl_made (Kc := Kc99 (csA A)) hW hP' hP
      obtain ⟨b6, g6, e6⟩ := tl_parts (Kc := Kc99 (csA A)) hP' hP'
      have n4 : b4 = false := Bool.eq_false_iff.mpr fun z => ne (made_inj (hl hP) (hl hP') (e4.mp z)).symm
      have n5 : b5 = false := Bool.eq_false_iff.mpr fun z => ne (made_inj (hl hP') (hl hP) (e5.mp z))
      have n6 := e6.mpr rfl
      subst n4 n5 n6
      refine ite_f rfl ⟨rfl, w, r, _, hW, rfl, hl hP', hpa hP', ?_⟩
      refine dEqH_of g4 ⟨_, rfl, ite_f rfl (dEqH_of g5 ⟨_, rfl, ite_f rfl ?_⟩)⟩
      refine ⟨rfl, w, r, _, hW, rfl, hl hP', dEqH_of g6 ⟨_, rfl, ite_f rfl ?_⟩⟩
      exact h1 _ ⟨_, _, _, rfl⟩
  · obtain ⟨s7, s8, s9, rfl⟩ := hI
    exact hq
end
end My
set_option maxHeartbeats 4000000
namespace My
open PySem PySem.Spec PyProof.Rows L2 Lcn Sq Dl
def fk (r : WR) : Dt := .str (kstr r.2.2)
theorem wk_eq : Dt.lst [.str "WN", .str "BTT", .str "BTTT", .str "TTBTTTT", .str "TLTT", .str "T", .str "T", .str "TT", .str "NT", .str "GT", .str "GT", .str "BTT", .str "DE", .str "P", .str "RSM", .str "BTTTT", .str "TNTN", .str "TNTTN", .str "TF", .str "T", .str "TN"] = .lst (W.map fk) := by
  have : W.map (fun r => kstr r.2.2) = (["WN", "BTT", "BTTT", "TTBTTTT", "TLTT", "T", "T", "TT", "NT", "GT", "GT", "BTT", "DE", "P", "RSM", "BTTTT", "TNTN", "TNTTN", "TF", "T", "TN"] : List Str) := by decide +kernel
  have h2 : W.map fk = (W.map (fun r => kstr r.2.2)).map .str := by rw [List.map_map]; rfl
  rw [h2, this]
  rfl
theorem wk_at {w : Nat} {r : WR} (h : W[w]? = some r) : atI (W.map fk) (w : Int) = some (.str (kstr r.2.2)) := atI_map (f := fk) (atI_nat h)
theorem chD_k (ks : List Kd) : chD (kstr ks) = ks.map fun k => Dt.str k.ch := by simp [chD, kstr, Kd.ch]
theorem W_get {w : Nat} (h : w < 21) : ∃ r, W[w]? = some r := ⟨_, List.getElem?_eq_getElem (h : w < W.length)⟩
theorem parts_map (cs : Str → Addr) (ks : List Kd) (s : Int) : PartsOk cs ks (ks.map fun k => partD cs k s) := by
  refine ⟨by simp, fun i k d hk hd => ?_⟩
  rw [List.getElem?_map, hk] at hd
  cases hd
  exact ⟨s, rfl⟩
theorem parts_rng (cs : Str → Addr) (ks : List Kd) (ss : List Int) : PartsOk cs ks ((List.range ks.length).map fun i => partD cs (ks.getD i .T) (ss.getD i 0)) := by
  refine ⟨by simp, fun i k d hk hd => ?_⟩
  rw [List.getElem?_map] at hd
  obtain ⟨j, hj, rfl⟩ := Option.map_eq_some_iff.mp hd
  have hij : j = i := by
    have := (List.getElem?_eq_some_iff.mp hj).2
    simpa using this.symm
  subst hij
  have : ks.getD j .T = k := by simp [List.getD_eq_getElem?_getD, hk]
  rw [this]
  exact ⟨_, rfl⟩
theorem parts_tup {cs : Str → Addr} {w : Nat} {r : WR} (hW : W[w]? = some r) {es : List Dt} (h : PartsOk cs r.2.2 es) : w = 12 → ∀ d, d ∈ es → ∃ xs, d = .tup xs := fun e => by
  subst e
  cases hW
  exact tup_D h
theorem parts_len {cs : Str → Addr} {w : Nat} {r : WR} (hW : W[w]? = some r) {es : List Dt} (h : PartsOk cs r.2.2 es) : es.length = r.2.1.length := by
  obtain ⟨i, q⟩ := W_ok hW
  exact h.1.trans q.len
def sp_law (K : PySem.W.Frag) : Sp := fun vs H Q _ => ∃ (a : Addr) (ns : List Int), vs = [.ref a] ∧ SqL K H a (ns.map V.int) ∧ ∀ H', Q (.bl true) H'
theorem sc_law : FnScope ["_law_script", "_law_source_here", "_law_kinds", "_law_before", "_law_which", "_law_turn", "_law_sizes", "_law_others", "_law_made_here", "_law_first", "_law_second", "_law_size", "_law_one", "_law_other", "_law_k", "_law_kind"] ["_law_script"] (defScope s_law) := ⟨rfl, rfl, rfl, by decide +kernel, rfl, by decide +kernel, by decide +kernel⟩
section
variable {P : Program} {w : World} {K : PySem.W.Frag} {mg : Str → Option Value} {base : Heap}
theorem ok_law (A : AllC K mg) (D_law : Dn K mg "law" s_law ["_law_script"]) (D__law_source : Dn K mg "_law_source" s__law_source ["_law_script"]) (G__law_source : FnOk P w K mg base CX0 1 D__law_source.f D__law_source.fd ["_law_script"] (spSource K)) (D__law_take : Dn K mg "_law_take" s__law_take ["_law_source_here", "_law_many"]) (G__law_take : FnOk P w K mg base CX0 1 D__law_take.f D__law_take.fd ["_law_source_here", "_law_many"] (dsp K 2 sp_take)) (D__law_result_right : Dn K mg "_law_result_right" s__law_result_right ["_law_which", "_law_kinds", "_law_sizes", "_law_others"]) (G__law_result_right : FnOk P w K mg base CX0 31 D__law_result_right.f D__law_result_right.fd ["_law_which", "_law_kinds", "_law_sizes", "_law_others"] (dsp K 4 (sp_right A))) (D__law_made : Dn K mg "_law_made" s__law_made ["_law_which", "_law_parts"]) (G__law_made : FnOk P w K mg base CX0 4 D__law_made.f D__law_made.fd ["_law_which", "_law_parts"] (dsp K 2 (sp_made A))) (D__law_part : Dn K mg "_law_part" s__law_part ["_law_kind", "_law_size"]) (G__law_part : FnOk P w K mg base CX0 8 D__law_part.f D__law_part.fd ["_law_kind", "_law_size"] (dsp K 2 (sp_part A))) (T : TB mg) (EQ : ClEqB P w K mg base 24 (P4 (Kc99 (csA A)) (csA A))) : FnOk P w K mg base CX0 32 D_law.f D_law.fd ["_law_script"] (sp_law K) := by
  refine ok0 D_law.F sc_law (fun vs H Q E h => ?_) (fun cdv Ar outer s H vs Q E hr h => ?_)
  · obtain ⟨a, ns, rfl, _⟩ := h
    rfl
  · obtain ⟨a, ns, rfl, hS, k⟩ := h
    obtain ⟨ts, p, v⟩ := ((dss_cons (ds_set (fun _ p => ps_set (i := 2) sc_law.nd rfl (by first | exact Or.inl rfl | exact Or.inr rfl) p) (de_n (dn_lst (da_cons de_str (da_cons de_str (da_cons de_str (da_cons de_str (da_cons de_str (da_cons de_str (da_cons de_str (da_cons de_str (da_cons de_str (da_cons de_str (da_cons de_str (da_cons de_str (da_cons de_str (da_cons de_str (da_cons de_str (da_cons de_str (da_cons de_str (da_cons de_str (da_cons de_str (da_cons de_str (da_cons de_str da_nil))))))))))))))))))))))))
  (dss_cons (ds_set (fun _ p => ps_set (i := 3) sc_law.nd rfl (by first | exact Or.inl rfl | exact Or.inr rfl) p) de_non)
  (dss_cons (ds_for (fun _ => rfl) (di_range1 (fun _ => by rfl) (fun _ => T.range) (da_cons (de_callB (fun _ => cr_len rfl) rc_len (fun _ => by rfl) (fun _ => T.len) PySem.boot_len (da_cons (de_var (fun _ => pv 2)) da_nil)) da_nil)) (dg_name (i := 4) (fun _ => pg_name sc_law.nd rfl (by first | exact Or.inl rfl | exact Or.inr rfl))) (dss_cons (ds_set (fun _ p => ps_set (i := 6) sc_law.nd rfl (by first | exact Or.inl rfl | exact Or.inr rfl) p) (de_n (dn_lc (o := true) (own := [(("_law_k" : Str), 14)]) (fun _ => rfl) (fun _ => sc_law.nd) (di_range1 (fun _ => by rfl) (fun _ => T.range) (da_cons de_int da_nil)) (fun _ => (blkOk_by (own := [(("_law_k" : Str), 14)]) (N := ["_law_script", "_law_source_here", "_law_kinds", "_law_before", "_law_which", "_law_turn", "_law_sizes", "_law_others", "_law_made_here", "_law_first", "_law_second", "_law_size", "_law_one", "_law_other", "_law_k", "_law_kind"]) (sc := defScope s_law) (by decide +kernel))) (dg_name (i := 14) (fun _ => pg_name sc_law.nd rfl (by first | exact Or.inl rfl | exact Or.inr rfl))) dts_nil (de_add de_int (de_call (fun _ pa => pe_call G__law_take (hr.mono (by decide)) (by rfl) D__law_take.m D__law_take.F.kp D__law_take.b .nil pass0 pa) (dl_src (fun _ => pv 1) (dl_val de_int dl_nil)))) (by decide))))
  (dss_cons (ds_ofV (ds_lcN (o := true) (i := 7) (own := [(("_law_k" : Str), 14)]) (fun _ => rfl) (fun _ => sc_law.nd) (fun _ => rfl) (fun _ => rfl) (fun _ => sw_true rfl rfl rfl (by decide +kernel)) (di_range1 (fun _ => by rfl) (fun _ => T.range) (da_cons de_int da_nil)) (fun _ => (blkOk_by (own := [(("_law_k" : Str), 14)]) (N := ["_law_script", "_law_source_here", "_law_kinds", "_law_before", "_law_which", "_law_turn", "_law_sizes", "_law_others", "_law_made_here", "_law_first", "_law_second", "_law_size", "_law_one", "_law_other", "_law_k", "_law_kind"]) (sc := defScope s_law) (by decide +kernel))) (dg_name (i := 14) (fun _ => pg_name sc_law.nd rfl (by first | exact Or.inl rfl | exact Or.inr rfl))) dts_nil (de_add de_int (de_mod (de_callTy (fun _ => call_int1) rc_int (fun _ => by rfl) (fun _ => T.int) PyProof.Rows.boot_int (da_cons (de_add (de_ixA (de_var (fun _ => pv 6)) (de_var (fun _ => pv 14)) (fun _ _ => rfl)) (de_call (fun _ pa => pe_call G__law_take (hr.mono (by decide)) (by rfl) D__law_take.m D__law_take.F.kp D__law_take.b .nil pass0 pa) (dl_src (fun _ => pv 1) (dl_val de_int dl_nil)))) da_nil)) de_int)) (by decide) rfl))
  (dss_cons (ds_if (dt_not (dt_val (de_call (fun _ pa => pe_call G__law_result_right (hr.mono (by decide)) (by rfl) D__law_result_right.m D__law_result_right.F.kp D__law_result_right.b .nil pass0 pa) (dl_val (de_var (fun _ => pv 4)) (dl_val (de_ixA (de_var (fun _ => pv 2)) (de_var (fun _ => pv 4)) (fun _ _ => rfl)) (dl_val (de_var (fun _ => pv 6)) (dl_val (de_var (fun _ => pv 7)) dl_nil))))))) (dss_one (ds_ret de_bl)) dss_nil)
  (dss_cons (ds_set (fun _ p => ps_set (i := 8) sc_law.nd rfl (by first | exact Or.inl rfl | exact Or.inr rfl) p) (de_call (fun _ pa => pe_call G__law_made (hr.mono (by decide)) (by rfl) D__law_made.m D__law_made.F.kp D__law_made.b .nil pass0 pa) (dl_val (de_var (fun _ => pv 4)) (dl_val (de_n (dn_lc (o := true) (own := [(("_law_k" : Str), 14)]) (fun _ => rfl) (fun _ => sc_law.nd) (di_range1 (fun _ => by rfl) (fun _ => T.range) (da_cons (de_callB (fun _ => cr_len rfl) rc_len (fun _ => by rfl) (fun _ => T.len) PySem.boot_len (da_cons (de_ixA (de_var (fun _ => pv 2)) (de_var (fun _ => pv 4)) (fun _ _ => rfl)) da_nil)) da_nil)) (fun _ => (blkOk_by (own := [(("_law_k" : Str), 14)]) (N := ["_law_script", "_law_source_here", "_law_kinds", "_law_before", "_law_which", "_law_turn", "_law_sizes", "_law_others", "_law_made_here", "_law_first", "_law_second", "_law_size", "_law_one", "_law_other", "_law_k", "_law_kind"]) (sc := defScope s_law) (by decide +kernel))) (dg_name (i := 14) (fun _ => pg_name sc_law.nd rfl (by first | exact Or.inl rfl | exact Or.inr rfl))) dts_nil (de_call (fun _ pa => pe_call G__law_part (hr.mono (by decide)) (by rfl) D__law_part.m D__law_part.F.kp D__law_part.b .nil pass0 pa) (dl_val (de_ixA (de_ixA (de_var (fun _ => pv 2)) (de_var (fun _ => pv 4)) (fun _ _ => rfl)) (de_var (fun _ => pv 14)) (fun _ _ => rfl)) (dl_val (de_ixA (de_var (fun _ => pv 6)) (de_var (fun _ => pv 14)) (fun _ _ => rfl)) dl_nil))) (by decide))) dl_nil))))
  (dss_cons (ds_if (dt_w (dw_and (dt_cmpC cd_notN (de_var (fun _ => pv 3)) de_non (nomark _)) (dw_and1 (dt_w (dw_or (dt_cmpC (cd_eqH (n := 6) (fun _ => EQ) (fun _ => hr.mono (by decide))) (de_var (fun _ => pv 8)) (de_var (fun _ => pv 3)) (nomark _)) (dw_or1 (dt_cmpC (cd_eqH (n := 6) (fun _ => EQ) (fun _ => hr.mono (by decide))) (de_var (fun _ => pv 3)) (de_var (fun _ => pv 8)) (nomark _)))))))) (dss_one (ds_ret de_bl)) dss_nil)
  (dss_one (ds_set (fun _ p => ps_set (i := 3) sc_law.nd rfl (by first | exact Or.inl rfl | exact Or.inr rfl) p) (de_var (fun _ => pv 8))))))))) (fun _ => PassesOwn.never))
  (dss_cons (ds_asg (fun _ p q => ps_asg p q) (de_tup (da_cons de_int (da_cons de_int da_nil))) (dg_tup (n := 2) (dgs_cons (dg_name (i := 9) (fun _ => pg_name sc_law.nd rfl (by first | exact Or.inl rfl | exact Or.inr rfl))) (dgs_cons (dg_name (i := 10) (fun _ => pg_name sc_law.nd rfl (by first | exact Or.inl rfl | exact Or.inr rfl))) dgs_nil))))
  (dss_cons (ds_for (fun _ => rfl) (di_range1 (fun _ => by rfl) (fun _ => T.range) (da_cons de_int da_nil)) (dg_name (i := 5) (fun _ => pg_name sc_law.nd rfl (by first | exact Or.inl rfl | exact Or.inr rfl))) (dss_cons (ds_set (fun _ p => ps_set (i := 9) sc_law.nd rfl (by first | exact Or.inl rfl | exact Or.inr rfl) p) (de_call (fun _ pa => pe_call G__law_take (hr.mono (by decide)) (by rfl) D__law_take.m D__law_take.F.kp D__law_take.b .nil pass0 pa) (dl_src (fun _ => pv 1) (dl_val (de_callB (fun _ => cr_len rfl) rc_len (fun _ => by rfl) (fun _ => T.len) PySem.boot_len (da_cons (de_var (fun _ => pv 2)) da_nil)) dl_nil))))
  (dss_cons (ds_set (fun _ p => ps_set (i := 10) sc_law.nd rfl (by first | exact Or.inl rfl | exact Or.inr rfl) p) (de_mod (de_callTy (fun _ => call_int1) rc_int (fun _ => by rfl) (fun _ => T.int) PyProof.Rows.boot_int (da_cons (de_add (de_add (de_var (fun _ => pv 9)) de_int) (de_call (fun _ pa => pe_call G__law_take (hr.mono (by decide)) (by rfl) D__law_take.m D__law_take.F.kp D__law_take.b .nil pass0 pa) (dl_src (fun _ => pv 1) (dl_val (de_sub (de_callB (fun _ => cr_len rfl) rc_len (fun _ => by rfl) (fun _ => T.len) PySem.boot_len (da_cons (de_var (fun _ => pv 2)) da_nil)) de_int) dl_nil)))) da_nil)) (de_callB (fun _ => cr_len rfl) rc_len (fun _ => by rfl) (fun _ => T.len) PySem.boot_len (da_cons (de_var (fun _ => pv 2)) da_nil))))
  (dss_cons (ds_set (fun _ p => ps_set (i := 11) sc_law.nd rfl (by first | exact Or.inl rfl | exact Or.inr rfl) p) (de_add de_int (de_call (fun _ pa => pe_call G__law_take (hr.mono (by decide)) (by rfl) D__law_take.m D__law_take.F.kp D__law_take.b .nil pass0 pa) (dl_src (fun _ => pv 1) (dl_val de_int dl_nil)))))
  (dss_cons (ds_set (fun _ p => ps_set (i := 12) sc_law.nd rfl (by first | exact Or.inl rfl | exact Or.inr rfl) p) (de_call (fun _ pa => pe_call G__law_made (hr.mono (by decide)) (by rfl) D__law_made.m D__law_made.F.kp D__law_made.b .nil pass0 pa) (dl_val (de_var (fun _ => pv 9)) (dl_val (de_n (dn_lc (o := true) (own := [(("_law_kind" : Str), 15)]) (fun _ => rfl) (fun _ => sc_law.nd) (di_str (de_ixA (de_var (fun _ => pv 2)) (de_var (fun _ => pv 9)) (fun _ _ => rfl))) (fun _ => (blkOk_by (own := [(("_law_kind" : Str), 15)]) (N := ["_law_script", "_law_source_here", "_law_kinds", "_law_before", "_law_which", "_law_turn", "_law_sizes", "_law_others", "_law_made_here", "_law_first", "_law_second", "_law_size", "_law_one", "_law_other", "_law_k", "_law_kind"]) (sc := defScope s_law) (by decide +kernel))) (dg_name (i := 15) (fun _ => pg_name sc_law.nd rfl (by first | exact Or.inl rfl | exact Or.inr rfl))) dts_nil (de_call (fun _ pa => pe_call G__law_part (hr.mono (by decide)) (by rfl) D__law_part.m D__law_part.F.kp D__law_part.b .nil pass0 pa) (dl_val (de_var (fun _ => pv 15)) (dl_val (de_var (fun _ => pv 11)) dl_nil))) (by decide))) dl_nil))))
  (dss_cons (ds_set (fun _ p => ps_set (i := 13) sc_law.nd rfl (by first | exact Or.inl rfl | exact Or.inr rfl) p) (de_call (fun _ pa => pe_call G__law_made (hr.mono (by decide)) (by rfl) D__law_made.m D__law_made.F.kp D__law_made.b .nil pass0 pa) (dl_val (de_var (fun _ => pv 10)) (dl_val (de_n (dn_lc (o := true) (own := [(("_law_kind" : Str), 15)]) (fun _ => rfl) (fun _ => sc_law.nd) (di_str (de_ixA (de_var (fun _ => pv 2)) (de_var (fun _ => pv 10)) (fun _ _ => rfl))) (fun _ => (blkOk_by (own := [(("_law_kind" : Str), 15)]) (N := ["_law_script", "_law_source_here", "_law_kinds", "_law_before", "_law_which", "_law_turn", "_law_sizes", "_law_others", "_law_made_here", "_law_first", "_law_second", "_law_size", "_law_one", "_law_other", "_law_k", "_law_kind"]) (sc := defScope s_law) (by decide +kernel))) (dg_name (i := 15) (fun _ => pg_name sc_law.nd rfl (by first | exact Or.inl rfl | exact Or.inr rfl))) dts_nil (de_call (fun _ pa => pe_call G__law_part (hr.mono (by decide)) (by rfl) D__law_part.m D__law_part.F.kp D__law_part.b .nil pass0 pa) (dl_val (de_var (fun _ => pv 15)) (dl_val (de_var (fun _ => pv 11)) dl_nil))) (by decide))) dl_nil))))
  (dss_one (ds_if (dt_w (dw_or (dt_cmpC (cd_eqH (n := 6) (fun _ => EQ) (fun _ => hr.mono (by decide))) (de_var (fun _ => pv 12)) (de_var (fun _ => pv 13)) (nomark _)) (dw_or1 (dt_cmpC (cd_eqH (n := 6) (fun _ => EQ) (fun _ => hr.mono (by decide))) (de_var (fun _ => pv 13)) (de_var (fun _ => pv 12)) (nomark _))))) (dss_one (ds_ret de_bl)) dss_nil))))))) (fun _ => PassesOwn.never))
  (dss_one (ds_ret de_bl))))))) : DSs K (fun _ : Unit => (cxOf CX0 P w K mg base ["_law_script", "_law_source_here", "_law_kinds", "_law_before", "_law_which", "_law_turn", "_law_sizes", "_law_others", "_law_made_here", "_law_first", "_law_second", "_law_size", "_law_one", "_law_other", "_law_k", "_law_kind"] "law" (defScope s_law) D_law.f cdv Ar outer s H E).nox) (defBody s_law).tail _)
    refine ⟨_, pss_cons (ps_set (i := 1) sc_law.nd rfl (by first | exact Or.inl rfl | exact Or.inr rfl) (pe_call G__law_source (hr.mono (by decide)) (by rfl) D__law_source.m D__law_source.F.kp D__law_source.b .nil pass0 (pa_cons (pv 0) pa_nil))) (p ()), ?_⟩
    refine ⟨_, rfl, a, ns, rfl, hS, fun p L H' _ _ src => ?_⟩
    refine v _ _ _ H' _ _ rfl (sok_law (a := a) (n := 14) src) ?_ (ends_law k)
    have wl : (W.map fk).length = 21 := rfl
    have p12 : (12 : Int) < 2 ^ 200 := by decide
    have p11 : (11 : Int) < 2 ^ 200 := by decide
    have p21 : (21 : Int) < 2 ^ 200 := by decide
    have p20 : (20 : Int) < 2 ^ 200 := by decide
    have b21 := b62 (i := 21) (by omega) (by omega)
    have b7 := b62 (i := 7) (by omega) (by omega)
    have b6 := b62 (i := 6) (by omega) (by omega)
    refine ⟨le1000 (by decide), b21.1, b21.2, ?_⟩
    refine for_inv (fun i δ => ∃ bf s4 s6 s7 s8, δ = [.any, .src, .val (.lst (W.map fk)), .val bf, s4, .any, s6, s7, s8, .any, .any, .any, .any, .any, .any, .any] ∧ (bf = .non ∨ ∃ j r ds, j < i ∧ W[j]? = some r ∧ bf = .ins (csA A r.1) (r.2.1.zip ds))) ⟨_, _, _, _, _, by rw [← wk_eq]; rfl, .inl rfl⟩ (fun i dd δ N hi hI h1 => ?_) (fun δ hI => ?_)
    · obtain ⟨bf, s4, s6, s7, s8, rfl, hb⟩ := hI
      obtain ⟨hj, rfl⟩ := rngD_get hi
      have hi : i < 21 := hj
      obtain ⟨r, hW⟩ := W_get hi
      obtain ⟨i0, q⟩ := W_ok hW
      rw [Int.zero_add]
      refine ⟨b7.1, b7.2, rfl, by rw [rngD_len]; exact k1000 (by decide), ?_⟩
      unfold rngD
      refine lc_all (g := fun i : Nat => Dt.int (0 + (i : Int))) Dt.int (fun z => 1 ≤ z ∧ z ≤ 12) (List.range _) (fun i m Q q => ?_) (fun ss ls hs => ?_)
      · exact ⟨rfl, 12, rfl, by decide, p12, fun r r0 r1 => q (1 + r) ⟨by omega, by omega⟩⟩
      have ls : ss.length = 7 := ls.trans (List.length_range ..)
      refine ⟨b7.1, b7.2, rfl, by rw [rngD_len]; exact k1000 (by decide), ?_⟩
      unfold rngD
      refine lc_all (g := fun i : Nat => Dt.int (0 + (i : Int))) Dt.int (fun z => 1 ≤ z ∧ z ≤ 12) (List.range _) (fun i m Q q => ?_) (fun os lo ho => ?_)
      · have hi : i < 7 := List.mem_range.mp m
        rw [Int.zero_add]
        have hd : ss[i]? = some (ss[i]'(by omega)) := List.getElem?_eq_getElem _
        refine ⟨_, atI_map (f := Dt.int) (atI_nat hd), rfl, 11, rfl, by decide, p11, fun r r0 r1 => ⟨(by decide : (0 : Int) < 12), q _ ⟨?_, ?_⟩⟩⟩
        · omega
        · omega
      have lo : os.length = 7 := lo.trans (List.length_range ..)
      refine ⟨_, wk_at hW, rfl, i, r, ss, os, hW, rfl, ls, lo, hs, ho, ⟨_, rfl, ite_f rfl ?_⟩⟩
      have hn : r.2.2.length ≤ 7 := by rw [q.len]; exact q.l7
      have b := b62 (i := ((kstr r.2.2).length : Int)) (by omega) (by rw [kstr_len]; omega)
      have hz : (kstr r.2.2).length ≤ sizeLine := le1000 (by rw [kstr_len]; omega)
      refine ⟨_, wk_at hW, hz, b.1, b.2, rfl, by rw [rngD_len, kstr_len]; exact k1000 (by omega), ?_⟩
      rw [show (((kstr r.2.2).length : Int)).toNat = r.2.2.length by rw [kstr_len]; omega]
      unfold rngD
      refine lc_map (g := fun i : Nat => Dt.int (0 + (i : Int))) (fun i => partD (csA A) (r.2.2.getD i .T) (ss.getD i 0)) (List.range r.2.2.length) (fun j m Q q => ?_) ?_
      · have hj := List.mem_range.mp m
        have hk : r.2.2[j]? = some (r.2.2.getD j .T) := by simp [List.getD_eq_getElem?_getD, hj]
        have hd : ss[j]? = some (ss.getD j 0) := by
          have : j < ss.length := by omega
          simp [List.getD_eq_getElem?_getD, this]
        rw [Int.zero_add]
        have s1 := hs _ (List.mem_of_getElem? hd)
        exact ⟨_, wk_at hW, hz, _, kstr_at hk, _, atI_map (f := Dt.int) (atI_nat hd), rfl, _, _, rfl, s1.1, s1.2, q⟩
      have hP := parts_rng (csA A) r.2.2 ss
      generalize ((List.range r.2.2.length).map fun i => partD (csA A) (r.2.2.getD i .T) (ss.getD i 0)) = D at hP
      refine ⟨rfl, i, r, D, hW, rfl, parts_len hW hP, parts_tup hW hP, ?_⟩
      rcases hb with rfl | ⟨j, t, ds, hj, hV, rfl⟩
      · exact ⟨rfl, _, rfl, ite_f rfl (ite_f rfl (h1 _ ⟨_, _, _, _, _, rfl, .inr ⟨i, r, D, by omega, hW, rfl⟩⟩))⟩
      · refine ⟨rfl, _, rfl, ite_t rfl ?_⟩
        refine dEqH_of (gq_two hW hV (by omega)) ⟨_, rfl, ite_f rfl (dEqH_of (gq_two hV hW (by omega)) ⟨_, rfl, ite_f rfl ?_⟩)⟩
        exact h1 _ ⟨_, _, _, _, _, rfl, .inr ⟨i, r, D, by omega, hW, rfl⟩⟩
    obtain ⟨bf, s4, s6, s7, s8, rfl, _⟩ := hI
    refine ⟨le1000 (by decide), rfl, rfl, b6.1, b6.2, ?_⟩
    refine for_inv (fun i δ => ∃ s5 s9 s10 s11 s12 s13, δ = [.any, .src, .val (.lst (W.map fk)), .val bf, s4, s5, s6, s7, s8, s9, s10, s11, s12, s13, .any, .any]) ⟨_, _, _, _, _, _, rfl⟩ (fun i dd δ N hi hI h1 => ?_) (fun δ hI => ?_)
    · obtain ⟨s5, s9, s10, s11, s12, s13, rfl⟩ := hI
      refine ⟨rfl, 21, rfl, by decide, p21, fun f f0 f1 => ?_⟩
      refine ⟨rfl, 20, rfl, by decide, p20, fun u u0 u1 => ⟨(by decide : (0 : Int) < 21), ?_⟩⟩
      refine ⟨rfl, 12, rfl, by decide, p12, fun c c0 c1 => ?_⟩
      obtain ⟨a, rfl⟩ : ∃ a : Nat, f = (a : Int) := ⟨f.toNat, by omega⟩
      obtain ⟨b, hb⟩ : ∃ b : Nat, ((a : Int) + 1 + u) % ((W.map fk).length : Int) = (b : Int) := ⟨(((a : Int) + 1 + u) % ((W.map fk).length : Int)).toNat, by rw [wl]; omega⟩
      have hb' : ((a : Int) + 1 + u) % 21 = (b : Int) := hb
      obtain ⟨r, hW⟩ := W_get (w := a) (by omega)
      obtain ⟨t, hV⟩ := W_get (w := b) (by omega)
      have hl : ∀ {w : Nat} {r : WR}, W[w]? = some r → (chD (kstr r.2.2)).length < sizeLine := fun hW => by
        obtain ⟨i0, q⟩ := W_ok hW
        rw [chD_k, List.length_map, q.len]
        exact k1000 (by have := q.l7; omega)
      refine ⟨_, wk_at hW, rfl, hl hW, ?_⟩
      rw [chD_k]
      refine lc_map (g := fun k : Kd => Dt.str k.ch) (fun k => partD (csA A) k (1 + c)) r.2.2 (fun k m Q q => ⟨rfl, k, _, rfl, by omega, by omega, q⟩) ?_
      have hP := parts_map (csA A) r.2.2 (1 + c)
      refine ⟨rfl, a, r, _, hW, rfl, parts_len hW hP, parts_tup hW hP, ?_⟩
      have wv : atI (W.map fk) (((a : Int) + 1 + u) % ((W.map fk).length : Int)) = some (.str (kstr t.2.2)) := by rw [hb]; exact wk_at hV
      refine ⟨_, wv, rfl, hl hV, ?_⟩
      rw [chD_k]
      refine lc_map (g := fun k : Kd => Dt.str k.ch) (fun k => partD (csA A) k (1 + c)) t.2.2 (fun k m Q q => ⟨rfl, k, _, rfl, by omega, by omega, q⟩) ?_
      have hP2 := parts_map (csA A) t.2.2 (1 + c)
      refine ⟨rfl, b, t, _, hV, by rw [← hb], parts_len hV hP2, parts_tup hV hP2, ?_⟩
      refine dEqH_of (gq_two hW hV (by omega)) ⟨_, rfl, ite_f rfl (dEqH_of (gq_two hV hW (by omega)) ⟨_, rfl, ite_f rfl ?_⟩)⟩
      exact h1 _ ⟨_, _, _, _, _, _, rfl⟩
    · obtain ⟨s5, s9, s10, s11, s12, s13, rfl⟩ := hI
      rfl
end
end My
set_option maxHeartbeats 4000000
/-! a Hook that looks at any Boolean of one's own -/
namespace Hm
open PySem PySem.Spec PyProof.Rows L2 He
def obsM (ck : PySem.W.Frag → Bool) (fn : List DefD) (K : PySem.W.Frag) : AlD := (ck K && fn.all fun d => d.ok K, fn.map fun d => fnW K d.at_)
def SaysM (ck : PySem.W.Frag → Bool) (fn : List DefD) (K : PySem.W.Frag) : Prop := obsM ck fn K = valD fn
def obsMG (n : Nat) (ck : PySem.W.Frag → Bool) (fn : List DefD) (g : Addr → Option Obj) : AlD := obsM ck fn (frG g (asD g n))
def hookM (n : Nat) (ck : PySem.W.Frag → Bool) (fn : List DefD) : PySem.W.Hook where
  α := AlD
  obs := fun s => obsMG n ck fn s.heap.get?
  val := fun _ => valD fn
  says := fun _ h => ∃ K : PySem.W.Frag, K.In h ∧ SaysM ck fn K
  of := fun _ _ e => ⟨_, frG_in, e⟩
  keeps := fun _ _ _ ⟨K, hK, c⟩ k => ⟨K, PySem.W.Frag.In.keeps hK k, c⟩
theorem obsMG_eq {n : Nat} {ck : PySem.W.Frag → Bool} {fn : List DefD} {g : Addr → Option Obj} {s : Shared} (h : ∀ a, g a = s.heap.get? a) : obsMG n ck fn g = (hookM n ck fn).obs s := by
  have e : g = s.heap.get? := funext h
  rw [e] <;> rfl
section
variable {ck : PySem.W.Frag → Bool} {fn : List DefD} {K : PySem.W.Frag}
theorem SaysM.ckT (c : SaysM ck fn K) : ck K = true :=
  (ba (show (ck K && fn.all fun d => d.ok K) = true from congrArg (fun z : AlD => z.1) c)).1
theorem SaysM.def_ (c : SaysM ck fn K) (i : Nat) {d : DefD} (h : fn[i]? = some d := by rfl) : ∃ fd, FunD K d.name d.qual d.params d.body d.scope (d.dvs K) (d.kws K) (fAd K d.at_) fd := by
  have c2 := (ba (show (ck K && fn.all fun d => d.ok K) = true from congrArg (fun z : AlD => z.1) c)).2
  have e : fn.map (fun d => fnW K d.at_) = fn.map DefD.val := congrArg (fun z : AlD => z.2) c
  have e2 : (fn.map fun d => fnW K d.at_)[i]? = (fn.map DefD.val)[i]? := by rw [e]
  rw [List.getElem?_map, List.getElem?_map, h] at e2
  exact DefD.funD (Option.some.inj e2) (List.all_eq_true.mp c2 d (List.mem_of_getElem? h))
end
/-! ### exception classes over ValueError, by an own base -/
def oexB (K : PySem.W.Frag) (C : Addr) (bm : List Value) : Bool := match K.lookup C with
  | some ⟨.type "type", _, .cls cd, sl⟩ => (match cd.mro, sl.toList with
    | .ref C' :: bm', [_, _, _, _, some (.builtin n), _] => decide (C' = C) && (decide (n = "ValueError.__new__") && (!cd.hasDel && (cd.hasDict && decide (bm' = bm))))
    | _, _ => false)
  | _ => false
theorem oexB_ok {K : PySem.W.Frag} {C : Addr} {bm : List Value} (q : oexB K C bm = true) :
    ∃ nm qn N bs sn sub ab col dd k0 k1 k2 k3 k5, K.lookup C = some (excClassObj nm qn C N bs bm true sn sub ab col dd k0 k1 k2 k3 k5 "ValueError.__new__") := by
  unfold oexB at q
  split at q
  · rename_i dd cd sl ho
    split at q
    · rename_i C' bm' k0 k1 k2 k3 n k5 hm hs
      simp only [Bool.and_eq_true, decide_eq_true_eq, Bool.not_eq_true'] at q
      obtain ⟨rfl, rfl, hdel, hdc, rfl⟩ := q
      obtain ⟨nm, bs, mro, ns, qn, hd, sn, sub, ab, col, del⟩ := cd
      dsimp only at hm hdel hdc
      subst hm hdel hdc
      have hsl : sl = #[k0, k1, k2, k3, some (.builtin "ValueError.__new__"), k5] := by
        obtain ⟨l⟩ := sl
        simp only at hs
        rw [hs]
      subst hsl
      exact ⟨nm, qn, ns, bs, sn, sub, ab, col, dd, k0, k1, k2, k3, k5, ho⟩
    · cases q
  · cases q
def excB (K : PySem.W.Frag) (C : Addr) (fs : List Str) : Bool :=
  eqO (PySem.W.findIn K (.ref C) "__setattr__") (some (some (.builtin "object.__setattr__"))) && (decide (PySem.W.subIn K (.ref C) (.type "BaseException") = some true) && (decide (PySem.W.typeIn K (.ref C) = some (.type "type")) && (PySem.W.keepIn K (.ref C) &&
  (eqO (PySem.W.findIn K (.ref C) "__getattribute__") (some (some (.builtin "BaseException.__getattribute__"))) && (eqO (PySem.W.findIn K (.ref C) "__getattr__") (some none) && (PySem.W.hasDictIn K C && (eqO (PySem.W.findIn K (.ref C) "__class__") (some (some (.builtin "object.__class__"))) &&
  (decide (PySem.W.mroIn K C (.type "object") = some true) && fs.all fun f => eqO (PySem.W.findIn K (.ref C) f) (some none)))))))))
def comB (K : PySem.W.Frag) : Bool := decide (PySem.W.specialIn K (.builtin "object.__class__") "__get__" = some (some (.builtin "getset_descriptor.__get__"))) && decide (PySem.W.takesIn K (.builtin "object.__class__") = some true)
/-- what is known of an exception class -/
structure XC (K : PySem.W.Frag) (C : Addr) (bm : List Value) (fs : List Str) : Prop where
  ox : OexC K C
  xc : ExcC K C
  cd : ∃ cd, PySem.W.clsIn K C = some cd ∧ cd.mro = .ref C :: bm
  no : ∀ f ∈ fs, PySem.W.findIn K (.ref C) f = some none
theorem xc_ok {K : PySem.W.Frag} {C : Addr} {bm : List Value} {fs : List Str} (c : comB K = true) (h1 : oexB K C bm = true) (h2 : excB K C fs = true) (hbm : PySem.HandSPX.refsVE bm = true) : XC K C bm fs := by
  obtain ⟨c1, c2⟩ := ba c
  obtain ⟨a1, h2⟩ := ba h2
  obtain ⟨a2, h2⟩ := ba h2
  obtain ⟨a3, h2⟩ := ba h2
  obtain ⟨a4, h2⟩ := ba h2
  obtain ⟨a5, h2⟩ := ba h2
  obtain ⟨a6, h2⟩ := ba h2
  obtain ⟨a7, h2⟩ := ba h2
  obtain ⟨a8, h2⟩ := ba h2
  obtain ⟨a9, a10⟩ := ba h2
  obtain ⟨nm, qn, N, bs, sn, sub, ab, col, dd, k0, k1, k2, k3, k5, hC⟩ := oexB_ok h1
  refine ⟨⟨⟨nm, qn, N, bs, bm, sn, sub, ab, col, dd, k0, k1, k2, k3, k5, hC, hbm⟩, eqO_ok a1, of_decide_eq_true a2, of_decide_eq_true a3, a4⟩, ⟨eqO_ok a5, eqO_ok a6, of_decide_eq_true a2, a7, eqO_ok a8, of_decide_eq_true c1, of_decide_eq_true c2, of_decide_eq_true a9⟩, ?_, fun f hf => eqO_ok (List.all_eq_true.mp a10 f hf)⟩
  refine ⟨{ name := nm, bases := bs, mro := .ref C :: bm, ns := N, qualname := qn, hasDict := true, slotNames := sn, subclasses := sub, abstract := ab, collection := col, hasDel := false }, ?_, rfl⟩
  unfold PySem.W.clsIn
  rw [hC] <;> rfl
/-- isinstance of an instance of C: of an own class D, of a built-in one -/
theorem kit_own {K : PySem.W.Frag} {C D : Addr} {bm bm' : List Value} {fs fs' : List Str} (x : XC K C bm fs) (y : XC K D bm' fs') : PySem.W.kitOne K (.ref C) (.ref D) = some (decide (C = D) || bm.contains (.ref D)) := by
  unfold PySem.W.kitOne
  by_cases e : C = D
  · subst e
    rw [if_pos (by simp)]
    simp
  · have ne : (Value.ref C == Value.ref D) = false := by simpa using e
    rw [ne, if_neg Bool.false_ne_true]
    obtain ⟨cd, hc, hm⟩ := x.cd
    obtain ⟨cd', hc', _⟩ := y.cd
    have e2 : ((PySem.W.clsIn K D).isSome && PySem.W.typeIn K (.ref D) == some (.type "type")) = true := by rw [hc', y.ox.tyC] <;> rfl
    show (if ((PySem.W.clsIn K D).isSome && PySem.W.typeIn K (.ref D) == some (.type "type")) = true then PySem.W.subIn K (.ref C) (.ref D) else none) = _
    rw [if_pos e2]
    show PySem.W.mroIn K C (.ref D) = _
    unfold PySem.W.mroIn
    rw [hc]
    show (if cd.mro.isEmpty = true then none else some (cd.mro.contains (.ref D))) = _
    rw [hm]
    have ne2 : (Value.ref D == Value.ref C) = false := by
      have : ¬ D = C := fun z => e z.symm
      simpa using this
    have ne3 : ¬ D = C := fun z => e z.symm
    simp [List.contains_cons, ne2, e, ne3]
theorem kit_bt {K : PySem.W.Frag} {C : Addr} {bm : List Value} {fs : List Str} {T : String} (x : XC K C bm fs) (hT : PySem.W.kitMeta T = true) : PySem.W.kitOne K (.ref C) (.type T) = some (bm.contains (.type T)) := by
  unfold PySem.W.kitOne
  have ne : (Value.ref C == Value.type T) = false := beq_eq_false_iff_ne.mpr (fun z => by cases z)
  rw [ne, if_neg Bool.false_ne_true]
  obtain ⟨cd, hc, hm⟩ := x.cd
  show (if PySem.W.kitMeta T = true then PySem.W.subIn K (.ref C) (.type T) else none) = _
  rw [if_pos hT]
  show PySem.W.mroIn K C (.type T) = _
  unfold PySem.W.mroIn
  rw [hc]
  show (if cd.mro.isEmpty = true then none else some (cd.mro.contains (.type T))) = _
  rw [hm]
  have ne2 : (Value.type T == Value.ref C) = false := beq_eq_false_iff_ne.mpr (fun z => by cases z)
  simp [List.contains_cons, ne2]
end Hm
set_option maxHeartbeats 4000000
/-! facts looked at over small pieces of the heap, carried to the whole -/
namespace Hm
open PySem PySem.Spec PyProof.Rows L2 He
def Sub (K1 K2 : PySem.W.Frag) : Prop := ∀ a o, K1.lookup a = some o → K2.lookup a = some o
section
variable {K1 K2 : PySem.W.Frag}
theorem Sub.cls (s : Sub K1 K2) {C : Addr} {cd : ClassData} (h : PySem.W.clsIn K1 C = some cd) : PySem.W.clsIn K2 C = some cd := by
  unfold PySem.W.clsIn at h ⊢
  split at h
  · rename_i c d cd' sl ho
    rw [s _ _ ho]
    exact h
  · cases h
theorem Sub.typ (s : Sub K1 K2) {a : Addr} {t : Value} (h : PySem.W.typeIn K1 (.ref a) = some t) : PySem.W.typeIn K2 (.ref a) = some t := by
  obtain ⟨o, ho, e⟩ := Option.map_eq_some_iff.mp h
  show (K2.lookup a).map _ = _
  rw [s _ _ ho]
  exact congrArg some e
theorem Sub.typeV (s : Sub K1 K2) {v t : Value} (h : PySem.W.typeIn K1 v = some t) : PySem.W.typeIn K2 v = some t := by
  cases v with
  | ref a => exact s.typ h
  | _ => exact h
theorem Sub.ns (s : Sub K1 K2) {N : Addr} {x : Str} {r : Option Value} (h : PySem.W.nsIn K1 N x = some r) : PySem.W.nsIn K2 N x = some r := by
  unfold PySem.W.nsIn at h ⊢
  split at h
  · rename_i c d es n sl ho
    rw [s _ _ ho]
    exact h
  · cases h
theorem Sub.own (s : Sub K1 K2) {x : Str} {v : Value} {r : Option Value} (h : PySem.W.ownIn K1 x v = some r) : PySem.W.ownIn K2 x v = some r := by
  cases v with
  | ref a =>
    unfold PySem.W.ownIn at h ⊢
    dsimp only at h ⊢
    split at h
    · rename_i c d cd sl ho
      rw [s _ _ ho]
      exact s.ns h
    · cases h
  | _ => exact h
theorem Sub.along (s : Sub K1 K2) {x : Str} : ∀ {l : List Value} {r : Option Value}, PySem.W.alongIn K1 x l = some r → PySem.W.alongIn K2 x l = some r
  | [], _, h => h
  | c :: l, r, h => by
    unfold PySem.W.alongIn at h ⊢
    cases e : PySem.W.ownIn K1 x c with
    | none =>
      rw [e] at h
      cases h
    | some q =>
      rw [e] at h
      rw [s.own e]
      cases q with
      | none => exact Sub.along s h
      | some v => exact h
theorem Sub.find (s : Sub K1 K2) {v : Value} {x : Str} {r : Option Value} (h : PySem.W.findIn K1 v x = some r) : PySem.W.findIn K2 v x = some r := by
  cases v with
  | ref a =>
    unfold PySem.W.findIn at h ⊢
    dsimp only at h ⊢
    split at h
    · rename_i c d cd sl ho
      rw [s _ _ ho]
      exact s.along h
    · cases h
  | _ => exact h
theorem Sub.mro (s : Sub K1 K2) {C : Addr} {b : Value} {r : Bool} (h : PySem.W.mroIn K1 C b = some r) : PySem.W.mroIn K2 C b = some r := by
  obtain ⟨cd, hc, e⟩ := Option.bind_eq_some_iff.mp h
  show (PySem.W.clsIn K2 C).bind _ = _
  rw [s.cls hc]
  exact e
theorem Sub.sub (s : Sub K1 K2) {t b : Value} {r : Bool} (h : PySem.W.subIn K1 t b = some r) : PySem.W.subIn K2 t b = some r := by
  cases t with
  | ref C => exact s.mro h
  | _ => exact h
theorem Sub.special (s : Sub K1 K2) {v : Value} {x : Str} {r : Option Value} (h : PySem.W.specialIn K1 v x = some r) : PySem.W.specialIn K2 v x = some r := by
  obtain ⟨t, ht, e⟩ := Option.bind_eq_some_iff.mp h
  show (PySem.W.typeIn K2 v).bind _ = _
  rw [s.typeV ht]
  exact s.find e
theorem Sub.keep (s : Sub K1 K2) {v : Value} (h : PySem.W.keepIn K1 v = true) : PySem.W.keepIn K2 v = true := by
  cases v with
  | ref a =>
    unfold PySem.W.keepIn at h ⊢
    dsimp only at h ⊢
    split at h
    · rename_i ho
      rw [s _ _ ho]
    · rename_i ho
      rw [s _ _ ho]
      have e : PySem.W.specialIn K1 (.ref a) "__call__" = some (some (.builtin "type.__call__")) := eq_of_beq h
      rw [s.special e]
      rfl
    · cases h
  | _ => exact h
theorem Sub.hasDict (s : Sub K1 K2) {C : Addr} (h : PySem.W.hasDictIn K1 C = true) : PySem.W.hasDictIn K2 C = true := by
  obtain ⟨cd, hc, e⟩ := PySem.W.any_some h
  unfold PySem.W.hasDictIn
  rw [s.cls hc]
  exact e
theorem Sub.code (s : Sub K1 K2) {cd : Value} {q : Str} (h : PySem.W.codeIn K1 cd q = true) : PySem.W.codeIn K2 cd q = true := by
  cases cd with
  | ref c =>
    unfold PySem.W.codeIn at h ⊢
    dsimp only at h ⊢
    split at h
    · rename_i ho
      rw [s _ _ ho]
      exact h
    · cases h
  | _ => exact h
theorem Sub.nsOk (s : Sub K1 K2) {N : Addr} (h : PySem.W.nsOkIn K1 N = true) : PySem.W.nsOkIn K2 N = true := by
  unfold PySem.W.nsOkIn at h ⊢
  split at h
  · rename_i ho
    rw [s _ _ ho]
    exact h
  · cases h
theorem Sub.tail (s : Sub K1 K2) {bm : List Value} : ∀ {l : List Value}, PySem.W.tailIn K1 bm l = true → PySem.W.tailIn K2 bm l = true
  | [], h => h
  | v :: r, h => by
    unfold PySem.W.tailIn at h ⊢
    rcases Bool.or_eq_true_iff.mp h with h | h
    · rw [h, Bool.true_or]
    · refine Bool.or_eq_true_iff.mpr (.inr ?_)
      cases v with
      | ref A =>
        dsimp only at h ⊢
        split at h
        · rename_i ho
          rw [s _ _ ho]
          obtain ⟨h1, h3⟩ := ba h
          obtain ⟨h1, h2⟩ := ba h1
          have e := eq_of_beq h2
          show (PySem.W.nsOkIn K2 _ && PySem.W.nsIn K2 _ "__init__" == some none && PySem.W.tailIn K2 bm r) = true
          rw [s.nsOk h1, s.ns e, Sub.tail s h3]
          rfl
        · cases h
      | _ => cases h
theorem Sub.exc (s : Sub K1 K2) {C : Addr} {bm : List Value} {n : String} (h : PySem.W.excIn K1 C bm n = true) : PySem.W.excIn K2 C bm n = true := by
  unfold PySem.W.excIn at h ⊢
  split at h
  · rename_i dd cd sl ho
    rw [s _ _ ho]
    split at h
    · rename_i hm hs
      simp only [hm, hs]
      obtain ⟨h, h6⟩ := ba h
      obtain ⟨h, h5⟩ := ba h
      obtain ⟨h, h4⟩ := ba h
      rw [h, s.tail h4, s.nsOk h5, s.ns (eq_of_beq h6)]
      rfl
    · cases h
  · cases h
theorem Sub.takes (s : Sub K1 K2) {a : Value} {r : Bool} (h : PySem.W.takesIn K1 a = some r) : PySem.W.takesIn K2 a = some r := by
  unfold PySem.W.takesIn at h ⊢
  split at h
  · rename_i q
    rw [s.special q]
    exact h
  · rename_i q
    rw [s.special q]
    obtain ⟨y, hy, e⟩ := Option.map_eq_some_iff.mp h
    show (PySem.W.specialIn K2 a "__delete__").map _ = _
    rw [s.special hy]
    exact congrArg some e
  · cases h
theorem Sub.xc (s : Sub K1 K2) {C : Addr} {bm : List Value} {fs : List Str} (x : XC K1 C bm fs) : XC K2 C bm fs := by
  obtain ⟨⟨⟨nm, q, N, bs, bm', sn, sub, ab, col, dd, k0, k1, k2, k3, k5, hC, hbm⟩, a1, a2, a3, a4⟩, ⟨b1, b2, b3, b4, b5, b6, b7, b8⟩, ⟨cd, hc, hm⟩, no⟩ := x
  exact ⟨⟨⟨nm, q, N, bs, bm', sn, sub, ab, col, dd, k0, k1, k2, k3, k5, s _ _ hC, hbm⟩, s.find a1, s.sub a2, s.typ a3, s.keep a4⟩, ⟨s.find b1, s.find b2, s.sub b3, s.hasDict b4, s.find b5, s.special b6, s.takes b7, s.mro b8⟩, ⟨cd, s.cls hc, hm⟩, fun f hf => s.find (no f hf)⟩
theorem Sub.fund (s : Sub K1 K2) {x qual : Str} {params : Arguments} {body : List Stmt} {scope : Scope} {f : Addr} {fd : FuncData} (F : FunD K1 x qual params body scope [] [] f fd) : FunD K2 x qual params body scope [] [] f fd := by
  obtain ⟨⟨oc, od, dV, kV, doc, pm, an, cdv, ct, osl, rfl, lk, hcd, hD, hK⟩, kp⟩ := F
  refine ⟨⟨oc, od, dV, kV, doc, pm, an, cdv, ct, osl, rfl, s _ _ lk, s.code hcd, ?_, .inl rfl⟩, s.keep kp⟩
  rcases hD with ⟨_, e⟩ | ⟨e, _⟩
  · exact .inl ⟨rfl, e⟩
  · exact absurd rfl e
end
/-! ### pieces of the heap -/
theorem frG_mem {g : Addr → Option Obj} {a : Addr} {o : Obj} : ∀ {as : List Addr}, a ∈ as → g a = some o → (frG g as).lookup a = some o
  | [], h, _ => nomatch h
  | b :: r, h, e => by
    unfold frG
    rw [List.filterMap_cons]
    by_cases hb : a = b
    · subst hb
      rw [e]
      show (List.lookup a ((a, o) :: _)) = some o
      simp [List.lookup]
    · have hr : a ∈ r := by
        rcases List.mem_cons.mp h with q | q
        · exact absurd q hb
        · exact q
      have ih := frG_mem hr e
      unfold frG at ih
      cases hg : g b with
      | none => exact ih
      | some ob =>
        show (List.lookup a ((b, ob) :: _)) = some o
        have ne : (a == b) = false := by simpa using hb
        simp only [List.lookup, ne]
        exact ih
theorem frG_keys {g : Addr → Option Obj} {a : Addr} {o : Obj} : ∀ {as : List Addr}, (frG g as).lookup a = some o → a ∈ as
  | [], h => by cases h
  | b :: r, h => by
    by_cases hb : a = b
    · rw [hb]
      exact List.mem_cons_self ..
    · refine List.mem_cons_of_mem _ (frG_keys (g := g) (o := o) ?_)
      unfold frG at h ⊢
      rw [List.filterMap_cons] at h
      cases hg : g b with
      | none =>
        rw [hg] at h
        exact h
      | some ob =>
        rw [hg] at h
        have ne : (a == b) = false := by simpa using hb
        have h2 : List.lookup a ((b, ob) :: r.filterMap fun a => (g a).map fun o => (a, o)) = some o := h
        simp only [List.lookup, ne] at h2
        exact h2
theorem sub_of {g : Addr → Option Obj} {as bs : List Addr} (h : ∀ a ∈ as, a ∈ bs) : Sub (frG g as) (frG g bs) := fun a o e => frG_mem (h a (frG_keys e)) (frG_at as e)
def growFrom (g : Addr → Option Obj) : Nat → List Addr → List Addr
  | 0, as => as
  | n + 1, as => growFrom g n (growD g as)
def gaG (g : Addr → Option Obj) (x : Str) : Addr := ga (frG g [mainGlobals]) x
/-- one name of the module: what is looked at, n steps from its object -/
structure Itm where
  x : Str
  n : Nat
  ck : (Str → Addr) → PySem.W.Frag → Addr → Bool
def Itm.as (g : Addr → Option Obj) (i : Itm) : List Addr := growFrom g i.n [gaG g i.x]
def Itm.ok (g : Addr → Option Obj) (i : Itm) : Bool := eqO (PySem.W.nsIn (frG g [mainGlobals]) mainGlobals i.x) (some (some (.ref (gaG g i.x)))) && i.ck (gaG g) (frG g (i.as g)) (gaG g i.x)
/-- one def, or one __init__ -/
structure Fn where
  x : Str
  m : Option Str
  name : Str
  qual : Str
  params : Arguments
  body : List Stmt
  scope : Scope
def Fn.adr (g : Addr → Option Obj) (d : Fn) : Addr := match d.m with
  | none => gaG g d.x
  | some m => ma (frG g (growFrom g 2 [gaG g d.x])) (gaG g d.x) m
def Fn.as (g : Addr → Option Obj) (d : Fn) : List Addr := growFrom g 1 [d.adr g]
def Fn.as2 (g : Addr → Option Obj) (d : Fn) : List Addr := match d.m with
  | none => []
  | some _ => growFrom g 2 [gaG g d.x]
def fnB (K : PySem.W.Frag) (a : Addr) (q : Str) : Bool := PySem.W.keepIn K (.ref a) && (match K.lookup a with
  | some ⟨_, _, .func fd, _⟩ => PySem.W.codeIn K fd.code q && dflB K fd.defaults []
  | _ => false)
def Fn.ok (g : Addr → Option Obj) (d : Fn) : Bool := fnB (frG g (d.as g)) (d.adr g) d.qual && (match d.m with
  | none => true
  | some m => eqO (PySem.W.findIn (frG g (growFrom g 2 [gaG g d.x])) (.ref (gaG g d.x)) m) (some (some (.ref (d.adr g)))))
def Fn.w (g : Addr → Option Obj) (d : Fn) : FnW := match g (d.adr g) with
  | some ⟨_, _, .func fd, _⟩ => some (fd.name, fd.qualname, fd.params, fd.body, fd.scope, fd.globals, fd.closure, fd.builtins)
  | _ => none
def Fn.val (d : Fn) : FnW := some (d.name, d.qual, d.params, .stmts d.body, d.scope, mainGlobals, [], builtinsNs)
theorem Fn.fund {g : Addr → Option Obj} {d : Fn} (e : d.w g = d.val) (c : d.ok g = true) : ∃ fd, FunD (frG g (d.as g)) d.name d.qual d.params d.body d.scope [] [] (d.adr g) fd := by
  obtain ⟨kp, c2⟩ := ba (show (PySem.W.keepIn (frG g (d.as g)) (.ref (d.adr g)) && _) = true from (ba c).1)
  cases q : (frG g (d.as g)).lookup (d.adr g) with
  | none =>
    rw [q] at c2
    cases c2
  | some o =>
    have hg := frG_at _ q
    unfold Fn.w at e
    rw [hg] at e
    obtain ⟨oc, od, dt, osl⟩ := o
    rw [q] at c2
    cases dt with
    | func fd =>
      obtain ⟨n1, n2, n3, n4, n5, n6, n7, n8, n9, n10, n11, n12, n13, n14, n15⟩ := fd
      have e2 : (some (n1, n2, n3, n4, n5, n6, n7, n15) : FnW) = some (d.name, d.qual, d.params, .stmts d.body, d.scope, mainGlobals, [], builtinsNs) := e
      simp only [Option.some.injEq, Prod.mk.injEq] at e2
      obtain ⟨h1, h2, h3, h4, h5, h6, h7, h8⟩ := e2
      subst h1 h2 h3 h4 h5 h6 h7 h8
      obtain ⟨k1, k3⟩ := ba (show (PySem.W.codeIn (frG g (d.as g)) n13 d.qual && dflB (frG g (d.as g)) n8 []) = true from c2)
      exact ⟨_, ⟨oc, od, n8, n9, n10, n11, n12, n13, n14, osl, rfl, q, k1, dflB_ok k3, .inl rfl⟩, kp⟩
    | _ => cases c2
/-! ### the Hook -/
def obsS (its : List Itm) (fns : List Fn) (frees : List Str) (ex : (Str → Addr) → Bool) (g : Addr → Option Obj) : AlD :=
  (its.all (Itm.ok g) && (fns.all (Fn.ok g) && (frees.all (fun x => eqO (PySem.W.nsIn (frG g [mainGlobals]) mainGlobals x) (some none)) && ex (gaG g))), fns.map (Fn.w g))
def wholeK (its : List Itm) (fns : List Fn) (g : Addr → Option Obj) : PySem.W.Frag := frG g (mainGlobals :: (its.flatMap (Itm.as g) ++ (fns.flatMap (Fn.as g) ++ fns.flatMap (Fn.as2 g))))
/-- what the end leans on -/
structure SaysS (its : List Itm) (fns : List Fn) (frees : List Str) (ex : (Str → Addr) → Bool) (K : PySem.W.Frag) : Prop where
  glo : ∀ (j : Nat) (i : Itm), its[j]? = some i → PySem.W.nsIn K mainGlobals i.x = some (some (.ref (ga K i.x)))
  it : ∃ γ : Str → Addr, (∀ (j : Nat) (i : Itm), its[j]? = some i → γ i.x = ga K i.x ∧ ∃ K1, Sub K1 K ∧ i.ck γ K1 (ga K i.x) = true) ∧ ex γ = true
  fn : ∀ (j : Nat) (d : Fn), fns[j]? = some d → (∃ (k : Nat) (i : Itm), its[k]? = some i ∧ i.x = d.x) → ∃ (a : Addr) (fd : FuncData), FunD K d.name d.qual d.params d.body d.scope [] [] a fd ∧ (d.m = none → a = ga K d.x) ∧ ∀ m, d.m = some m → PySem.W.findIn K (.ref (ga K d.x)) m = some (some (.ref a))
  free : ∀ x ∈ frees, PySem.W.nsIn K mainGlobals x = some none
theorem says_of {its : List Itm} {fns : List Fn} {frees : List Str} {ex : (Str → Addr) → Bool} {g : Addr → Option Obj} (e : obsS its fns frees ex g = (true, fns.map Fn.val)) : SaysS its fns frees ex (wholeK its fns g) := by
  have e1 : (its.all (Itm.ok g) && (fns.all (Fn.ok g) && (frees.all (fun x => eqO (PySem.W.nsIn (frG g [mainGlobals]) mainGlobals x) (some none)) && ex (gaG g)))) = true := congrArg (fun z : AlD => z.1) e
  have e2 : fns.map (Fn.w g) = fns.map Fn.val := congrArg (fun z : AlD => z.2) e
  obtain ⟨c1, c2⟩ := ba e1
  obtain ⟨c2, c3⟩ := ba c2
  obtain ⟨c3, c4⟩ := ba c3
  have s0 : Sub (frG g [mainGlobals]) (wholeK its fns g) := sub_of fun a h => by
    have : a = mainGlobals := by simpa using h
    rw [this]
    exact List.mem_cons_self ..
  have gl : ∀ (j : Nat) (i : Itm), its[j]? = some i → PySem.W.nsIn (wholeK its fns g) mainGlobals i.x = some (some (.ref (gaG g i.x))) := fun j i h =>
    s0.ns (eqO_ok (ba (List.all_eq_true.mp c1 i (List.mem_of_getElem? h))).1)
  have ge : ∀ (j : Nat) (i : Itm), its[j]? = some i → gaG g i.x = ga (wholeK its fns g) i.x := fun j i h => by
    unfold ga
    rw [gl j i h]
  refine ⟨fun j i h => by rw [← ge j i h]; exact gl j i h, ⟨gaG g, fun j i h => ⟨ge j i h, frG g (i.as g), ?_, ?_⟩, c4⟩, fun j d h hx => ?_, fun x hx => s0.ns (eqO_ok (List.all_eq_true.mp c3 x hx))⟩
  · exact sub_of fun a ha => List.mem_cons_of_mem _ (List.mem_append_left _ (List.mem_flatMap.mpr ⟨i, List.mem_of_getElem? h, ha⟩))
  · rw [← ge j i h]
    exact (ba (List.all_eq_true.mp c1 i (List.mem_of_getElem? h))).2
  · have e3 : (fns.map (Fn.w g))[j]? = (fns.map Fn.val)[j]? := by rw [e2]
    rw [List.getElem?_map, List.getElem?_map, h] at e3
    obtain ⟨fd, F⟩ := Fn.fund (Option.some.inj e3) (List.all_eq_true.mp c2 d (List.mem_of_getElem? h))
    have sd : Sub (frG g (d.as g)) (wholeK its fns g) := sub_of fun a ha => List.mem_cons_of_mem _ (List.mem_append_right _ (List.mem_append_left _ (List.mem_flatMap.mpr ⟨d, List.mem_of_getElem? h, ha⟩)))
    obtain ⟨k, i, hk, hix⟩ := hx
    have gx : gaG g d.x = ga (wholeK its fns g) d.x := by
      rw [← hix]
      exact ge k i hk
    refine ⟨d.adr g, fd, sd.fund F, fun hm => ?_, fun m hm => ?_⟩
    · unfold Fn.adr
      rw [hm, ← gx]
    · have sm : Sub (frG g (growFrom g 2 [gaG g d.x])) (wholeK its fns g) := sub_of fun a ha => List.mem_cons_of_mem _ (List.mem_append_right _ (List.mem_append_right _ (List.mem_flatMap.mpr ⟨d, List.mem_of_getElem? h, by
        unfold Fn.as2
        rw [hm]
        exact ha⟩)))
      have q := (ba (List.all_eq_true.mp c2 d (List.mem_of_getElem? h))).2
      rw [hm] at q
      have z := sm.find (eqO_ok q)
      rw [gx] at z
      exact z
def hookS (its : List Itm) (fns : List Fn) (frees : List Str) (ex : (Str → Addr) → Bool) : PySem.W.Hook where
  α := AlD
  obs := fun s => obsS its fns frees ex s.heap.get?
  val := fun _ => (true, fns.map Fn.val)
  says := fun _ h => ∃ K : PySem.W.Frag, K.In h ∧ SaysS its fns frees ex K
  of := fun _ _ e => ⟨_, frG_in, says_of e⟩
  keeps := fun _ _ _ ⟨K, hK, c⟩ k => ⟨K, PySem.W.Frag.In.keeps hK k, c⟩
theorem obsS_eq {its : List Itm} {fns : List Fn} {frees : List Str} {ex : (Str → Addr) → Bool} {g : Addr → Option Obj} {s : Shared} (h : ∀ a, g a = s.heap.get? a) : obsS its fns frees ex g = (hookS its fns frees ex).obs s := by
  have e : g = s.heap.get? := funext h
  rw [e] <;> rfl
end Hm
set_option maxHeartbeats 4000000
/-! facts looked at over small pieces of the heap: own classes, defs with defaults -/
namespace Hu
open PySem PySem.Spec PyProof.Rows L2 He Hm
section
variable {K1 K2 : PySem.W.Frag}
theorem inst (s : Sub K1 K2) {v b : Value} {r : Bool} (h : PySem.W.instIn K1 v b = some r) : PySem.W.instIn K2 v b = some r := by
  obtain ⟨t, ht, e⟩ := Option.bind_eq_some_iff.mp h
  show (PySem.W.typeIn K2 v).bind _ = _
  rw [s.typeV ht]
  exact s.sub e
theorem isFn (s : Sub K1 K2) {v : Value} (h : PySem.W.isFn K1 v = true) : PySem.W.isFn K2 v = true := by
  have e := eq_of_beq (show (PySem.W.typeIn K1 v == some (.type "function")) = true from h)
  show (PySem.W.typeIn K2 v == some (.type "function")) = true
  rw [s.typeV e]
  rfl
theorem makes (s : Sub K1 K2) {C : Addr} (h : PySem.W.makesIn K1 C = true) : PySem.W.makesIn K2 C = true := by
  unfold PySem.W.makesIn at h ⊢
  split at h
  · rename_i oc od cd sl ho
    rw [s _ _ ho]
    obtain ⟨h, h2⟩ := ba h
    obtain ⟨h, h1⟩ := ba h
    dsimp only
    rw [h, s.special (eq_of_beq h1), inst s (eq_of_beq h2)]
    rfl
  · cases h
theorem plainGet (s : Sub K1 K2) {C : Addr} {x : Str} (h : PySem.W.plainGet K1 C x = true) : PySem.W.plainGet K2 C x = true := by
  obtain ⟨h1, h2⟩ := ba (show (PySem.W.findIn K1 (.ref C) "__getattribute__" == some (some (.builtin "object.__getattribute__")) && PySem.W.findIn K1 (.ref C) "__getattr__" == some none) = true from h)
  show (PySem.W.findIn K2 (.ref C) "__getattribute__" == some (some (.builtin "object.__getattribute__")) && PySem.W.findIn K2 (.ref C) "__getattr__" == some none) = true
  rw [s.find (eq_of_beq h1), s.find (eq_of_beq h2)]
  rfl
theorem plainOver (s : Sub K1 K2) {C : Addr} (h : PySem.W.plainOver K1 C = true) : PySem.W.plainOver K2 C = true := by
  obtain ⟨cd, hc, e⟩ := PySem.W.any_some h
  unfold PySem.W.plainOver
  rw [s.cls hc]
  exact e
theorem cls (s : Sub K1 K2) {C : Addr} (c : Cls K1 C) : Cls K2 C := ⟨plainGet s c.pg, s.hasDict c.hd, plainOver s c.po, s.find c.sa⟩
theorem insC (s : Sub K1 K2) {C : Addr} (c : C8.InsC K1 C) : C8.InsC K2 C := by
  refine ⟨cls s c.cl, s.find c.ha, s.special c.hn, s.takes c.htk, s.mro c.hm, ?_⟩
  unfold PySem.W.kitOne
  rw [if_pos (by simp)]
theorem mk (s : Sub K1 K2) {C f : Addr} (m : Mk K1 C f) : Mk K2 C f := ⟨makes s m.makes, s.find m.init, isFn s m.fn, s.keep m.kp⟩
theorem dflV (s : Sub K1 K2) {v : Value} {ds : List V} (h : DflV K1 v ds) : DflV K2 v ds := by
  rcases h with h | ⟨h, T, o, its, n, e, l, d, r⟩
  · exact .inl h
  · exact .inr ⟨h, T, o, its, n, e, s _ _ l, d, r⟩
theorem fund (s : Sub K1 K2) {x qual : Str} {params : Arguments} {body : List Stmt} {scope : Scope} {ds : List V} {f : Addr} {fd : FuncData} (F : FunD K1 x qual params body scope ds [] f fd) : FunD K2 x qual params body scope ds [] f fd := by
  obtain ⟨⟨oc, od, dV, kV, doc, pm, an, cdv, ct, osl, rfl, lk, hcd, hD, hK⟩, kp⟩ := F
  exact ⟨⟨oc, od, dV, kV, doc, pm, an, cdv, ct, osl, rfl, s _ _ lk, s.code hcd, dflV s hD, .inl rfl⟩, s.keep kp⟩
end
/-! ### one def, one method, with its defaults -/
structure Fn where
  x : Str
  m : Option Str
  name : Str
  qual : Str
  params : Arguments
  body : List Stmt
  scope : Scope
  dfl : List V
  pr : Bool := false
/-- a property's getter -/
def prA (K : PySem.W.Frag) (p : Addr) : Addr := match PySem.W.recIn K p "property" with
  | some (.ref g :: _) => g
  | _ => p
def prB (K : PySem.W.Frag) (C : Addr) (m : Str) (a : Addr) : Bool := match PySem.W.findIn K (.ref C) m with
  | some (some (.ref p)) => eqO (PySem.W.specialIn K (.ref p) "__get__") (some (some (.builtin "property.__get__"))) && (decide (PySem.W.takesIn K (.ref p) = some true) && (match PySem.W.recIn K p "property" with
    | some (.ref g :: _) => decide (g = a)
    | _ => false))
  | _ => false
theorem recS {K1 K2 : PySem.W.Frag} (s : Sub K1 K2) {p : Addr} {T : String} {vs : List Value} (h : PySem.W.recIn K1 p T = some vs) : PySem.W.recIn K2 p T = some vs := by
  unfold PySem.W.recIn at h ⊢
  split at h
  · rename_i n d ws sl ho
    rw [s _ _ ho]
    exact h
  · cases h
theorem prB_ok {K1 K2 : PySem.W.Frag} (s : Sub K1 K2) {C : Addr} {m : Str} {a : Addr} (h : prB K1 C m a = true) : ∃ p, PropOf K2 C m p a := by
  unfold prB at h
  split at h
  · rename_i p hp
    obtain ⟨h1, h⟩ := ba h
    obtain ⟨h2, h3⟩ := ba h
    split at h3
    · rename_i g rest hr
      have e := of_decide_eq_true h3
      subst e
      exact ⟨p, s.find hp, s.special (eqO_ok h1), s.takes (of_decide_eq_true h2), rest, recS s hr⟩
    · cases h3
  · cases h
def Fn.adr (g : Addr → Option Obj) (d : Fn) : Addr := match d.m with
  | none => gaG g d.x
  | some m => if d.pr then prA (frG g (growFrom g 2 [gaG g d.x])) (ma (frG g (growFrom g 2 [gaG g d.x])) (gaG g d.x) m) else ma (frG g (growFrom g 2 [gaG g d.x])) (gaG g d.x) m
def Fn.as (g : Addr → Option Obj) (d : Fn) : List Addr := growFrom g 1 [d.adr g]
def Fn.as2 (g : Addr → Option Obj) (d : Fn) : List Addr := match d.m with
  | none => []
  | some _ => growFrom g 2 [gaG g d.x]
def fnB (K : PySem.W.Frag) (a : Addr) (q : Str) (ds : List V) : Bool := PySem.W.keepIn K (.ref a) && (match K.lookup a with
  | some ⟨_, _, .func fd, _⟩ => PySem.W.codeIn K fd.code q && dflB K fd.defaults ds
  | _ => false)
def Fn.ok (g : Addr → Option Obj) (d : Fn) : Bool := fnB (frG g (d.as g)) (d.adr g) d.qual d.dfl && (match d.m with
  | none => true
  | some m => if d.pr then prB (frG g (growFrom g 2 [gaG g d.x])) (gaG g d.x) m (d.adr g) else eqO (PySem.W.findIn (frG g (growFrom g 2 [gaG g d.x])) (.ref (gaG g d.x)) m) (some (some (.ref (d.adr g)))))
def Fn.w (g : Addr → Option Obj) (d : Fn) : FnW := match g (d.adr g) with
  | some ⟨_, _, .func fd, _⟩ => some (fd.name, fd.qualname, fd.params, fd.body, fd.scope, fd.globals, fd.closure, fd.builtins)
  | _ => none
def Fn.val (d : Fn) : FnW := some (d.name, d.qual, d.params, .stmts d.body, d.scope, mainGlobals, [], builtinsNs)
theorem Fn.fund {g : Addr → Option Obj} {d : Fn} (e : d.w g = d.val) (c : d.ok g = true) : ∃ fd, FunD (frG g (d.as g)) d.name d.qual d.params d.body d.scope d.dfl [] (d.adr g) fd := by
  obtain ⟨kp, c2⟩ := ba (show (PySem.W.keepIn (frG g (d.as g)) (.ref (d.adr g)) && _) = true from (ba c).1)
  cases q : (frG g (d.as g)).lookup (d.adr g) with
  | none =>
    rw [q] at c2
    cases c2
  | some o =>
    have hg := frG_at _ q
    unfold Fn.w at e
    rw [hg] at e
    obtain ⟨oc, od, dt, osl⟩ := o
    rw [q] at c2
    cases dt with
    | func fd =>
      obtain ⟨n1, n2, n3, n4, n5, n6, n7, n8, n9, n10, n11, n12, n13, n14, n15⟩ := fd
      have e2 : (some (n1, n2, n3, n4, n5, n6, n7, n15) : FnW) = some (d.name, d.qual, d.params, .stmts d.body, d.scope, mainGlobals, [], builtinsNs) := e
      simp only [Option.some.injEq, Prod.mk.injEq] at e2
      obtain ⟨h1, h2, h3, h4, h5, h6, h7, h8⟩ := e2
      subst h1 h2 h3 h4 h5 h6 h7 h8
      obtain ⟨k1, k3⟩ := ba (show (PySem.W.codeIn (frG g (d.as g)) n13 d.qual && dflB (frG g (d.as g)) n8 d.dfl) = true from c2)
      exact ⟨_, ⟨oc, od, n8, n9, n10, n11, n12, n13, n14, osl, rfl, q, k1, dflB_ok k3, .inl rfl⟩, kp⟩
    | _ => cases c2
/-! ### the Hook -/
def obsS (its : List Itm) (fns : List Fn) (frees : List Str) (ex : (Str → Addr) → Bool) (g : Addr → Option Obj) : AlD :=
  (its.all (Itm.ok g) && (fns.all (Fn.ok g) && (frees.all (fun x => eqO (PySem.W.nsIn (frG g [mainGlobals]) mainGlobals x) (some none)) && ex (gaG g))), fns.map (Fn.w g))
def wholeK (its : List Itm) (fns : List Fn) (g : Addr → Option Obj) : PySem.W.Frag := frG g (mainGlobals :: (its.flatMap (Itm.as g) ++ (fns.flatMap (Fn.as g) ++ fns.flatMap (Fn.as2 g))))
/-- what the end leans on -/
structure SaysS (its : List Itm) (fns : List Fn) (frees : List Str) (ex : (Str → Addr) → Bool) (K : PySem.W.Frag) : Prop where
  glo : ∀ (j : Nat) (i : Itm), its[j]? = some i → PySem.W.nsIn K mainGlobals i.x = some (some (.ref (ga K i.x)))
  it : ∃ γ : Str → Addr, (∀ (j : Nat) (i : Itm), its[j]? = some i → γ i.x = ga K i.x ∧ ∃ K1, Sub K1 K ∧ i.ck γ K1 (ga K i.x) = true) ∧ ex γ = true
  fn : ∀ (j : Nat) (d : Fn), fns[j]? = some d → (∃ (k : Nat) (i : Itm), its[k]? = some i ∧ i.x = d.x) → ∃ (a : Addr) (fd : FuncData), FunD K d.name d.qual d.params d.body d.scope d.dfl [] a fd ∧ (d.m = none → a = ga K d.x) ∧ (∀ m, d.m = some m → d.pr = false → PySem.W.findIn K (.ref (ga K d.x)) m = some (some (.ref a))) ∧ ∀ m, d.m = some m → d.pr = true → ∃ p, PropOf K (ga K d.x) m p a
  free : ∀ x ∈ frees, PySem.W.nsIn K mainGlobals x = some none
theorem says_of {its : List Itm} {fns : List Fn} {frees : List Str} {ex : (Str → Addr) → Bool} {g : Addr → Option Obj} (e : obsS its fns frees ex g = (true, fns.map Fn.val)) : SaysS its fns frees ex (wholeK its fns g) := by
  have e1 : (its.all (Itm.ok g) && (fns.all (Fn.ok g) && (frees.all (fun x => eqO (PySem.W.nsIn (frG g [mainGlobals]) mainGlobals x) (some none)) && ex (gaG g)))) = true := congrArg (fun z : AlD => z.1) e
  have e2 : fns.map (Fn.w g) = fns.map Fn.val := congrArg (fun z : AlD => z.2) e
  obtain ⟨c1, c2⟩ := ba e1
  obtain ⟨c2, c3⟩ := ba c2
  obtain ⟨c3, c4⟩ := ba c3
  have s0 : Sub (frG g [mainGlobals]) (wholeK its fns g) := sub_of fun a h => by
    have : a = mainGlobals := by simpa using h
    rw [this]
    exact List.mem_cons_self ..
  have gl : ∀ (j : Nat) (i : Itm), its[j]? = some i → PySem.W.nsIn (wholeK its fns g) mainGlobals i.x = some (some (.ref (gaG g i.x))) := fun j i h =>
    s0.ns (eqO_ok (ba (List.all_eq_true.mp c1 i (List.mem_of_getElem? h))).1)
  have ge : ∀ (j : Nat) (i : Itm), its[j]? = some i → gaG g i.x = ga (wholeK its fns g) i.x := fun j i h => by
    unfold ga
    rw [gl j i h]
  refine ⟨fun j i h => by rw [← ge j i h]; exact gl j i h, ⟨gaG g, fun j i h => ⟨ge j i h, frG g (i.as g), ?_, ?_⟩, c4⟩, fun j d h hx => ?_, fun x hx => s0.ns (eqO_ok (List.all_eq_true.mp c3 x hx))⟩
  · exact sub_of fun a ha => List.mem_cons_of_mem _ (List.mem_append_left _ (List.mem_flatMap.mpr ⟨i, List.mem_of_getElem? h, ha⟩))
  · rw [← ge j i h]
    exact (ba (List.all_eq_true.mp c1 i (List.mem_of_getElem? h))).2
  · have e3 : (fns.map (Fn.w g))[j]? = (fns.map Fn.val)[j]? := by rw [e2]
    rw [List.getElem?_map, List.getElem?_map, h] at e3
    obtain ⟨fd, F⟩ := Fn.fund (Option.some.inj e3) (List.all_eq_true.mp c2 d (List.mem_of_getElem? h))
    have sd : Sub (frG g (d.as g)) (wholeK its fns g) := sub_of fun a ha => List.mem_cons_of_mem _ (List.mem_append_right _ (List.mem_append_left _ (List.mem_flatMap.mpr ⟨d, List.mem_of_getElem? h, ha⟩)))
    obtain ⟨k, i, hk, hix⟩ := hx
    have gx : gaG g d.x = ga (wholeK its fns g) d.x := by
      rw [← hix]
      exact ge k i hk
    refine ⟨d.adr g, fd, Hu.fund sd F, fun hm => ?_, fun m hm hp => ?_, fun m hm hp => ?_⟩
    · unfold Fn.adr
      rw [hm, ← gx]
    · have sm : Sub (frG g (growFrom g 2 [gaG g d.x])) (wholeK its fns g) := sub_of fun a ha => List.mem_cons_of_mem _ (List.mem_append_right _ (List.mem_append_right _ (List.mem_flatMap.mpr ⟨d, List.mem_of_getElem? h, by
        unfold Fn.as2
        rw [hm]
        exact ha⟩)))
      have q := (ba (List.all_eq_true.mp c2 d (List.mem_of_getElem? h))).2
      rw [hm] at q
      dsimp only at q
      rw [hp] at q
      have z := sm.find (eqO_ok q)
      rw [gx] at z
      exact z
    · have sm : Sub (frG g (growFrom g 2 [gaG g d.x])) (wholeK its fns g) := sub_of fun a ha => List.mem_cons_of_mem _ (List.mem_append_right _ (List.mem_append_right _ (List.mem_flatMap.mpr ⟨d, List.mem_of_getElem? h, by
        unfold Fn.as2
        rw [hm]
        exact ha⟩)))
      have q := (ba (List.all_eq_true.mp c2 d (List.mem_of_getElem? h))).2
      rw [hm] at q
      dsimp only at q
      rw [hp] at q
      rw [← gx]
      exact prB_ok sm q
def hookS (its : List Itm) (fns : List Fn) (frees : List Str) (ex : (Str → Addr) → Bool) : PySem.W.Hook where
  α := AlD
  obs := fun s => obsS its fns frees ex s.heap.get?
  val := fun _ => (true, fns.map Fn.val)
  says := fun _ h => ∃ K : PySem.W.Frag, K.In h ∧ SaysS its fns frees ex K
  of := fun _ _ e => ⟨_, frG_in, says_of e⟩
  keeps := fun _ _ _ ⟨K, hK, c⟩ k => ⟨K, PySem.W.Frag.In.keeps hK k, c⟩
theorem obsS_eq {its : List Itm} {fns : List Fn} {frees : List Str} {ex : (Str → Addr) → Bool} {g : Addr → Option Obj} {s : Shared} (h : ∀ a, g a = s.heap.get? a) : obsS its fns frees ex g = (hookS its fns frees ex).obs s := by
  have e : g = s.heap.get? := funext h
  rw [e] <;> rfl
/-! ### what is looked at of an own class -/
def clsB (K : PySem.W.Frag) (C : Addr) (fs ms : List Str) : Bool :=
  PySem.W.plainGet K C Str.empty && (PySem.W.hasDictIn K C && (PySem.W.plainOver K C && (eqO (PySem.W.findIn K (.ref C) "__setattr__") (some (some (.builtin "object.__setattr__"))) &&
  (PySem.W.makesIn K C && (PySem.W.keepIn K (.ref C) && (eqO (PySem.W.findIn K (.ref C) "__class__") (some (some (.builtin "object.__class__"))) && (comB K && (decide (PySem.W.mroIn K C (.type "object") = some true) &&
  (decide (PySem.W.typeIn K (.ref C) = some (.type "type")) && ((fs.all fun f => eqO (PySem.W.findIn K (.ref C) f) (some none)) &&
  ms.all fun m => PySem.W.isFn K (.ref (ma K C m)) && eqO (PySem.W.findIn K (.ref C) m) (some (some (.ref (ma K C m))))))))))))))
structure ClsK (K : PySem.W.Frag) (C : Addr) (fs ms : List Str) : Prop where
  cl : Cls K C
  mkI : PySem.W.makesIn K C = true
  kp : PySem.W.keepIn K (.ref C) = true
  ins : C8.InsC K C
  ty : PySem.W.typeIn K (.ref C) = some (.type "type")
  cd : ∃ cd, PySem.W.clsIn K C = some cd
  no : ∀ f ∈ fs, NoAttr K C f
  me : ∀ m ∈ ms, ∃ a, PySem.W.findIn K (.ref C) m = some (some (.ref a)) ∧ PySem.W.isFn K (.ref a) = true
theorem clsK_of {K1 K : PySem.W.Frag} (s : Sub K1 K) {C : Addr} {fs ms : List Str} (h : clsB K1 C fs ms = true) : ClsK K C fs ms := by
  unfold clsB at h
  obtain ⟨a1, h⟩ := ba h
  obtain ⟨a2, h⟩ := ba h
  obtain ⟨a3, h⟩ := ba h
  obtain ⟨a4, h⟩ := ba h
  obtain ⟨a5, h⟩ := ba h
  obtain ⟨a6, h⟩ := ba h
  obtain ⟨a7, h⟩ := ba h
  obtain ⟨a8, h⟩ := ba h
  obtain ⟨a9, h⟩ := ba h
  obtain ⟨a10, h⟩ := ba h
  obtain ⟨a11, a12⟩ := ba h
  obtain ⟨c1, c2⟩ := ba a8
  have c : Cls K1 C := ⟨a1, a2, a3, eqO_ok a4⟩
  have i : C8.InsC K1 C := ⟨c, eqO_ok a7, of_decide_eq_true c1, of_decide_eq_true c2, of_decide_eq_true a9, by
    unfold PySem.W.kitOne
    rw [if_pos (by simp)]⟩
  obtain ⟨cd, hc, _⟩ := PySem.W.any_some a2
  refine ⟨cls s c, makes s a5, s.keep a6, insC s i, s.typ (of_decide_eq_true a10), ⟨cd, s.cls hc⟩, fun f hf => s.find (eqO_ok (List.all_eq_true.mp a11 f hf)), fun m hm => ?_⟩
  obtain ⟨q1, q2⟩ := ba (List.all_eq_true.mp a12 m hm)
  exact ⟨_, s.find (eqO_ok q2), isFn s q1⟩
/-- isinstance of an instance of C, of another own class D -/
theorem kit_no {K : PySem.W.Frag} {C D : Addr} {fs' ms' : List Str} (y : ClsK K D fs' ms') (ne : C ≠ D) (h : PySem.W.mroIn K C (.ref D) = some false) : PySem.W.kitOne K (.ref C) (.ref D) = some false := by
  unfold PySem.W.kitOne
  have n : (Value.ref C == Value.ref D) = false := by simpa using ne
  rw [n, if_neg Bool.false_ne_true]
  obtain ⟨cd, hc⟩ := y.cd
  have e2 : ((PySem.W.clsIn K D).isSome && PySem.W.typeIn K (.ref D) == some (.type "type")) = true := by rw [hc, y.ty] <;> rfl
  show (if ((PySem.W.clsIn K D).isSome && PySem.W.typeIn K (.ref D) == some (.type "type")) = true then PySem.W.subIn K (.ref C) (.ref D) else none) = _
  rw [if_pos e2]
  exact h
end Hu
set_option maxHeartbeats 4000000
/-! the module's constants beside what Hu looks at -/
namespace Hv
open PySem PySem.Spec PyProof.Rows L2 He Hm
inductive Cn where
  | i (n : Int)
  | s (z : Str)
def Cn.ck : Cn → Value → Bool
  | .i n, .int m _ => decide (m = n)
  | .s z, .str y _ => decide (y = z)
  | _, _ => false
theorem Cn.int {n : Int} {v : Value} (h : (Cn.i n).ck v = true) : ∃ t, v = .int n t := by
  cases v with
  | int m t => exact ⟨t, by rw [of_decide_eq_true (show decide (m = n) = true from h)]⟩
  | _ => cases h
theorem Cn.str {z : Str} {v : Value} (h : (Cn.s z).ck v = true) : ∃ t, v = .str z t := by
  cases v with
  | str y t => exact ⟨t, by rw [of_decide_eq_true (show decide (y = z) = true from h)]⟩
  | _ => cases h
def conB (K : PySem.W.Frag) (c : Str × Cn) : Bool := match PySem.W.nsIn K mainGlobals c.1 with
  | some (some v) => c.2.ck v
  | _ => false
structure SaysV (its : List Itm) (fns : List Hu.Fn) (frees : List Str) (ex : (Str → Addr) → Bool) (cs : List (Str × Cn)) (K : PySem.W.Frag) : Prop where
  s : Hu.SaysS its fns frees ex K
  con : ∀ c ∈ cs, ∃ v, PySem.W.nsIn K mainGlobals c.1 = some (some v) ∧ c.2.ck v = true
def obsS (its : List Itm) (fns : List Hu.Fn) (frees : List Str) (ex : (Str → Addr) → Bool) (cs : List (Str × Cn)) (g : Addr → Option Obj) : AlD :=
  ((Hu.obsS its fns frees ex g).1 && cs.all (conB (frG g [mainGlobals])), (Hu.obsS its fns frees ex g).2)
theorem says_of {its : List Itm} {fns : List Hu.Fn} {frees : List Str} {ex : (Str → Addr) → Bool} {cs : List (Str × Cn)} {g : Addr → Option Obj} (e : obsS its fns frees ex cs g = (true, fns.map Hu.Fn.val)) : SaysV its fns frees ex cs (Hu.wholeK its fns g) := by
  have e1 : ((Hu.obsS its fns frees ex g).1 && cs.all (conB (frG g [mainGlobals]))) = true := congrArg (fun z : AlD => z.1) e
  have e2 : (Hu.obsS its fns frees ex g).2 = fns.map Hu.Fn.val := congrArg (fun z : AlD => z.2) e
  obtain ⟨c1, c2⟩ := ba e1
  have e3 : Hu.obsS its fns frees ex g = (true, fns.map Hu.Fn.val) := Prod.ext c1 e2
  have s0 : Sub (frG g [mainGlobals]) (Hu.wholeK its fns g) := sub_of fun a h => by
    have : a = mainGlobals := by simpa using h
    rw [this]
    exact List.mem_cons_self ..
  refine ⟨Hu.says_of e3, fun c hc => ?_⟩
  have h := List.all_eq_true.mp c2 c hc
  unfold conB at h
  split at h
  · rename_i v hv
    exact ⟨v, s0.ns hv, h⟩
  · cases h
def hookS (its : List Itm) (fns : List Hu.Fn) (frees : List Str) (ex : (Str → Addr) → Bool) (cs : List (Str × Cn)) : PySem.W.Hook where
  α := AlD
  obs := fun s => obsS its fns frees ex cs s.heap.get?
  val := fun _ => (true, fns.map Hu.Fn.val)
  says := fun _ h => ∃ K : PySem.W.Frag, K.In h ∧ SaysV its fns frees ex cs K
  of := fun _ _ e => ⟨_, frG_in, says_of e⟩
  keeps := fun _ _ _ ⟨K, hK, c⟩ k => ⟨K, PySem.W.Frag.In.keeps hK k, c⟩
theorem obsS_eq {its : List Itm} {fns : List Hu.Fn} {frees : List Str} {ex : (Str → Addr) → Bool} {cs : List (Str × Cn)} {g : Addr → Option Obj} {s : Shared} (h : ∀ a, g a = s.heap.get? a) : obsS its fns frees ex cs g = (hookS its fns frees ex cs).obs s := by
  have e : g = s.heap.get? := funext h
  rw [e] <;> rfl
theorem con_int {its : List Itm} {fns : List Hu.Fn} {frees : List Str} {ex : (Str → Addr) → Bool} {cs : List (Str × Cn)} {K : PySem.W.Frag} {h : Heap} {mg : Str → Option Value} (X : K.In h) (G : h.Ns mainGlobals mg) (c : SaysV its fns frees ex cs K) {x : Str} {n : Int} (hx : (x, Cn.i n) ∈ cs) : ∃ t, mg x = some (.int n t) := by
  obtain ⟨v, hv, e⟩ := c.con _ hx
  obtain ⟨t, rfl⟩ := Cn.int e
  exact ⟨t, PySem.W.mg_of X G hv⟩
theorem con_str {its : List Itm} {fns : List Hu.Fn} {frees : List Str} {ex : (Str → Addr) → Bool} {cs : List (Str × Cn)} {K : PySem.W.Frag} {h : Heap} {mg : Str → Option Value} (X : K.In h) (G : h.Ns mainGlobals mg) (c : SaysV its fns frees ex cs K) {x : Str} {z : Str} (hx : (x, Cn.s z) ∈ cs) : ∃ t, mg x = some (.str z t) := by
  obtain ⟨v, hv, e⟩ := c.con _ hx
  obtain ⟨t, rfl⟩ := Cn.str e
  exact ⟨t, PySem.W.mg_of X G hv⟩
end Hv
set_option maxHeartbeats 0
namespace My
open PySem PySem.Spec PyProof.Rows L2 He Hm Hu Lcn Sq Dl
def dFn (x : Str) (st : Stmt) : Hu.Fn := ⟨x, none, x, x, defArgs st, defBody st, defScope st, [], false⟩
def mFn (x m qual : Str) (st : Stmt) (ds : List V) : Hu.Fn := ⟨x, some m, m, qual, defArgs st, defBody st, defScope st, ds, false⟩
def pFn (x m qual : Str) (st : Stmt) : Hu.Fn := ⟨x, some m, m, qual, defArgs st, defBody st, defScope st, [], true⟩
def fns : List Hu.Fn := [dFn "_wall" (topS 0), dFn "is_whole" (topS 9), dFn "is_sequence" (topS 10), dFn "is_couple" (topS 11), dFn "is_state" (topS 12), dFn "is_deed" (topS 13), dFn "is_goals" (topS 14), dFn "is_ends" (topS 15), dFn "is_side" (topS 16), dFn "is_row" (topS 17), dFn "sign_stands" (topS 18), dFn "is_name" (topS 36), dFn "is_rule" (topS 51), dFn "is_text" (topS 52), dFn "rule_length" (topS 53), dFn "check_word" (topS 54), dFn "goes_on" (topS 60), dFn "is_fresh_name" (topS 61), dFn "is_word" (topS 62), dFn "filling_of" (topS 63), dFn "_law_source" (topS 77), dFn "_law_take" (topS 78), dFn "_law_book" (topS 79), dFn "_law_part" (topS 80), dFn "_law_made" (topS 81), dFn "_law_made_later" (topS 82), dFn "_law_told" (topS 83), dFn "_law_told_later" (topS 84), dFn "_law_result_right" (topS 85), dFn "law" (topS 86), mFn "Book" "__init__" "Book.__init__" (inClass (topS 19) 0) [.int 1], mFn "Book" "__eq__" "Book.__eq__" (inClass (topS 19) 2) [], mFn "Clash" "__init__" "Clash.__init__" (inClass (topS 20) 0) [], mFn "Clash" "__eq__" "Clash.__eq__" (inClass (topS 20) 1) [], mFn "Canon" "__init__" "Canon.__init__" (inClass (topS 23) 0) [], mFn "Canon" "__eq__" "Canon.__eq__" (inClass (topS 23) 1) [], mFn "Settled" "__init__" "Settled.__init__" (inClass (topS 25) 0) [], mFn "Settled" "__eq__" "Settled.__eq__" (inClass (topS 25) 1) [], mFn "Guess" "__init__" "Guess.__init__" (inClass (topS 27) 0) [], mFn "Guess" "__eq__" "Guess.__eq__" (inClass (topS 27) 1) [], mFn "Shape" "__init__" "Shape.__init__" (inClass (topS 29) 0) [], mFn "Shape" "__eq__" "Shape.__eq__" (inClass (topS 29) 1) [], mFn "Answer" "__init__" "Answer.__init__" (inClass (topS 31) 0) [], mFn "Answer" "__eq__" "Answer.__eq__" (inClass (topS 31) 1) [], mFn "Carries" "__init__" "Carries.__init__" (inClass (topS 32) 0) [], mFn "Carries" "__eq__" "Carries.__eq__" (inClass (topS 32) 1) [], mFn "Case" "__init__" "Case.__init__" (inClass (topS 38) 0) [], mFn "Case" "__eq__" "Case.__eq__" (inClass (topS 38) 1) [], mFn "Look" "__init__" "Look.__init__" (inClass (topS 40) 0) [], mFn "Look" "__eq__" "Look.__eq__" (inClass (topS 40) 1) [], mFn "Entry" "__init__" "Entry.__init__" (inClass (topS 42) 0) [], mFn "Entry" "__eq__" "Entry.__eq__" (inClass (topS 42) 1) [], mFn "Shut" "__init__" "Shut.__init__" (inClass (topS 43) 0) [], mFn "Shut" "__eq__" "Shut.__eq__" (inClass (topS 43) 1) [], mFn "Paper" "__init__" "Paper.__init__" (inClass (topS 44) 0) [], mFn "Paper" "__eq__" "Paper.__eq__" (inClass (topS 44) 1) [], mFn "Run" "__init__" "Run.__init__" (inClass (topS 46) 0) [], mFn "Run" "__eq__" "Run.__eq__" (inClass (topS 46) 1) [], mFn "Grammar" "__init__" "Grammar.__init__" (inClass (topS 50) 0) [], mFn "Grammar" "__eq__" "Grammar.__eq__" (inClass (topS 50) 1) [], mFn "Pressed" "__init__" "Pressed.__init__" (inClass (topS 56) 0) [], mFn "Pressed" "__eq__" "Pressed.__eq__" (inClass (topS 56) 1) [], mFn "Filling" "__init__" "Filling.__init__" (inClass (topS 59) 0) [], mFn "Filling" "__eq__" "Filling.__eq__" (inClass (topS 59) 1) [], mFn "Root" "__init__" "Root.__init__" (inClass (topS 65) 0) [], mFn "Root" "__eq__" "Root.__eq__" (inClass (topS 65) 1) [], mFn "Trail" "__init__" "Trail.__init__" (inClass (topS 67) 0) [], mFn "Trail" "__eq__" "Trail.__eq__" (inClass (topS 67) 1) [], mFn "Stages" "__init__" "Stages.__init__" (inClass (topS 69) 0) [], mFn "Stages" "__eq__" "Stages.__eq__" (inClass (topS 69) 1) [], mFn "Way" "__init__" "Way.__init__" (inClass (topS 71) 0) [], mFn "Way" "__eq__" "Way.__eq__" (inClass (topS 71) 1) [], mFn "Found" "__init__" "Found.__init__" (inClass (topS 72) 0) [], mFn "Found" "__eq__" "Found.__eq__" (inClass (topS 72) 1) [], mFn "Never" "__init__" "Never.__init__" (inClass (topS 73) 0) [], mFn "Never" "__eq__" "Never.__eq__" (inClass (topS 73) 1) [], mFn "Trial" "__init__" "Trial.__init__" (inClass (topS 75) 0) [], mFn "Trial" "__eq__" "Trial.__eq__" (inClass (topS 75) 1) []]
def mkG (x : Str) : Itm := ⟨x, 0, fun _ _ _ => true⟩
def neB (K : PySem.W.Frag) (a : Addr) : Bool := eqO (PySem.W.findIn K (.ref a) "__ne__") (some (some (.builtin "object.__ne__")))
def mkC (x : Str) (fs ms others : List Str) : Itm := ⟨x, 3, fun γ K a => clsB K a fs ms && ((others.all fun y => decide (a ≠ γ y) && decide (PySem.W.mroIn K a (.ref (γ y)) = some false)) && neB K a)⟩
def oth (x : Str) : List Str := nm99.filter fun y => decide (y ≠ x)
def its : List Itm := [mkG "_wall", mkG "is_whole", mkG "is_sequence", mkG "is_couple", mkG "is_state", mkG "is_deed", mkG "is_goals", mkG "is_ends", mkG "is_side", mkG "is_row", mkG "sign_stands", mkG "is_name", mkG "is_rule", mkG "is_text", mkG "rule_length", mkG "check_word", mkG "goes_on", mkG "is_fresh_name", mkG "is_word", mkG "filling_of", mkG "_law_source", mkG "_law_take", mkG "_law_book", mkG "_law_part", mkG "_law_made", mkG "_law_made_later", mkG "_law_told", mkG "_law_told_later", mkG "_law_result_right", mkG "law", mkC "Clash" ["why", "at"] ["__init__", "__eq__"] (oth "Clash"), mkC "Shape" ["front", "stays", "back", "ends"] ["__init__", "__eq__"] (oth "Shape"), mkC "Answer" ["numbers"] ["__init__", "__eq__"] (oth "Answer"), mkC "Carries" ["rows"] ["__init__", "__eq__"] (oth "Carries"), mkC "Look" ["step", "outcomes"] ["__init__", "__eq__"] (oth "Look"), mkC "Trail" ["root", "turns"] ["__init__", "__eq__"] (oth "Trail"), mkC "Case" ["rows", "sets", "full"] ["__init__", "__eq__"] (oth "Case"), mkC "Run" ["turns", "used", "ends", "stop"] ["__init__", "__eq__"] (oth "Run"), mkC "Way" ["turns", "reads", "sayings", "ends", "stop"] ["__init__", "__eq__"] (oth "Way"), mkC "Never" ["papers"] ["__init__", "__eq__"] (oth "Never"), mkC "Trial" ["tolds", "refused"] ["__init__", "__eq__"] (oth "Trial"), mkC "Canon" ["book", "letters", "unknowns"] ["__init__", "__eq__"] (oth "Canon"), mkC "Settled" ["told", "letters", "unknowns", "spares"] ["__init__", "__eq__"] (oth "Settled"), mkC "Guess" ["parts", "news", "told", "letters", "unknowns", "spares", "equations"] ["__init__", "__eq__"] (oth "Guess"), mkC "Pressed" ["table", "ends"] ["__init__", "__eq__"] (oth "Pressed"), mkC "Stages" ["grammar", "stages"] ["__init__", "__eq__"] (oth "Stages"), mkC "Entry" ["book", "step", "lots"] ["__init__", "__eq__"] (oth "Entry"), mkC "Root" ["told", "letters", "unknowns", "spares", "empties"] ["__init__", "__eq__"] (oth "Root"), mkC "Found" ["turns", "filling"] ["__init__", "__eq__"] (oth "Found"), mkC "Shut" ["paper"] ["__init__", "__eq__"] (oth "Shut"), mkC "Book" ["rows", "deeds", "ends", "states"] ["__init__", "__eq__"] (oth "Book"), mkC "Grammar" ["rules", "lengths"] ["__init__", "__eq__"] (oth "Grammar"), mkC "Filling" ["grammar", "words"] ["__init__", "__eq__"] (oth "Filling"), mkC "Paper" ["deeds", "entries"] ["__init__", "__eq__"] (oth "Paper")]
def frees : List Str := ["len", "int", "bool", "list", "tuple", "isinstance", "all", "range", "min", "enumerate", "zip", "any", "sum", "max", "sorted", "dict", "repr", "str", "set"]
def ex (_ : Str → Addr) : Bool := true
abbrev R : PySem.W.OpenRow := PySem.W.OpenLaw.row PySem.Challenge.rw_pressedwords_k99_results_equal_by_all_at
def cons : List (Str × Hv.Cn) := [("OUTER_LETTERS", .s "abc"), ("LONGEST_TEXT", .i 400), ("MOST_TIMES", .i (10 ^ 62)), ("LONGEST_NAME", .i 8), ("SMALL_LETTERS", .s "abcdefghijklmnopqrstuvwxyz"), ("FIGURES", .s "0123456789")]
abbrev hk : PySem.W.Hook := Hv.hookS its fns frees ex cons
def ob (s : PySem.W.SharedT) : AlD := Hv.obsS its fns frees ex cons (HandSHeadRun.getT s)
theorem ob_eq (s : PySem.W.SharedT) : ob s = hk.obs s.abs := Hv.obsS_eq (HandSHeadRun.getT_eq s)
def nm0 : List PySem.Str := ["PressError", "BadBook", "BadGrammar", "NoSymbol", "TooLong", "BadFilling", "Book", "Clash", "Canon", "Settled", "Guess", "Shape", "Answer", "Carries", "Case", "Look", "Entry", "Shut", "Paper", "Run", "Grammar", "Pressed", "Filling", "Root", "Trail", "Stages", "Way", "Found", "Never", "Trial"]
def nm1 : List PySem.Str := ["_wall", "is_whole", "is_sequence", "is_couple", "is_state", "is_deed", "is_goals", "is_ends", "is_side", "is_row", "sign_stands", "is_name", "is_rule", "is_text", "rule_length", "check_word", "goes_on", "is_fresh_name", "is_word", "filling_of", "_law_source", "_law_take", "_law_book", "_law_part", "_law_made", "_law_made_later", "_law_told", "_law_told_later", "_law_result_right", "OUTER_LETTERS"]
def nm2 : List PySem.Str := ["LONGEST_TEXT", "MOST_TIMES", "LONGEST_NAME", "SMALL_LETTERS", "FIGURES"]
def loose : List PySem.Str := nm0 ++ (nm1 ++ (nm2))
theorem run (w : World) : HandSHeadRun.RunEq R (PySem.W.view R.prog [86]) hk ob 12500 loose w := by
  intro os
  kernel_rfl
section
variable {P : Program} {w : World} {K : PySem.W.Frag} {h : Heap} {mg : Str → Option Value}
theorem dn_of (X : K.In h) (G : h.Ns mainGlobals mg) (c : Hu.SaysS its fns frees ex K) (j : Nat) {x : Str} {st : Stmt} {ps : List Str} (hf : fns[j]? = some (dFn x st)) (hi : its[j]? = some (mkG x))
    (hb : ∀ (kV doc pm : Value) (an : Option Addr) (cdv ct : Value) (us : List Value), us.length = ps.length → bindArgs (PySem.W.fnOf x x (defArgs st) (defBody st) (defScope st) .none kV doc pm an cdv ct) ⟨us, []⟩ = pure (ps.zip us)) : ∃ D : Dn K mg x st ps, D.f = ga K x := by
  obtain ⟨a, fd, F, ha, _⟩ := c.fn j _ hf ⟨_, _, hi, rfl⟩
  have e : a = ga K x := ha rfl
  subst e
  exact ⟨⟨_, fd, F, PySem.W.mg_of X G (c.glo j _ hi), FunD.bindsN F hb⟩, rfl⟩
theorem fr_of (X : K.In h) (G : h.Ns mainGlobals mg) (c : Hu.SaysS its fns frees ex K) {x : Str} (hx : x ∈ frees) : mg x = none := PySem.W.mg_none_of X G (c.free x hx)
theorem cl_of (X : K.In h) (G : h.Ns mainGlobals mg) (c : Hu.SaysS its fns frees ex K) (j : Nat) {x : Str} {fs ms others : List Str} (hi : its[j]? = some (mkC x fs ms others)) : mg x = some (.ref (ga K x)) ∧ ClsK K (ga K x) fs ms := by
  obtain ⟨γ, hγ, _⟩ := c.it
  obtain ⟨_, K1, s1, q⟩ := hγ j _ hi
  exact ⟨PySem.W.mg_of X G (c.glo j _ hi), clsK_of s1 (ba (show (clsB K1 (ga K x) fs ms && _) = true from q)).1⟩
theorem no_of (c : Hu.SaysS its fns frees ex K) (j i : Nat) {x y : Str} {fs ms os fs' ms' os' : List Str} (hj : its[j]? = some (mkC x fs ms os)) (hi : its[i]? = some (mkC y fs' ms' os')) (hy : y ∈ os) (k : ClsK K (ga K y) fs' ms') : PySem.W.kitOne K (.ref (ga K x)) (.ref (ga K y)) = some false := by
  obtain ⟨γ, hγ, _⟩ := c.it
  obtain ⟨_, K1, s1, q⟩ := hγ j _ hj
  have e : γ y = ga K y := (hγ i _ hi).1
  obtain ⟨q1, q2⟩ := ba (List.all_eq_true.mp (ba (ba (show (clsB K1 (ga K x) fs ms && ((os.all fun y => decide (ga K x ≠ γ y) && decide (PySem.W.mroIn K1 (ga K x) (.ref (γ y)) = some false)) && neB K1 (ga K x))) = true from q)).2).1 y hy)
  have q1 := of_decide_eq_true q1
  have q2 := of_decide_eq_true q2
  rw [e] at q1 q2
  exact kit_no k q1 (s1.mro q2)
theorem far_of (c : Hu.SaysS its fns frees ex K) (j i : Nat) {x y : Str} {fs ms os fs' ms' os' : List Str} (hj : its[j]? = some (mkC x fs ms os)) (hi : its[i]? = some (mkC y fs' ms' os')) (hy : y ∈ os) : ga K x ≠ ga K y ∧ PySem.W.mroIn K (ga K x) (.ref (ga K y)) = some false := by
  obtain ⟨γ, hγ, _⟩ := c.it
  obtain ⟨_, K1, s1, q⟩ := hγ j _ hj
  have e : γ y = ga K y := (hγ i _ hi).1
  obtain ⟨q1, q2⟩ := ba (List.all_eq_true.mp (ba (ba (show (clsB K1 (ga K x) fs ms && ((os.all fun y => decide (ga K x ≠ γ y) && decide (PySem.W.mroIn K1 (ga K x) (.ref (γ y)) = some false)) && neB K1 (ga K x))) = true from q)).2).1 y hy)
  have q1 := of_decide_eq_true q1
  have q2 := of_decide_eq_true q2
  rw [e] at q1 q2
  exact ⟨q1, s1.mro q2⟩
theorem me_of (c : Hu.SaysS its fns frees ex K) (j i : Nat) {x m qual : Str} {st : Stmt} {ds : List V} {it : Itm} (hf : fns[j]? = some (mFn x m qual st ds)) (hi : its[i]? = some it) (hx : it.x = x) : ∃ a fd, FunD K m qual (defArgs st) (defBody st) (defScope st) ds [] a fd ∧ PySem.W.findIn K (.ref (ga K x)) m = some (some (.ref a)) := by
  obtain ⟨a, fd, F, _, hm, _⟩ := c.fn j _ hf ⟨_, _, hi, hx⟩
  exact ⟨a, fd, F, hm m rfl rfl⟩
theorem pr_of (c : Hu.SaysS its fns frees ex K) (j i : Nat) {x m qual : Str} {st : Stmt} {it : Itm} (hf : fns[j]? = some (pFn x m qual st)) (hi : its[i]? = some it) (hx : it.x = x) : ∃ a fd, FunD K m qual (defArgs st) (defBody st) (defScope st) [] [] a fd ∧ ∃ p, PropOf K (ga K x) m p a := by
  obtain ⟨a, fd, F, _, _, hp⟩ := c.fn j _ hf ⟨_, _, hi, hx⟩
  exact ⟨a, fd, F, hp m rfl rfl⟩
theorem ne_of (c : Hu.SaysS its fns frees ex K) (j : Nat) {x : Str} {fs ms others : List Str} (hi : its[j]? = some (mkC x fs ms others)) : PySem.W.findIn K (.ref (ga K x)) "__ne__" = some (some (.builtin "object.__ne__")) := by
  obtain ⟨γ, hγ, _⟩ := c.it
  obtain ⟨_, K1, s1, q⟩ := hγ j _ hi
  exact s1.find (eqO_ok (ba (ba (show (clsB K1 (ga K x) fs ms && ((others.all fun y => decide (ga K x ≠ γ y) && decide (PySem.W.mroIn K1 (ga K x) (.ref (γ y)) = some false)) && neB K1 (ga K x))) = true from q)).2).2)
theorem law_fn (X : K.In h) (G : h.Ns mainGlobals mg) (V : Hv.SaysV its fns frees ex cons K) {fa : Addr} (hfa : mg ("law" : Str) = some (.ref fa)) : ∃ fd : FuncData, (∀ (s : Shared) (v : Value), BindsTo s fd ⟨[v], []⟩ [("_law_script", v)]) ∧ ∀ base : Heap, K.In base → base.Ns mainGlobals mg → FnOk P w K mg base CX0 32 fa fd ["_law_script"] (sp_law K) := by
  have c := V.s
  obtain ⟨D_is_whole, _⟩ := dn_of (st := s_is_whole) (ps := ["thing"]) X G c 1 (x := "is_whole") rfl rfl fun _ _ _ _ _ _ us hl => match us, hl with | [_], _ => rfl
  obtain ⟨D_is_sequence, _⟩ := dn_of (st := s_is_sequence) (ps := ["thing"]) X G c 2 (x := "is_sequence") rfl rfl fun _ _ _ _ _ _ us hl => match us, hl with | [_], _ => rfl
  obtain ⟨D_is_couple, _⟩ := dn_of (st := s_is_couple) (ps := ["thing"]) X G c 3 (x := "is_couple") rfl rfl fun _ _ _ _ _ _ us hl => match us, hl with | [_], _ => rfl
  obtain ⟨D_is_state, _⟩ := dn_of (st := s_is_state) (ps := ["thing", "states"]) X G c 4 (x := "is_state") rfl rfl fun _ _ _ _ _ _ us hl => match us, hl with | [_, _], _ => rfl
  obtain ⟨D_is_deed, _⟩ := dn_of (st := s_is_deed) (ps := ["thing", "states"]) X G c 5 (x := "is_deed") rfl rfl fun _ _ _ _ _ _ us hl => match us, hl with | [_, _], _ => rfl
  obtain ⟨D_is_goals, _⟩ := dn_of (st := s_is_goals) (ps := ["thing", "states"]) X G c 6 (x := "is_goals") rfl rfl fun _ _ _ _ _ _ us hl => match us, hl with | [_, _], _ => rfl
  obtain ⟨D_is_ends, _⟩ := dn_of (st := s_is_ends) (ps := ["thing", "states"]) X G c 7 (x := "is_ends") rfl rfl fun _ _ _ _ _ _ us hl => match us, hl with | [_, _], _ => rfl
  obtain ⟨D_is_side, _⟩ := dn_of (st := s_is_side) (ps := ["thing"]) X G c 8 (x := "is_side") rfl rfl fun _ _ _ _ _ _ us hl => match us, hl with | [_], _ => rfl
  obtain ⟨D_is_row, _⟩ := dn_of (st := s_is_row) (ps := ["thing"]) X G c 9 (x := "is_row") rfl rfl fun _ _ _ _ _ _ us hl => match us, hl with | [_], _ => rfl
  obtain ⟨D_sign_stands, _⟩ := dn_of (st := s_sign_stands) (ps := ["sign", "letters", "unknowns"]) X G c 10 (x := "sign_stands") rfl rfl fun _ _ _ _ _ _ us hl => match us, hl with | [_, _, _], _ => rfl
  obtain ⟨D_is_name, _⟩ := dn_of (st := s_is_name) (ps := ["thing"]) X G c 11 (x := "is_name") rfl rfl fun _ _ _ _ _ _ us hl => match us, hl with | [_], _ => rfl
  obtain ⟨D_is_rule, _⟩ := dn_of (st := s_is_rule) (ps := ["thing", "at"]) X G c 12 (x := "is_rule") rfl rfl fun _ _ _ _ _ _ us hl => match us, hl with | [_, _], _ => rfl
  obtain ⟨D_is_text, _⟩ := dn_of (st := s_is_text) (ps := ["thing"]) X G c 13 (x := "is_text") rfl rfl fun _ _ _ _ _ _ us hl => match us, hl with | [_], _ => rfl
  obtain ⟨D_rule_length, _⟩ := dn_of (st := s_rule_length) (ps := ["rule", "lengths"]) X G c 14 (x := "rule_length") rfl rfl fun _ _ _ _ _ _ us hl => match us, hl with | [_, _], _ => rfl
  obtain ⟨D_check_word, _⟩ := dn_of (st := s_check_word) (ps := ["grammar", "word"]) X G c 15 (x := "check_word") rfl rfl fun _ _ _ _ _ _ us hl => match us, hl with | [_, _], _ => rfl
  obtain ⟨D_goes_on, _⟩ := dn_of (st := s_goes_on) (ps := ["thing", "kept"]) X G c 16 (x := "goes_on") rfl rfl fun _ _ _ _ _ _ us hl => match us, hl with | [_, _], _ => rfl
  obtain ⟨D_is_fresh_name, _⟩ := dn_of (st := s_is_fresh_name) (ps := ["thing"]) X G c 17 (x := "is_fresh_name") rfl rfl fun _ _ _ _ _ _ us hl => match us, hl with | [_], _ => rfl
  obtain ⟨D_is_word, _⟩ := dn_of (st := s_is_word) (ps := ["thing", "grammar"]) X G c 18 (x := "is_word") rfl rfl fun _ _ _ _ _ _ us hl => match us, hl with | [_, _], _ => rfl
  obtain ⟨D_filling_of, _⟩ := dn_of (st := s_filling_of) (ps := ["texts"]) X G c 19 (x := "filling_of") rfl rfl fun _ _ _ _ _ _ us hl => match us, hl with | [_], _ => rfl
  obtain ⟨D__law_source, _⟩ := dn_of (st := s__law_source) (ps := ["_law_script"]) X G c 20 (x := "_law_source") rfl rfl fun _ _ _ _ _ _ us hl => match us, hl with | [_], _ => rfl
  obtain ⟨D__law_take, _⟩ := dn_of (st := s__law_take) (ps := ["_law_source_here", "_law_many"]) X G c 21 (x := "_law_take") rfl rfl fun _ _ _ _ _ _ us hl => match us, hl with | [_, _], _ => rfl
  obtain ⟨D__law_book, _⟩ := dn_of (st := s__law_book) (ps := ["_law_size"]) X G c 22 (x := "_law_book") rfl rfl fun _ _ _ _ _ _ us hl => match us, hl with | [_], _ => rfl
  obtain ⟨D__law_part, _⟩ := dn_of (st := s__law_part) (ps := ["_law_kind", "_law_size"]) X G c 23 (x := "_law_part") rfl rfl fun _ _ _ _ _ _ us hl => match us, hl with | [_, _], _ => rfl
  obtain ⟨D__law_made, _⟩ := dn_of (st := s__law_made) (ps := ["_law_which", "_law_parts"]) X G c 24 (x := "_law_made") rfl rfl fun _ _ _ _ _ _ us hl => match us, hl with | [_, _], _ => rfl
  obtain ⟨D__law_made_later, _⟩ := dn_of (st := s__law_made_later) (ps := ["_law_which", "_law_parts"]) X G c 25 (x := "_law_made_later") rfl rfl fun _ _ _ _ _ _ us hl => match us, hl with | [_, _], _ => rfl
  obtain ⟨D__law_told, _⟩ := dn_of (st := s__law_told) (ps := ["_law_which", "_law_one"]) X G c 26 (x := "_law_told") rfl rfl fun _ _ _ _ _ _ us hl => match us, hl with | [_, _], _ => rfl
  obtain ⟨D__law_told_later, _⟩ := dn_of (st := s__law_told_later) (ps := ["_law_which", "_law_one"]) X G c 27 (x := "_law_told_later") rfl rfl fun _ _ _ _ _ _ us hl => match us, hl with | [_, _], _ => rfl
  obtain ⟨D__law_result_right, _⟩ := dn_of (st := s__law_result_right) (ps := ["_law_which", "_law_kinds", "_law_sizes", "_law_others"]) X G c 28 (x := "_law_result_right") rfl rfl fun _ _ _ _ _ _ us hl => match us, hl with | [_, _, _, _], _ => rfl
  obtain ⟨m_Clash, k_Clash⟩ := cl_of X G c 30 (x := "Clash") rfl
  obtain ⟨m_Shape, k_Shape⟩ := cl_of X G c 31 (x := "Shape") rfl
  obtain ⟨m_Answer, k_Answer⟩ := cl_of X G c 32 (x := "Answer") rfl
  obtain ⟨m_Carries, k_Carries⟩ := cl_of X G c 33 (x := "Carries") rfl
  obtain ⟨m_Look, k_Look⟩ := cl_of X G c 34 (x := "Look") rfl
  obtain ⟨m_Trail, k_Trail⟩ := cl_of X G c 35 (x := "Trail") rfl
  obtain ⟨m_Case, k_Case⟩ := cl_of X G c 36 (x := "Case") rfl
  obtain ⟨m_Run, k_Run⟩ := cl_of X G c 37 (x := "Run") rfl
  obtain ⟨m_Way, k_Way⟩ := cl_of X G c 38 (x := "Way") rfl
  obtain ⟨m_Never, k_Never⟩ := cl_of X G c 39 (x := "Never") rfl
  obtain ⟨m_Trial, k_Trial⟩ := cl_of X G c 40 (x := "Trial") rfl
  obtain ⟨m_Canon, k_Canon⟩ := cl_of X G c 41 (x := "Canon") rfl
  obtain ⟨m_Settled, k_Settled⟩ := cl_of X G c 42 (x := "Settled") rfl
  obtain ⟨m_Guess, k_Guess⟩ := cl_of X G c 43 (x := "Guess") rfl
  obtain ⟨m_Pressed, k_Pressed⟩ := cl_of X G c 44 (x := "Pressed") rfl
  obtain ⟨m_Stages, k_Stages⟩ := cl_of X G c 45 (x := "Stages") rfl
  obtain ⟨m_Entry, k_Entry⟩ := cl_of X G c 46 (x := "Entry") rfl
  obtain ⟨m_Root, k_Root⟩ := cl_of X G c 47 (x := "Root") rfl
  obtain ⟨m_Found, k_Found⟩ := cl_of X G c 48 (x := "Found") rfl
  obtain ⟨m_Shut, k_Shut⟩ := cl_of X G c 49 (x := "Shut") rfl
  obtain ⟨m_Book, k_Book⟩ := cl_of X G c 50 (x := "Book") rfl
  obtain ⟨m_Grammar, k_Grammar⟩ := cl_of X G c 51 (x := "Grammar") rfl
  obtain ⟨m_Filling, k_Filling⟩ := cl_of X G c 52 (x := "Filling") rfl
  obtain ⟨m_Paper, k_Paper⟩ := cl_of X G c 53 (x := "Paper") rfl
  obtain ⟨a_Book_init, fd_Book_init, F_Book_init, i_Book_init⟩ := me_of c 30 50 (x := "Book") (m := "__init__") (st := s_Book_init) rfl rfl rfl
  obtain ⟨a_Book_eq, fd_Book_eq, F_Book_eq, i_Book_eq⟩ := me_of c 31 50 (x := "Book") (m := "__eq__") (st := s_Book_eq) rfl rfl rfl
  obtain ⟨a_Clash_init, fd_Clash_init, F_Clash_init, i_Clash_init⟩ := me_of c 32 30 (x := "Clash") (m := "__init__") (st := s_Clash_init) rfl rfl rfl
  obtain ⟨a_Clash_eq, fd_Clash_eq, F_Clash_eq, i_Clash_eq⟩ := me_of c 33 30 (x := "Clash") (m := "__eq__") (st := s_Clash_eq) rfl rfl rfl
  obtain ⟨a_Canon_init, fd_Canon_init, F_Canon_init, i_Canon_init⟩ := me_of c 34 41 (x := "Canon") (m := "__init__") (st := s_Canon_init) rfl rfl rfl
  obtain ⟨a_Canon_eq, fd_Canon_eq, F_Canon_eq, i_Canon_eq⟩ := me_of c 35 41 (x := "Canon") (m := "__eq__") (st := s_Canon_eq) rfl rfl rfl
  obtain ⟨a_Settled_init, fd_Settled_init, F_Settled_init, i_Settled_init⟩ := me_of c 36 42 (x := "Settled") (m := "__init__") (st := s_Settled_init) rfl rfl rfl
  obtain ⟨a_Settled_eq, fd_Settled_eq, F_Settled_eq, i_Settled_eq⟩ := me_of c 37 42 (x := "Settled") (m := "__eq__") (st := s_Settled_eq) rfl rfl rfl
  obtain ⟨a_Guess_init, fd_Guess_init, F_Guess_init, i_Guess_init⟩ := me_of c 38 43 (x := "Guess") (m := "__init__") (st := s_Guess_init) rfl rfl rfl
  obtain ⟨a_Guess_eq, fd_Guess_eq, F_Guess_eq, i_Guess_eq⟩ := me_of c 39 43 (x := "Guess") (m := "__eq__") (st := s_Guess_eq) rfl rfl rfl
  obtain ⟨a_Shape_init, fd_Shape_init, F_Shape_init, i_Shape_init⟩ := me_of c 40 31 (x := "Shape") (m := "__init__") (st := s_Shape_init) rfl rfl rfl
  obtain ⟨a_Shape_eq, fd_Shape_eq, F_Shape_eq, i_Shape_eq⟩ := me_of c 41 31 (x := "Shape") (m := "__eq__") (st := s_Shape_eq) rfl rfl rfl
  obtain ⟨a_Answer_init, fd_Answer_init, F_Answer_init, i_Answer_init⟩ := me_of c 42 32 (x := "Answer") (m := "__init__") (st := s_Answer_init) rfl rfl rfl
  obtain ⟨a_Answer_eq, fd_Answer_eq, F_Answer_eq, i_Answer_eq⟩ := me_of c 43 32 (x := "Answer") (m := "__eq__") (st := s_Answer_eq) rfl rfl rfl
  obtain ⟨a_Carries_init, fd_Carries_init, F_Carries_init, i_Carries_init⟩ := me_of c 44 33 (x := "Carries") (m := "__init__") (st := s_Carries_init) rfl rfl rfl
  obtain ⟨a_Carries_eq, fd_Carries_eq, F_Carries_eq, i_Carries_eq⟩ := me_of c 45 33 (x := "Carries") (m := "__eq__") (st := s_Carries_eq) rfl rfl rfl
  obtain ⟨a_Case_init, fd_Case_init, F_Case_init, i_Case_init⟩ := me_of c 46 36 (x := "Case") (m := "__init__") (st := s_Case_init) rfl rfl rfl
  obtain ⟨a_Case_eq, fd_Case_eq, F_Case_eq, i_Case_eq⟩ := me_of c 47 36 (x := "Case") (m := "__eq__") (st := s_Case_eq) rfl rfl rfl
  obtain ⟨a_Look_init, fd_Look_init, F_Look_init, i_Look_init⟩ := me_of c 48 34 (x := "Look") (m := "__init__") (st := s_Look_init) rfl rfl rfl
  obtain ⟨a_Look_eq, fd_Look_eq, F_Look_eq, i_Look_eq⟩ := me_of c 49 34 (x := "Look") (m := "__eq__") (st := s_Look_eq) rfl rfl rfl
  obtain ⟨a_Entry_init, fd_Entry_init, F_Entry_init, i_Entry_init⟩ := me_of c 50 46 (x := "Entry") (m := "__init__") (st := s_Entry_init) rfl rfl rfl
  obtain ⟨a_Entry_eq, fd_Entry_eq, F_Entry_eq, i_Entry_eq⟩ := me_of c 51 46 (x := "Entry") (m := "__eq__") (st := s_Entry_eq) rfl rfl rfl
  obtain ⟨a_Shut_init, fd_Shut_init, F_Shut_init, i_Shut_init⟩ := me_of c 52 49 (x := "Shut") (m := "__init__") (st := s_Shut_init) rfl rfl rfl
  obtain ⟨a_Shut_eq, fd_Shut_eq, F_Shut_eq, i_Shut_eq⟩ := me_of c 53 49 (x := "Shut") (m := "__eq__") (st := s_Shut_eq) rfl rfl rfl
  obtain ⟨a_Paper_init, fd_Paper_init, F_Paper_init, i_Paper_init⟩ := me_of c 54 53 (x := "Paper") (m := "__init__") (st := s_Paper_init) rfl rfl rfl
  obtain ⟨a_Paper_eq, fd_Paper_eq, F_Paper_eq, i_Paper_eq⟩ := me_of c 55 53 (x := "Paper") (m := "__eq__") (st := s_Paper_eq) rfl rfl rfl
  obtain ⟨a_Run_init, fd_Run_init, F_Run_init, i_Run_init⟩ := me_of c 56 37 (x := "Run") (m := "__init__") (st := s_Run_init) rfl rfl rfl
  obtain ⟨a_Run_eq, fd_Run_eq, F_Run_eq, i_Run_eq⟩ := me_of c 57 37 (x := "Run") (m := "__eq__") (st := s_Run_eq) rfl rfl rfl
  obtain ⟨a_Grammar_init, fd_Grammar_init, F_Grammar_init, i_Grammar_init⟩ := me_of c 58 51 (x := "Grammar") (m := "__init__") (st := s_Grammar_init) rfl rfl rfl
  obtain ⟨a_Grammar_eq, fd_Grammar_eq, F_Grammar_eq, i_Grammar_eq⟩ := me_of c 59 51 (x := "Grammar") (m := "__eq__") (st := s_Grammar_eq) rfl rfl rfl
  obtain ⟨a_Pressed_init, fd_Pressed_init, F_Pressed_init, i_Pressed_init⟩ := me_of c 60 44 (x := "Pressed") (m := "__init__") (st := s_Pressed_init) rfl rfl rfl
  obtain ⟨a_Pressed_eq, fd_Pressed_eq, F_Pressed_eq, i_Pressed_eq⟩ := me_of c 61 44 (x := "Pressed") (m := "__eq__") (st := s_Pressed_eq) rfl rfl rfl
  obtain ⟨a_Filling_init, fd_Filling_init, F_Filling_init, i_Filling_init⟩ := me_of c 62 52 (x := "Filling") (m := "__init__") (st := s_Filling_init) rfl rfl rfl
  obtain ⟨a_Filling_eq, fd_Filling_eq, F_Filling_eq, i_Filling_eq⟩ := me_of c 63 52 (x := "Filling") (m := "__eq__") (st := s_Filling_eq) rfl rfl rfl
  obtain ⟨a_Root_init, fd_Root_init, F_Root_init, i_Root_init⟩ := me_of c 64 47 (x := "Root") (m := "__init__") (st := s_Root_init) rfl rfl rfl
  obtain ⟨a_Root_eq, fd_Root_eq, F_Root_eq, i_Root_eq⟩ := me_of c 65 47 (x := "Root") (m := "__eq__") (st := s_Root_eq) rfl rfl rfl
  obtain ⟨a_Trail_init, fd_Trail_init, F_Trail_init, i_Trail_init⟩ := me_of c 66 35 (x := "Trail") (m := "__init__") (st := s_Trail_init) rfl rfl rfl
  obtain ⟨a_Trail_eq, fd_Trail_eq, F_Trail_eq, i_Trail_eq⟩ := me_of c 67 35 (x := "Trail") (m := "__eq__") (st := s_Trail_eq) rfl rfl rfl
  obtain ⟨a_Stages_init, fd_Stages_init, F_Stages_init, i_Stages_init⟩ := me_of c 68 45 (x := "Stages") (m := "__init__") (st := s_Stages_init) rfl rfl rfl
  obtain ⟨a_Stages_eq, fd_Stages_eq, F_Stages_eq, i_Stages_eq⟩ := me_of c 69 45 (x := "Stages") (m := "__eq__") (st := s_Stages_eq) rfl rfl rfl
  obtain ⟨a_Way_init, fd_Way_init, F_Way_init, i_Way_init⟩ := me_of c 70 38 (x := "Way") (m := "__init__") (st := s_Way_init) rfl rfl rfl
  obtain ⟨a_Way_eq, fd_Way_eq, F_Way_eq, i_Way_eq⟩ := me_of c 71 38 (x := "Way") (m := "__eq__") (st := s_Way_eq) rfl rfl rfl
  obtain ⟨a_Found_init, fd_Found_init, F_Found_init, i_Found_init⟩ := me_of c 72 48 (x := "Found") (m := "__init__") (st := s_Found_init) rfl rfl rfl
  obtain ⟨a_Found_eq, fd_Found_eq, F_Found_eq, i_Found_eq⟩ := me_of c 73 48 (x := "Found") (m := "__eq__") (st := s_Found_eq) rfl rfl rfl
  obtain ⟨a_Never_init, fd_Never_init, F_Never_init, i_Never_init⟩ := me_of c 74 39 (x := "Never") (m := "__init__") (st := s_Never_init) rfl rfl rfl
  obtain ⟨a_Never_eq, fd_Never_eq, F_Never_eq, i_Never_eq⟩ := me_of c 75 39 (x := "Never") (m := "__eq__") (st := s_Never_eq) rfl rfl rfl
  obtain ⟨a_Trial_init, fd_Trial_init, F_Trial_init, i_Trial_init⟩ := me_of c 76 40 (x := "Trial") (m := "__init__") (st := s_Trial_init) rfl rfl rfl
  obtain ⟨a_Trial_eq, fd_Trial_eq, F_Trial_eq, i_Trial_eq⟩ := me_of c 77 40 (x := "Trial") (m := "__eq__") (st := s_Trial_eq) rfl rfl rfl
  obtain ⟨D_law, _⟩ := dn_of (st := s_law) (ps := ["_law_script"]) X G c 29 (x := "law") rfl rfl fun _ _ _ _ _ _ us hl => match us, hl with | [_], _ => rfl
  have e_law : fa = D_law.f := by
    have e := hfa.symm.trans D_law.m
    exact Value.ref.inj (Option.some.inj e)
  subst e_law
  have fr : ∀ {x : Str}, x ∈ frees → mg x = none := fun hx => fr_of X G c hx
  have T : TB mg := ⟨fr (by decide +kernel), fr (by decide +kernel), fr (by decide +kernel), fr (by decide +kernel), fr (by decide +kernel), fr (by decide +kernel), fr (by decide +kernel), fr (by decide +kernel), fr (by decide +kernel), fr (by decide +kernel), fr (by decide +kernel), fr (by decide +kernel), fr (by decide +kernel), fr (by decide +kernel), fr (by decide +kernel), fr (by decide +kernel), fr (by decide +kernel), fr (by decide +kernel), fr (by decide +kernel)⟩
  have GCO : GCs mg := ⟨Hv.con_str X G V (List.mem_of_getElem? (i := 0) rfl), Hv.con_int X G V (List.mem_of_getElem? (i := 1) rfl), Hv.con_int X G V (List.mem_of_getElem? (i := 2) rfl), Hv.con_int X G V (List.mem_of_getElem? (i := 3) rfl), Hv.con_str X G V (List.mem_of_getElem? (i := 4) rfl), Hv.con_str X G V (List.mem_of_getElem? (i := 5) rfl)⟩
  obtain ⟨C_Clash, c_Clash⟩ : ∃ C : OC_Clash K mg, C.C = ga K "Clash" := by
    obtain ⟨a', h3, h4⟩ := k_Clash.me "__init__" (by decide +kernel)
    cases i_Clash_init.symm.trans h3
    obtain ⟨a2, h5, h6⟩ := k_Clash.me "__eq__" (by decide +kernel)
    cases i_Clash_eq.symm.trans h5
    exact ⟨⟨_, _, fd_Clash_init, F_Clash_init, m_Clash, ⟨k_Clash.mkI, h3, h4, k_Clash.kp⟩, k_Clash.cl, k_Clash.no, [], .nil, FunD.bindsN (ps := ["self", "why", "at"]) F_Clash_init fun _ _ _ _ _ _ us hl => match us, hl with | [_, _, _], _ => rfl, k_Clash.ins, _, fd_Clash_eq, F_Clash_eq, h5, h6, FunD.bindsN F_Clash_eq fun _ _ _ _ _ _ us hl => match us, hl with | [_, _], _ => rfl, ne_of c (30 + 0) (x := "Clash") rfl, k_Clash.ins.hm⟩, rfl⟩
  obtain ⟨C_Shape, c_Shape⟩ : ∃ C : OC_Shape K mg, C.C = ga K "Shape" := by
    obtain ⟨a', h3, h4⟩ := k_Shape.me "__init__" (by decide +kernel)
    cases i_Shape_init.symm.trans h3
    obtain ⟨a2, h5, h6⟩ := k_Shape.me "__eq__" (by decide +kernel)
    cases i_Shape_eq.symm.trans h5
    exact ⟨⟨_, _, fd_Shape_init, F_Shape_init, m_Shape, ⟨k_Shape.mkI, h3, h4, k_Shape.kp⟩, k_Shape.cl, k_Shape.no, [], .nil, FunD.bindsN (ps := ["self", "front", "stays", "back", "ends"]) F_Shape_init fun _ _ _ _ _ _ us hl => match us, hl with | [_, _, _, _, _], _ => rfl, k_Shape.ins, _, fd_Shape_eq, F_Shape_eq, h5, h6, FunD.bindsN F_Shape_eq fun _ _ _ _ _ _ us hl => match us, hl with | [_, _], _ => rfl, ne_of c (30 + 1) (x := "Shape") rfl, k_Shape.ins.hm⟩, rfl⟩
  obtain ⟨C_Answer, c_Answer⟩ : ∃ C : OC_Answer K mg, C.C = ga K "Answer" := by
    obtain ⟨a', h3, h4⟩ := k_Answer.me "__init__" (by decide +kernel)
    cases i_Answer_init.symm.trans h3
    obtain ⟨a2, h5, h6⟩ := k_Answer.me "__eq__" (by decide +kernel)
    cases i_Answer_eq.symm.trans h5
    exact ⟨⟨_, _, fd_Answer_init, F_Answer_init, m_Answer, ⟨k_Answer.mkI, h3, h4, k_Answer.kp⟩, k_Answer.cl, k_Answer.no, [], .nil, FunD.bindsN (ps := ["self", "numbers"]) F_Answer_init fun _ _ _ _ _ _ us hl => match us, hl with | [_, _], _ => rfl, k_Answer.ins, _, fd_Answer_eq, F_Answer_eq, h5, h6, FunD.bindsN F_Answer_eq fun _ _ _ _ _ _ us hl => match us, hl with | [_, _], _ => rfl, ne_of c (30 + 2) (x := "Answer") rfl, k_Answer.ins.hm⟩, rfl⟩
  obtain ⟨C_Carries, c_Carries⟩ : ∃ C : OC_Carries K mg, C.C = ga K "Carries" := by
    obtain ⟨a', h3, h4⟩ := k_Carries.me "__init__" (by decide +kernel)
    cases i_Carries_init.symm.trans h3
    obtain ⟨a2, h5, h6⟩ := k_Carries.me "__eq__" (by decide +kernel)
    cases i_Carries_eq.symm.trans h5
    exact ⟨⟨_, _, fd_Carries_init, F_Carries_init, m_Carries, ⟨k_Carries.mkI, h3, h4, k_Carries.kp⟩, k_Carries.cl, k_Carries.no, [], .nil, FunD.bindsN (ps := ["self", "rows"]) F_Carries_init fun _ _ _ _ _ _ us hl => match us, hl with | [_, _], _ => rfl, k_Carries.ins, _, fd_Carries_eq, F_Carries_eq, h5, h6, FunD.bindsN F_Carries_eq fun _ _ _ _ _ _ us hl => match us, hl with | [_, _], _ => rfl, ne_of c (30 + 3) (x := "Carries") rfl, k_Carries.ins.hm⟩, rfl⟩
  obtain ⟨C_Look, c_Look⟩ : ∃ C : OC_Look K mg, C.C = ga K "Look" := by
    obtain ⟨a', h3, h4⟩ := k_Look.me "__init__" (by decide +kernel)
    cases i_Look_init.symm.trans h3
    obtain ⟨a2, h5, h6⟩ := k_Look.me "__eq__" (by decide +kernel)
    cases i_Look_eq.symm.trans h5
    exact ⟨⟨_, _, fd_Look_init, F_Look_init, m_Look, ⟨k_Look.mkI, h3, h4, k_Look.kp⟩, k_Look.cl, k_Look.no, [], .nil, FunD.bindsN (ps := ["self", "step", "outcomes"]) F_Look_init fun _ _ _ _ _ _ us hl => match us, hl with | [_, _, _], _ => rfl, k_Look.ins, _, fd_Look_eq, F_Look_eq, h5, h6, FunD.bindsN F_Look_eq fun _ _ _ _ _ _ us hl => match us, hl with | [_, _], _ => rfl, ne_of c (30 + 4) (x := "Look") rfl, k_Look.ins.hm⟩, rfl⟩
  obtain ⟨C_Trail, c_Trail⟩ : ∃ C : OC_Trail K mg, C.C = ga K "Trail" := by
    obtain ⟨a', h3, h4⟩ := k_Trail.me "__init__" (by decide +kernel)
    cases i_Trail_init.symm.trans h3
    obtain ⟨a2, h5, h6⟩ := k_Trail.me "__eq__" (by decide +kernel)
    cases i_Trail_eq.symm.trans h5
    exact ⟨⟨_, _, fd_Trail_init, F_Trail_init, m_Trail, ⟨k_Trail.mkI, h3, h4, k_Trail.kp⟩, k_Trail.cl, k_Trail.no, [], .nil, FunD.bindsN (ps := ["self", "root", "turns"]) F_Trail_init fun _ _ _ _ _ _ us hl => match us, hl with | [_, _, _], _ => rfl, k_Trail.ins, _, fd_Trail_eq, F_Trail_eq, h5, h6, FunD.bindsN F_Trail_eq fun _ _ _ _ _ _ us hl => match us, hl with | [_, _], _ => rfl, ne_of c (30 + 5) (x := "Trail") rfl, k_Trail.ins.hm⟩, rfl⟩
  obtain ⟨C_Case, c_Case⟩ : ∃ C : OC_Case K mg, C.C = ga K "Case" := by
    obtain ⟨a', h3, h4⟩ := k_Case.me "__init__" (by decide +kernel)
    cases i_Case_init.symm.trans h3
    obtain ⟨a2, h5, h6⟩ := k_Case.me "__eq__" (by decide +kernel)
    cases i_Case_eq.symm.trans h5
    exact ⟨⟨_, _, fd_Case_init, F_Case_init, m_Case, ⟨k_Case.mkI, h3, h4, k_Case.kp⟩, k_Case.cl, k_Case.no, [], .nil, FunD.bindsN (ps := ["self", "rows", "sets", "full"]) F_Case_init fun _ _ _ _ _ _ us hl => match us, hl with | [_, _, _, _], _ => rfl, k_Case.ins, _, fd_Case_eq, F_Case_eq, h5, h6, FunD.bindsN F_Case_eq fun _ _ _ _ _ _ us hl => match us, hl with | [_, _], _ => rfl, ne_of c (30 + 6) (x := "Case") rfl, k_Case.ins.hm⟩, rfl⟩
  obtain ⟨C_Run, c_Run⟩ : ∃ C : OC_Run K mg, C.C = ga K "Run" := by
    obtain ⟨a', h3, h4⟩ := k_Run.me "__init__" (by decide +kernel)
    cases i_Run_init.symm.trans h3
    obtain ⟨a2, h5, h6⟩ := k_Run.me "__eq__" (by decide +kernel)
    cases i_Run_eq.symm.trans h5
    exact ⟨⟨_, _, fd_Run_init, F_Run_init, m_Run, ⟨k_Run.mkI, h3, h4, k_Run.kp⟩, k_Run.cl, k_Run.no, [], .nil, FunD.bindsN (ps := ["self", "turns", "used", "ends", "stop"]) F_Run_init fun _ _ _ _ _ _ us hl => match us, hl with | [_, _, _, _, _], _ => rfl, k_Run.ins, _, fd_Run_eq, F_Run_eq, h5, h6, FunD.bindsN F_Run_eq fun _ _ _ _ _ _ us hl => match us, hl with | [_, _], _ => rfl, ne_of c (30 + 7) (x := "Run") rfl, k_Run.ins.hm⟩, rfl⟩
  obtain ⟨C_Way, c_Way⟩ : ∃ C : OC_Way K mg, C.C = ga K "Way" := by
    obtain ⟨a', h3, h4⟩ := k_Way.me "__init__" (by decide +kernel)
    cases i_Way_init.symm.trans h3
    obtain ⟨a2, h5, h6⟩ := k_Way.me "__eq__" (by decide +kernel)
    cases i_Way_eq.symm.trans h5
    exact ⟨⟨_, _, fd_Way_init, F_Way_init, m_Way, ⟨k_Way.mkI, h3, h4, k_Way.kp⟩, k_Way.cl, k_Way.no, [], .nil, FunD.bindsN (ps := ["self", "turns", "reads", "sayings", "ends", "stop"]) F_Way_init fun _ _ _ _ _ _ us hl => match us, hl with | [_, _, _, _, _, _], _ => rfl, k_Way.ins, _, fd_Way_eq, F_Way_eq, h5, h6, FunD.bindsN F_Way_eq fun _ _ _ _ _ _ us hl => match us, hl with | [_, _], _ => rfl, ne_of c (30 + 8) (x := "Way") rfl, k_Way.ins.hm⟩, rfl⟩
  obtain ⟨C_Never, c_Never⟩ : ∃ C : OC_Never K mg, C.C = ga K "Never" := by
    obtain ⟨a', h3, h4⟩ := k_Never.me "__init__" (by decide +kernel)
    cases i_Never_init.symm.trans h3
    obtain ⟨a2, h5, h6⟩ := k_Never.me "__eq__" (by decide +kernel)
    cases i_Never_eq.symm.trans h5
    exact ⟨⟨_, _, fd_Never_init, F_Never_init, m_Never, ⟨k_Never.mkI, h3, h4, k_Never.kp⟩, k_Never.cl, k_Never.no, [], .nil, FunD.bindsN (ps := ["self", "papers"]) F_Never_init fun _ _ _ _ _ _ us hl => match us, hl with | [_, _], _ => rfl, k_Never.ins, _, fd_Never_eq, F_Never_eq, h5, h6, FunD.bindsN F_Never_eq fun _ _ _ _ _ _ us hl => match us, hl with | [_, _], _ => rfl, ne_of c (30 + 9) (x := "Never") rfl, k_Never.ins.hm⟩, rfl⟩
  obtain ⟨C_Trial, c_Trial⟩ : ∃ C : OC_Trial K mg, C.C = ga K "Trial" := by
    obtain ⟨a', h3, h4⟩ := k_Trial.me "__init__" (by decide +kernel)
    cases i_Trial_init.symm.trans h3
    obtain ⟨a2, h5, h6⟩ := k_Trial.me "__eq__" (by decide +kernel)
    cases i_Trial_eq.symm.trans h5
    exact ⟨⟨_, _, fd_Trial_init, F_Trial_init, m_Trial, ⟨k_Trial.mkI, h3, h4, k_Trial.kp⟩, k_Trial.cl, k_Trial.no, [], .nil, FunD.bindsN (ps := ["self", "tolds", "refused"]) F_Trial_init fun _ _ _ _ _ _ us hl => match us, hl with | [_, _, _], _ => rfl, k_Trial.ins, _, fd_Trial_eq, F_Trial_eq, h5, h6, FunD.bindsN F_Trial_eq fun _ _ _ _ _ _ us hl => match us, hl with | [_, _], _ => rfl, ne_of c (30 + 10) (x := "Trial") rfl, k_Trial.ins.hm⟩, rfl⟩
  obtain ⟨C_Canon, c_Canon⟩ : ∃ C : OC_Canon K mg, C.C = ga K "Canon" := by
    obtain ⟨a', h3, h4⟩ := k_Canon.me "__init__" (by decide +kernel)
    cases i_Canon_init.symm.trans h3
    obtain ⟨a2, h5, h6⟩ := k_Canon.me "__eq__" (by decide +kernel)
    cases i_Canon_eq.symm.trans h5
    exact ⟨⟨_, _, fd_Canon_init, F_Canon_init, m_Canon, ⟨k_Canon.mkI, h3, h4, k_Canon.kp⟩, k_Canon.cl, k_Canon.no, [], .nil, FunD.bindsN (ps := ["self", "book", "letters", "unknowns"]) F_Canon_init fun _ _ _ _ _ _ us hl => match us, hl with | [_, _, _, _], _ => rfl, k_Canon.ins, _, fd_Canon_eq, F_Canon_eq, h5, h6, FunD.bindsN F_Canon_eq fun _ _ _ _ _ _ us hl => match us, hl with | [_, _], _ => rfl, ne_of c (30 + 11) (x := "Canon") rfl, k_Canon.ins.hm⟩, rfl⟩
  obtain ⟨C_Settled, c_Settled⟩ : ∃ C : OC_Settled K mg, C.C = ga K "Settled" := by
    obtain ⟨a', h3, h4⟩ := k_Settled.me "__init__" (by decide +kernel)
    cases i_Settled_init.symm.trans h3
    obtain ⟨a2, h5, h6⟩ := k_Settled.me "__eq__" (by decide +kernel)
    cases i_Settled_eq.symm.trans h5
    exact ⟨⟨_, _, fd_Settled_init, F_Settled_init, m_Settled, ⟨k_Settled.mkI, h3, h4, k_Settled.kp⟩, k_Settled.cl, k_Settled.no, [], .nil, FunD.bindsN (ps := ["self", "told", "letters", "unknowns", "spares"]) F_Settled_init fun _ _ _ _ _ _ us hl => match us, hl with | [_, _, _, _, _], _ => rfl, k_Settled.ins, _, fd_Settled_eq, F_Settled_eq, h5, h6, FunD.bindsN F_Settled_eq fun _ _ _ _ _ _ us hl => match us, hl with | [_, _], _ => rfl, ne_of c (30 + 12) (x := "Settled") rfl, k_Settled.ins.hm⟩, rfl⟩
  obtain ⟨C_Guess, c_Guess⟩ : ∃ C : OC_Guess K mg, C.C = ga K "Guess" := by
    obtain ⟨a', h3, h4⟩ := k_Guess.me "__init__" (by decide +kernel)
    cases i_Guess_init.symm.trans h3
    obtain ⟨a2, h5, h6⟩ := k_Guess.me "__eq__" (by decide +kernel)
    cases i_Guess_eq.symm.trans h5
    exact ⟨⟨_, _, fd_Guess_init, F_Guess_init, m_Guess, ⟨k_Guess.mkI, h3, h4, k_Guess.kp⟩, k_Guess.cl, k_Guess.no, [], .nil, FunD.bindsN (ps := ["self", "parts", "news", "told", "letters", "unknowns", "spares", "equations"]) F_Guess_init fun _ _ _ _ _ _ us hl => match us, hl with | [_, _, _, _, _, _, _, _], _ => rfl, k_Guess.ins, _, fd_Guess_eq, F_Guess_eq, h5, h6, FunD.bindsN F_Guess_eq fun _ _ _ _ _ _ us hl => match us, hl with | [_, _], _ => rfl, ne_of c (30 + 13) (x := "Guess") rfl, k_Guess.ins.hm⟩, rfl⟩
  obtain ⟨C_Pressed, c_Pressed⟩ : ∃ C : OC_Pressed K mg, C.C = ga K "Pressed" := by
    obtain ⟨a', h3, h4⟩ := k_Pressed.me "__init__" (by decide +kernel)
    cases i_Pressed_init.symm.trans h3
    obtain ⟨a2, h5, h6⟩ := k_Pressed.me "__eq__" (by decide +kernel)
    cases i_Pressed_eq.symm.trans h5
    exact ⟨⟨_, _, fd_Pressed_init, F_Pressed_init, m_Pressed, ⟨k_Pressed.mkI, h3, h4, k_Pressed.kp⟩, k_Pressed.cl, k_Pressed.no, [], .nil, FunD.bindsN (ps := ["self", "table", "ends"]) F_Pressed_init fun _ _ _ _ _ _ us hl => match us, hl with | [_, _, _], _ => rfl, k_Pressed.ins, _, fd_Pressed_eq, F_Pressed_eq, h5, h6, FunD.bindsN F_Pressed_eq fun _ _ _ _ _ _ us hl => match us, hl with | [_, _], _ => rfl, ne_of c (30 + 14) (x := "Pressed") rfl, k_Pressed.ins.hm⟩, rfl⟩
  obtain ⟨C_Stages, c_Stages⟩ : ∃ C : OC_Stages K mg, C.C = ga K "Stages" := by
    obtain ⟨a', h3, h4⟩ := k_Stages.me "__init__" (by decide +kernel)
    cases i_Stages_init.symm.trans h3
    obtain ⟨a2, h5, h6⟩ := k_Stages.me "__eq__" (by decide +kernel)
    cases i_Stages_eq.symm.trans h5
    exact ⟨⟨_, _, fd_Stages_init, F_Stages_init, m_Stages, ⟨k_Stages.mkI, h3, h4, k_Stages.kp⟩, k_Stages.cl, k_Stages.no, [], .nil, FunD.bindsN (ps := ["self", "grammar", "stages"]) F_Stages_init fun _ _ _ _ _ _ us hl => match us, hl with | [_, _, _], _ => rfl, k_Stages.ins, _, fd_Stages_eq, F_Stages_eq, h5, h6, FunD.bindsN F_Stages_eq fun _ _ _ _ _ _ us hl => match us, hl with | [_, _], _ => rfl, ne_of c (30 + 15) (x := "Stages") rfl, k_Stages.ins.hm⟩, rfl⟩
  obtain ⟨C_Entry, c_Entry⟩ : ∃ C : OC_Entry K mg, C.C = ga K "Entry" := by
    obtain ⟨a', h3, h4⟩ := k_Entry.me "__init__" (by decide +kernel)
    cases i_Entry_init.symm.trans h3
    obtain ⟨a2, h5, h6⟩ := k_Entry.me "__eq__" (by decide +kernel)
    cases i_Entry_eq.symm.trans h5
    exact ⟨⟨_, _, fd_Entry_init, F_Entry_init, m_Entry, ⟨k_Entry.mkI, h3, h4, k_Entry.kp⟩, k_Entry.cl, k_Entry.no, [], .nil, FunD.bindsN (ps := ["self", "book", "step", "lots"]) F_Entry_init fun _ _ _ _ _ _ us hl => match us, hl with | [_, _, _, _], _ => rfl, k_Entry.ins, _, fd_Entry_eq, F_Entry_eq, h5, h6, FunD.bindsN F_Entry_eq fun _ _ _ _ _ _ us hl => match us, hl with | [_, _], _ => rfl, ne_of c (30 + 16) (x := "Entry") rfl, k_Entry.ins.hm⟩, rfl⟩
  obtain ⟨C_Root, c_Root⟩ : ∃ C : OC_Root K mg, C.C = ga K "Root" := by
    obtain ⟨a', h3, h4⟩ := k_Root.me "__init__" (by decide +kernel)
    cases i_Root_init.symm.trans h3
    obtain ⟨a2, h5, h6⟩ := k_Root.me "__eq__" (by decide +kernel)
    cases i_Root_eq.symm.trans h5
    exact ⟨⟨_, _, fd_Root_init, F_Root_init, m_Root, ⟨k_Root.mkI, h3, h4, k_Root.kp⟩, k_Root.cl, k_Root.no, [], .nil, FunD.bindsN (ps := ["self", "told", "letters", "unknowns", "spares", "empties"]) F_Root_init fun _ _ _ _ _ _ us hl => match us, hl with | [_, _, _, _, _, _], _ => rfl, k_Root.ins, _, fd_Root_eq, F_Root_eq, h5, h6, FunD.bindsN F_Root_eq fun _ _ _ _ _ _ us hl => match us, hl with | [_, _], _ => rfl, ne_of c (30 + 17) (x := "Root") rfl, k_Root.ins.hm⟩, rfl⟩
  obtain ⟨C_Found, c_Found⟩ : ∃ C : OC_Found K mg, C.C = ga K "Found" := by
    obtain ⟨a', h3, h4⟩ := k_Found.me "__init__" (by decide +kernel)
    cases i_Found_init.symm.trans h3
    obtain ⟨a2, h5, h6⟩ := k_Found.me "__eq__" (by decide +kernel)
    cases i_Found_eq.symm.trans h5
    exact ⟨⟨_, _, fd_Found_init, F_Found_init, m_Found, ⟨k_Found.mkI, h3, h4, k_Found.kp⟩, k_Found.cl, k_Found.no, [], .nil, FunD.bindsN (ps := ["self", "turns", "filling"]) F_Found_init fun _ _ _ _ _ _ us hl => match us, hl with | [_, _, _], _ => rfl, k_Found.ins, _, fd_Found_eq, F_Found_eq, h5, h6, FunD.bindsN F_Found_eq fun _ _ _ _ _ _ us hl => match us, hl with | [_, _], _ => rfl, ne_of c (30 + 18) (x := "Found") rfl, k_Found.ins.hm⟩, rfl⟩
  obtain ⟨C_Shut, c_Shut⟩ : ∃ C : OC_Shut K mg, C.C = ga K "Shut" := by
    obtain ⟨a', h3, h4⟩ := k_Shut.me "__init__" (by decide +kernel)
    cases i_Shut_init.symm.trans h3
    obtain ⟨a2, h5, h6⟩ := k_Shut.me "__eq__" (by decide +kernel)
    cases i_Shut_eq.symm.trans h5
    exact ⟨⟨_, _, fd_Shut_init, F_Shut_init, m_Shut, ⟨k_Shut.mkI, h3, h4, k_Shut.kp⟩, k_Shut.cl, k_Shut.no, [], .nil, FunD.bindsN (ps := ["self", "paper"]) F_Shut_init fun _ _ _ _ _ _ us hl => match us, hl with | [_, _], _ => rfl, k_Shut.ins, _, fd_Shut_eq, F_Shut_eq, h5, h6, FunD.bindsN F_Shut_eq fun _ _ _ _ _ _ us hl => match us, hl with | [_, _], _ => rfl, ne_of c (30 + 19) (x := "Shut") rfl, k_Shut.ins.hm⟩, rfl⟩
  obtain ⟨C_Book, c_Book⟩ : ∃ C : OC_Book K mg, C.C = ga K "Book" := by
    obtain ⟨v0, w0, b0⟩ := FunD.binds1 (ps := ["self", "rows", "deeds", "ends", "states"]) F_Book_init 5 1 (by simp) rfl fun _ _ _ _ _ _ _ us its hl hi => match us, its, hl, hi with | [_, _, _, _, _], [_], _, _ => ⟨_, rfl, rfl⟩
    obtain ⟨v1, w1, b1⟩ := FunD.binds1 (ps := ["self", "rows", "deeds", "ends", "states"]) F_Book_init 4 0 (by simp) rfl fun _ _ _ _ _ _ _ us its hl hi => match us, its, hl, hi with | [_, _, _, _], [_], _, _ => ⟨_, rfl, rfl⟩
    obtain ⟨a', h3, h4⟩ := k_Book.me "__init__" (by decide +kernel)
    cases i_Book_init.symm.trans h3
    obtain ⟨a2, h5, h6⟩ := k_Book.me "__eq__" (by decide +kernel)
    cases i_Book_eq.symm.trans h5
    exact ⟨⟨_, _, fd_Book_init, F_Book_init, m_Book, ⟨k_Book.mkI, h3, h4, k_Book.kp⟩, k_Book.cl, k_Book.no, v0, w0, b0, v1, w1, b1, k_Book.ins, _, fd_Book_eq, F_Book_eq, h5, h6, FunD.bindsN F_Book_eq fun _ _ _ _ _ _ us hl => match us, hl with | [_, _], _ => rfl, ne_of c (30 + 20) (x := "Book") rfl, k_Book.ins.hm⟩, rfl⟩
  obtain ⟨C_Grammar, c_Grammar⟩ : ∃ C : OC_Grammar K mg, C.C = ga K "Grammar" := by
    obtain ⟨a', h3, h4⟩ := k_Grammar.me "__init__" (by decide +kernel)
    cases i_Grammar_init.symm.trans h3
    obtain ⟨a2, h5, h6⟩ := k_Grammar.me "__eq__" (by decide +kernel)
    cases i_Grammar_eq.symm.trans h5
    exact ⟨⟨_, _, fd_Grammar_init, F_Grammar_init, m_Grammar, ⟨k_Grammar.mkI, h3, h4, k_Grammar.kp⟩, k_Grammar.cl, k_Grammar.no, [], .nil, FunD.bindsN (ps := ["self", "rules"]) F_Grammar_init fun _ _ _ _ _ _ us hl => match us, hl with | [_, _], _ => rfl, k_Grammar.ins, _, fd_Grammar_eq, F_Grammar_eq, h5, h6, FunD.bindsN F_Grammar_eq fun _ _ _ _ _ _ us hl => match us, hl with | [_, _], _ => rfl, ne_of c (30 + 21) (x := "Grammar") rfl, k_Grammar.ins.hm⟩, rfl⟩
  obtain ⟨C_Filling, c_Filling⟩ : ∃ C : OC_Filling K mg, C.C = ga K "Filling" := by
    obtain ⟨a', h3, h4⟩ := k_Filling.me "__init__" (by decide +kernel)
    cases i_Filling_init.symm.trans h3
    obtain ⟨a2, h5, h6⟩ := k_Filling.me "__eq__" (by decide +kernel)
    cases i_Filling_eq.symm.trans h5
    exact ⟨⟨_, _, fd_Filling_init, F_Filling_init, m_Filling, ⟨k_Filling.mkI, h3, h4, k_Filling.kp⟩, k_Filling.cl, k_Filling.no, [], .nil, FunD.bindsN (ps := ["self", "grammar", "words"]) F_Filling_init fun _ _ _ _ _ _ us hl => match us, hl with | [_, _, _], _ => rfl, k_Filling.ins, _, fd_Filling_eq, F_Filling_eq, h5, h6, FunD.bindsN F_Filling_eq fun _ _ _ _ _ _ us hl => match us, hl with | [_, _], _ => rfl, ne_of c (30 + 22) (x := "Filling") rfl, k_Filling.ins.hm⟩, rfl⟩
  obtain ⟨C_Paper, c_Paper⟩ : ∃ C : OC_Paper K mg, C.C = ga K "Paper" := by
    obtain ⟨a', h3, h4⟩ := k_Paper.me "__init__" (by decide +kernel)
    cases i_Paper_init.symm.trans h3
    obtain ⟨a2, h5, h6⟩ := k_Paper.me "__eq__" (by decide +kernel)
    cases i_Paper_eq.symm.trans h5
    exact ⟨⟨_, _, fd_Paper_init, F_Paper_init, m_Paper, ⟨k_Paper.mkI, h3, h4, k_Paper.kp⟩, k_Paper.cl, k_Paper.no, [], .nil, FunD.bindsN (ps := ["self", "deeds", "entries"]) F_Paper_init fun _ _ _ _ _ _ us hl => match us, hl with | [_, _, _], _ => rfl, k_Paper.ins, _, fd_Paper_eq, F_Paper_eq, h5, h6, FunD.bindsN F_Paper_eq fun _ _ _ _ _ _ us hl => match us, hl with | [_, _], _ => rfl, ne_of c (30 + 23) (x := "Paper") rfl, k_Paper.ins.hm⟩, rfl⟩
  obtain ⟨A, hA⟩ : ∃ A : AllC K mg, ∀ x, x ∈ nm99 → csA A x = ga K x := by
    refine ⟨⟨C_Clash, C_Shape, C_Answer, C_Carries, C_Look, C_Trail, C_Case, C_Run, C_Way, C_Never, C_Trial, C_Canon, C_Settled, C_Guess, C_Pressed, C_Stages, C_Entry, C_Root, C_Found, C_Shut, C_Book, C_Grammar, C_Filling, C_Paper⟩, fun x hx => ?_⟩
    simp only [nm99, List.mem_cons, List.not_mem_nil, or_false] at hx
    rcases hx with rfl | rfl | rfl | rfl | rfl | rfl | rfl | rfl | rfl | rfl | rfl | rfl | rfl | rfl | rfl | rfl | rfl | rfl | rfl | rfl | rfl | rfl | rfl | rfl
    · exact (e_Clash _).trans c_Clash
    · exact (e_Shape _).trans c_Shape
    · exact (e_Answer _).trans c_Answer
    · exact (e_Carries _).trans c_Carries
    · exact (e_Look _).trans c_Look
    · exact (e_Trail _).trans c_Trail
    · exact (e_Case _).trans c_Case
    · exact (e_Run _).trans c_Run
    · exact (e_Way _).trans c_Way
    · exact (e_Never _).trans c_Never
    · exact (e_Trial _).trans c_Trial
    · exact (e_Canon _).trans c_Canon
    · exact (e_Settled _).trans c_Settled
    · exact (e_Guess _).trans c_Guess
    · exact (e_Pressed _).trans c_Pressed
    · exact (e_Stages _).trans c_Stages
    · exact (e_Entry _).trans c_Entry
    · exact (e_Root _).trans c_Root
    · exact (e_Found _).trans c_Found
    · exact (e_Shut _).trans c_Shut
    · exact (e_Book _).trans c_Book
    · exact (e_Grammar _).trans c_Grammar
    · exact (e_Filling _).trans c_Filling
    · exact (e_Paper _).trans c_Paper
  have hI : ∀ x, x ∈ nm99 → ∃ j fs, its[j]? = some (mkC x fs ["__init__", "__eq__"] (oth x)) ∧ ClsK K (ga K x) fs ["__init__", "__eq__"] := fun x hx => by
    simp only [nm99, List.mem_cons, List.not_mem_nil, or_false] at hx
    rcases hx with rfl | rfl | rfl | rfl | rfl | rfl | rfl | rfl | rfl | rfl | rfl | rfl | rfl | rfl | rfl | rfl | rfl | rfl | rfl | rfl | rfl | rfl | rfl | rfl
    · exact ⟨30 + 0, _, rfl, k_Clash⟩
    · exact ⟨30 + 1, _, rfl, k_Shape⟩
    · exact ⟨30 + 2, _, rfl, k_Answer⟩
    · exact ⟨30 + 3, _, rfl, k_Carries⟩
    · exact ⟨30 + 4, _, rfl, k_Look⟩
    · exact ⟨30 + 5, _, rfl, k_Trail⟩
    · exact ⟨30 + 6, _, rfl, k_Case⟩
    · exact ⟨30 + 7, _, rfl, k_Run⟩
    · exact ⟨30 + 8, _, rfl, k_Way⟩
    · exact ⟨30 + 9, _, rfl, k_Never⟩
    · exact ⟨30 + 10, _, rfl, k_Trial⟩
    · exact ⟨30 + 11, _, rfl, k_Canon⟩
    · exact ⟨30 + 12, _, rfl, k_Settled⟩
    · exact ⟨30 + 13, _, rfl, k_Guess⟩
    · exact ⟨30 + 14, _, rfl, k_Pressed⟩
    · exact ⟨30 + 15, _, rfl, k_Stages⟩
    · exact ⟨30 + 16, _, rfl, k_Entry⟩
    · exact ⟨30 + 17, _, rfl, k_Root⟩
    · exact ⟨30 + 18, _, rfl, k_Found⟩
    · exact ⟨30 + 19, _, rfl, k_Shut⟩
    · exact ⟨30 + 20, _, rfl, k_Book⟩
    · exact ⟨30 + 21, _, rfl, k_Grammar⟩
    · exact ⟨30 + 22, _, rfl, k_Filling⟩
    · exact ⟨30 + 23, _, rfl, k_Paper⟩
  have FAR : ∀ {C D : Addr}, Kc99 (csA A) C D → C8.InsC K D ∧ PySem.W.kitOne K (.ref D) (.ref C) = some false := fun h => by
    obtain ⟨x, y, hx, hy, n, rfl, rfl⟩ := h
    rw [hA x hx, hA y hy]
    obtain ⟨i, fs, h1, k1⟩ := hI x hx
    obtain ⟨j, gs, h2, k2⟩ := hI y hy
    exact ⟨k2.ins, no_of c j i h2 h1 (List.mem_filter.mpr ⟨hx, by simpa using n⟩) k1⟩
  have FAR2 : ∀ C D, Kc99 (csA A) C D → PySem.W.notFirst K C (.ref D) = true ∧ C ≠ D := fun C D h => by
    obtain ⟨x, y, hx, hy, n, rfl, rfl⟩ := h
    rw [hA x hx, hA y hy]
    obtain ⟨i, fs, h1, k1⟩ := hI x hx
    obtain ⟨j, gs, h2, k2⟩ := hI y hy
    obtain ⟨e1, e2⟩ := far_of c j i h2 h1 (List.mem_filter.mpr ⟨hx, by simpa using n⟩)
    refine ⟨?_, fun e => e1 e.symm⟩
    show ((Value.ref (ga K y) == Value.ref (ga K x)) || PySem.W.subIn K (.ref (ga K y)) (.ref (ga K x)) == some false) = true
    have e3 : PySem.W.subIn K (.ref (ga K y)) (.ref (ga K x)) = some false := e2
    rw [e3]
    simp
  have b := FunD.bindsA (ps := ["_law_script"]) D_law.F fun _ _ _ _ _ _ us hl => match us, hl with | [_], _ => rfl
  exact ⟨D_law.fd, fun s v => b s [v] rfl, fun base _ _ => by
    have EQ0 : ClEqB P w K mg base 0 P0 := clEq0
    have EQ1 : ClEqB P w K mg base 6 (P1 (Kc99 (csA A)) (csA A)) := by
      have h : ∀ x ns, (x, ns) ∈ tb0 → EqAt P w K mg base (Kc99 (csA A)) P0 4 5 (csA A x) ns := by
        intro x ns h
        simp only [tb0, List.mem_cons, Prod.mk.injEq, List.not_mem_nil, or_false] at h
        rcases h with ⟨rfl, rfl⟩ | ⟨rfl, rfl⟩ | ⟨rfl, rfl⟩ | ⟨rfl, rfl⟩ | ⟨rfl, rfl⟩ | ⟨rfl, rfl⟩ | ⟨rfl, rfl⟩ | ⟨rfl, rfl⟩ | ⟨rfl, rfl⟩ | ⟨rfl, rfl⟩ | ⟨rfl, rfl⟩ | ⟨rfl, rfl⟩ | ⟨rfl, rfl⟩
        · exact ⟨A.x_Clash.fe, A.x_Clash.fde, ok_Clash_eq A.x_Clash (Kc99 (csA A)) (csA A) (fun D h => FAR h) EQ0 T, A.x_Clash.ie, A.x_Clash.je, A.x_Clash.be, A.x_Clash.ne, A.x_Clash.mo⟩
        · exact ⟨A.x_Shape.fe, A.x_Shape.fde, ok_Shape_eq A.x_Shape (Kc99 (csA A)) (csA A) (fun D h => FAR h) EQ0 T, A.x_Shape.ie, A.x_Shape.je, A.x_Shape.be, A.x_Shape.ne, A.x_Shape.mo⟩
        · exact ⟨A.x_Answer.fe, A.x_Answer.fde, ok_Answer_eq A.x_Answer (Kc99 (csA A)) (csA A) (fun D h => FAR h) EQ0 T, A.x_Answer.ie, A.x_Answer.je, A.x_Answer.be, A.x_Answer.ne, A.x_Answer.mo⟩
        · exact ⟨A.x_Carries.fe, A.x_Carries.fde, ok_Carries_eq A.x_Carries (Kc99 (csA A)) (csA A) (fun D h => FAR h) EQ0 T, A.x_Carries.ie, A.x_Carries.je, A.x_Carries.be, A.x_Carries.ne, A.x_Carries.mo⟩
        · exact ⟨A.x_Look.fe, A.x_Look.fde, ok_Look_eq A.x_Look (Kc99 (csA A)) (csA A) (fun D h => FAR h) EQ0 T, A.x_Look.ie, A.x_Look.je, A.x_Look.be, A.x_Look.ne, A.x_Look.mo⟩
        · exact ⟨A.x_Trail.fe, A.x_Trail.fde, ok_Trail_eq A.x_Trail (Kc99 (csA A)) (csA A) (fun D h => FAR h) EQ0 T, A.x_Trail.ie, A.x_Trail.je, A.x_Trail.be, A.x_Trail.ne, A.x_Trail.mo⟩
        · exact ⟨A.x_Case.fe, A.x_Case.fde, ok_Case_eq A.x_Case (Kc99 (csA A)) (csA A) (fun D h => FAR h) EQ0 T, A.x_Case.ie, A.x_Case.je, A.x_Case.be, A.x_Case.ne, A.x_Case.mo⟩
        · exact ⟨A.x_Run.fe, A.x_Run.fde, ok_Run_eq A.x_Run (Kc99 (csA A)) (csA A) (fun D h => FAR h) EQ0 T, A.x_Run.ie, A.x_Run.je, A.x_Run.be, A.x_Run.ne, A.x_Run.mo⟩
        · exact ⟨A.x_Way.fe, A.x_Way.fde, ok_Way_eq A.x_Way (Kc99 (csA A)) (csA A) (fun D h => FAR h) EQ0 T, A.x_Way.ie, A.x_Way.je, A.x_Way.be, A.x_Way.ne, A.x_Way.mo⟩
        · exact ⟨A.x_Never.fe, A.x_Never.fde, ok_Never_eq A.x_Never (Kc99 (csA A)) (csA A) (fun D h => FAR h) EQ0 T, A.x_Never.ie, A.x_Never.je, A.x_Never.be, A.x_Never.ne, A.x_Never.mo⟩
        · exact ⟨A.x_Trial.fe, A.x_Trial.fde, ok_Trial_eq A.x_Trial (Kc99 (csA A)) (csA A) (fun D h => FAR h) EQ0 T, A.x_Trial.ie, A.x_Trial.je, A.x_Trial.be, A.x_Trial.ne, A.x_Trial.mo⟩
        · exact ⟨A.x_Book.fe, A.x_Book.fde, ok_Book_eq A.x_Book (Kc99 (csA A)) (csA A) (fun D h => FAR h) EQ0 T, A.x_Book.ie, A.x_Book.je, A.x_Book.be, A.x_Book.ne, A.x_Book.mo⟩
        · exact ⟨A.x_Grammar.fe, A.x_Grammar.fde, ok_Grammar_eq A.x_Grammar (Kc99 (csA A)) (csA A) (fun D h => FAR h) EQ0 T, A.x_Grammar.ie, A.x_Grammar.je, A.x_Grammar.be, A.x_Grammar.ne, A.x_Grammar.mo⟩
      unfold P1
      exact clEqS EQ0 h FAR2 (by decide) (by decide)
    have EQ2 : ClEqB P w K mg base 12 (P2 (Kc99 (csA A)) (csA A)) := by
      have h : ∀ x ns, (x, ns) ∈ tb1 → EqAt P w K mg base (Kc99 (csA A)) (P1 (Kc99 (csA A)) (csA A)) 4 11 (csA A x) ns := by
        intro x ns h
        simp only [tb1, List.mem_cons, Prod.mk.injEq, List.not_mem_nil, or_false] at h
        rcases h with ⟨rfl, rfl⟩ | ⟨rfl, rfl⟩ | ⟨rfl, rfl⟩ | ⟨rfl, rfl⟩ | ⟨rfl, rfl⟩ | ⟨rfl, rfl⟩ | ⟨rfl, rfl⟩ | ⟨rfl, rfl⟩
        · exact ⟨A.x_Canon.fe, A.x_Canon.fde, ok_Canon_eq A.x_Canon (Kc99 (csA A)) (csA A) (fun D h => FAR h) EQ1 T, A.x_Canon.ie, A.x_Canon.je, A.x_Canon.be, A.x_Canon.ne, A.x_Canon.mo⟩
        · exact ⟨A.x_Settled.fe, A.x_Settled.fde, ok_Settled_eq A.x_Settled (Kc99 (csA A)) (csA A) (fun D h => FAR h) EQ1 T, A.x_Settled.ie, A.x_Settled.je, A.x_Settled.be, A.x_Settled.ne, A.x_Settled.mo⟩
        · exact ⟨A.x_Guess.fe, A.x_Guess.fde, ok_Guess_eq A.x_Guess (Kc99 (csA A)) (csA A) (fun D h => FAR h) EQ1 T, A.x_Guess.ie, A.x_Guess.je, A.x_Guess.be, A.x_Guess.ne, A.x_Guess.mo⟩
        · exact ⟨A.x_Pressed.fe, A.x_Pressed.fde, ok_Pressed_eq A.x_Pressed (Kc99 (csA A)) (csA A) (fun D h => FAR h) EQ1 T, A.x_Pressed.ie, A.x_Pressed.je, A.x_Pressed.be, A.x_Pressed.ne, A.x_Pressed.mo⟩
        · exact ⟨A.x_Stages.fe, A.x_Stages.fde, ok_Stages_eq A.x_Stages (Kc99 (csA A)) (csA A) (fun D h => FAR h) EQ1 T, A.x_Stages.ie, A.x_Stages.je, A.x_Stages.be, A.x_Stages.ne, A.x_Stages.mo⟩
        · exact ⟨A.x_Entry.fe, A.x_Entry.fde, ok_Entry_eq A.x_Entry (Kc99 (csA A)) (csA A) (fun D h => FAR h) EQ1 T, A.x_Entry.ie, A.x_Entry.je, A.x_Entry.be, A.x_Entry.ne, A.x_Entry.mo⟩
        · exact ⟨A.x_Root.fe, A.x_Root.fde, ok_Root_eq A.x_Root (Kc99 (csA A)) (csA A) (fun D h => FAR h) EQ1 T, A.x_Root.ie, A.x_Root.je, A.x_Root.be, A.x_Root.ne, A.x_Root.mo⟩
        · exact ⟨A.x_Filling.fe, A.x_Filling.fde, ok_Filling_eq A.x_Filling (Kc99 (csA A)) (csA A) (fun D h => FAR h) EQ1 T, A.x_Filling.ie, A.x_Filling.je, A.x_Filling.be, A.x_Filling.ne, A.x_Filling.mo⟩
      unfold P2
      exact clEqS EQ1 h FAR2 (by decide) (by decide)
    have EQ3 : ClEqB P w K mg base 18 (P3 (Kc99 (csA A)) (csA A)) := by
      have h : ∀ x ns, (x, ns) ∈ tb2 → EqAt P w K mg base (Kc99 (csA A)) (P2 (Kc99 (csA A)) (csA A)) 4 17 (csA A x) ns := by
        intro x ns h
        simp only [tb2, List.mem_cons, Prod.mk.injEq, List.not_mem_nil, or_false] at h
        rcases h with ⟨rfl, rfl⟩ | ⟨rfl, rfl⟩
        · exact ⟨A.x_Found.fe, A.x_Found.fde, ok_Found_eq A.x_Found (Kc99 (csA A)) (csA A) (fun D h => FAR h) EQ2 T, A.x_Found.ie, A.x_Found.je, A.x_Found.be, A.x_Found.ne, A.x_Found.mo⟩
        · exact ⟨A.x_Paper.fe, A.x_Paper.fde, ok_Paper_eq A.x_Paper (Kc99 (csA A)) (csA A) (fun D h => FAR h) EQ2 T, A.x_Paper.ie, A.x_Paper.je, A.x_Paper.be, A.x_Paper.ne, A.x_Paper.mo⟩
      unfold P3
      exact clEqS EQ2 h FAR2 (by decide) (by decide)
    have EQ4 : ClEqB P w K mg base 24 (P4 (Kc99 (csA A)) (csA A)) := by
      have h : ∀ x ns, (x, ns) ∈ tb3 → EqAt P w K mg base (Kc99 (csA A)) (P3 (Kc99 (csA A)) (csA A)) 4 23 (csA A x) ns := by
        intro x ns h
        simp only [tb3, List.mem_cons, Prod.mk.injEq, List.not_mem_nil, or_false] at h
        rcases h with ⟨rfl, rfl⟩
        · exact ⟨A.x_Shut.fe, A.x_Shut.fde, ok_Shut_eq A.x_Shut (Kc99 (csA A)) (csA A) (fun D h => FAR h) EQ3 T, A.x_Shut.ie, A.x_Shut.je, A.x_Shut.be, A.x_Shut.ne, A.x_Shut.mo⟩
      unfold P4
      exact clEqS EQ3 h FAR2 (by decide) (by decide)
    have G_Clash_init := ok_Clash_init (P := P) (w := w) (base := base) A.x_Clash T
    have G_Shape_init := ok_Shape_init (P := P) (w := w) (base := base) A.x_Shape T
    have G_Answer_init := ok_Answer_init (P := P) (w := w) (base := base) A.x_Answer T
    have G_Carries_init := ok_Carries_init (P := P) (w := w) (base := base) A.x_Carries T
    have G_Look_init := ok_Look_init (P := P) (w := w) (base := base) A.x_Look T
    have G_Trail_init := ok_Trail_init (P := P) (w := w) (base := base) A.x_Trail T
    have G_Case_init := ok_Case_init (P := P) (w := w) (base := base) A.x_Case T
    have G_Run_init := ok_Run_init (P := P) (w := w) (base := base) A.x_Run T
    have G_Way_init := ok_Way_init (P := P) (w := w) (base := base) A.x_Way T
    have G_Never_init := ok_Never_init (P := P) (w := w) (base := base) A.x_Never T
    have G_Trial_init := ok_Trial_init (P := P) (w := w) (base := base) A.x_Trial T
    have G_Canon_init := ok_Canon_init (P := P) (w := w) (base := base) A.x_Canon T
    have G_Settled_init := ok_Settled_init (P := P) (w := w) (base := base) A.x_Settled T
    have G_Guess_init := ok_Guess_init (P := P) (w := w) (base := base) A.x_Guess T
    have G_Pressed_init := ok_Pressed_init (P := P) (w := w) (base := base) A.x_Pressed T
    have G_Stages_init := ok_Stages_init (P := P) (w := w) (base := base) A.x_Stages T
    have G_Entry_init := ok_Entry_init (P := P) (w := w) (base := base) A.x_Entry T
    have G_Root_init := ok_Root_init (P := P) (w := w) (base := base) A.x_Root T
    have G_Found_init := ok_Found_init (P := P) (w := w) (base := base) A.x_Found T
    have G_Shut_init := ok_Shut_init (P := P) (w := w) (base := base) A.x_Shut T
    have G_is_whole := ok_is_whole (P := P) (w := w) (base := base) D_is_whole T
    have G_is_sequence := ok_is_sequence (P := P) (w := w) (base := base) D_is_sequence T
    have G_is_couple := ok_is_couple (P := P) (w := w) (base := base) D_is_couple D_is_sequence G_is_sequence T
    have G_is_state := ok_is_state (P := P) (w := w) (base := base) D_is_state D_is_whole G_is_whole T
    have G_is_deed := ok_is_deed (P := P) (w := w) (base := base) D_is_deed D_is_state G_is_state D_is_sequence G_is_sequence T
    have G_is_side := ok_is_side (P := P) (w := w) (base := base) D_is_side D_is_whole G_is_whole D_is_sequence G_is_sequence T
    have G_is_goals := ok_is_goals (P := P) (w := w) (base := base) D_is_goals D_is_state G_is_state D_is_sequence G_is_sequence T
    have G_is_ends := ok_is_ends (P := P) (w := w) (base := base) D_is_ends D_is_goals G_is_goals D_is_state G_is_state D_is_couple G_is_couple T
    have G_is_row := ok_is_row (P := P) (w := w) (base := base) D_is_row D_is_side G_is_side D_is_couple G_is_couple T
    have G_sign_stands := ok_sign_stands (P := P) (w := w) (base := base) D_sign_stands T
    have G_Book_init := ok_Book_init (P := P) (w := w) (base := base) A.x_Book D_is_whole G_is_whole D_is_deed G_is_deed D_is_sequence G_is_sequence D_is_ends G_is_ends D_is_row G_is_row D_sign_stands G_sign_stands T
    have G_is_text := ok_is_text (P := P) (w := w) (base := base) D_is_text GCO T
    have G_is_rule := ok_is_rule (P := P) (w := w) (base := base) D_is_rule D_is_sequence G_is_sequence D_is_text G_is_text D_is_whole G_is_whole GCO T
    have G_rule_length := ok_rule_length (P := P) (w := w) (base := base) D_rule_length T
    have G_Grammar_init := ok_Grammar_init (P := P) (w := w) (base := base) A.x_Grammar D_is_sequence G_is_sequence D_is_rule G_is_rule D_rule_length G_rule_length T
    have G_is_name := ok_is_name (P := P) (w := w) (base := base) A D_is_name GCO T
    have G_is_fresh_name := ok_is_fresh_name (P := P) (w := w) (base := base) D_is_fresh_name
    have G_goes_on := ok_goes_on (P := P) (w := w) (base := base) A D_goes_on D_is_fresh_name G_is_fresh_name D_is_name G_is_name D_is_couple G_is_couple T
    have G_check_word := ok_check_word (P := P) (w := w) (base := base) A D_check_word D_is_sequence G_is_sequence D_is_whole G_is_whole T
    have G_is_word := ok_is_word (P := P) (w := w) (base := base) A D_is_word D_check_word G_check_word T
    have G_Filling_init := ok_Filling_init (P := P) (w := w) (base := base) A D_is_sequence G_is_sequence D_is_word G_is_word D_goes_on G_goes_on T
    have G_filling_of := ok_filling_of (P := P) (w := w) (base := base) A D_filling_of D_is_sequence G_is_sequence D_is_text G_is_text D_goes_on G_goes_on G_Filling_init G_Grammar_init T
    have G_Paper_init := ok_Paper_init (P := P) (w := w) (base := base) A T
    have G__law_source := ok_source (P := P) (w := w) (base := base) D__law_source.F T
    have G__law_take := ok_takeD (P := P) (w := w) (base := base) D__law_take T
    have G__law_made_later := ok__law_made_later (P := P) (w := w) (base := base) A D__law_made_later G_Entry_init G_Paper_init G_Shut_init G_Case_init G_Root_init G_Run_init G_Way_init G_Found_init G_Never_init G_Trial_init T
    have G__law_made := ok__law_made (P := P) (w := w) (base := base) A D__law_made D__law_made_later G__law_made_later G_Clash_init G_Canon_init G_Settled_init G_Guess_init G_Shape_init G_Answer_init G_Carries_init G_Look_init G_Trail_init G_Pressed_init G_Stages_init T
    have G__law_told_later := ok__law_told_later (P := P) (w := w) (base := base) A D__law_told_later T
    have G__law_told := ok__law_told (P := P) (w := w) (base := base) A D__law_told D__law_told_later G__law_told_later T
    have G__law_book := ok__law_book (P := P) (w := w) (base := base) A D__law_book G_Book_init T
    have G__law_part := ok__law_part (P := P) (w := w) (base := base) A D__law_part D__law_book G__law_book D_filling_of G_filling_of G_Grammar_init G_Entry_init G_Paper_init T
    have G__law_result_right := ok__law_result_right (P := P) (w := w) (base := base) A D__law_result_right D__law_part G__law_part D__law_made G__law_made D__law_told G__law_told T EQ4
    have G_law := ok_law (P := P) (w := w) (base := base) A D_law D__law_source G__law_source D__law_take G__law_take D__law_result_right G__law_result_right D__law_made G__law_made D__law_part G__law_part T EQ4
    exact G_law⟩
end
end My
open PySem PySem.W PySem.Calls PyProof.Rows
set_option maxRecDepth 100000 in
set_option maxHeartbeats 0 in
theorem PySem.Challenge.cw_pressedwords_k99_results_equal_by_all_at_holds : PySem.Challenge.rw_pressedwords_k99_results_equal_by_all_at.Holds := by
  w_on; o_law
  refine HandSHeadRun.head_any (r := OpenLaw.row PySem.Challenge.rw_pressedwords_k99_results_equal_by_all_at) (q := view (OpenLaw.row PySem.Challenge.rw_pressedwords_k99_results_equal_by_all_at).prog [86]) (H := My.hk) (ob := My.ob) (M := 12500) (loose := My.loose) (d := HandSHeadRun.topDef (OpenLaw.row PySem.Challenge.rw_pressedwords_k99_results_equal_by_all_at).prog 86) (kwd := []) My.ob_eq
    (by kernel_rfl) (fun s => by kernel_rfl) My.run (by kernel_rfl) (by kernel_rfl) (by kernel_rfl) (by rfl) (by first | assumption | decide +kernel) (by decide +kernel) ⟨rfl, rfl, rfl, rfl, rfl, by decide +kernel⟩ ?hw ?hc
  case hw => w_witness2
  case hc =>
    refine L2.walk_ofE (l := PySem.Challenge.rw_pressedwords_k99_results_equal_by_all_at) (n := 63) (k := 32) (x := "_law_script") (CX := L2.CX0) rfl (by decide) (by kernel_rfl) ⟨rfl, by decide, by decide⟩ ?F (fun _ _ _ _ z => z)
    intro w mg fa h Y G hmg0
    obtain ⟨K, KX, c⟩ := Y
    have hmg : mg ("law" : PySem.Str) = some (.ref fa) := by
      have e : (HandSHeadRun.topDef (OpenLaw.row PySem.Challenge.rw_pressedwords_k99_results_equal_by_all_at).prog 86).name = ("law" : PySem.Str) := by kernel_rfl
      rw [← e]
      exact hmg0
    obtain ⟨fd, hb, hF⟩ := My.law_fn (P := (PySem.Challenge.rw_pressedwords_k99_results_equal_by_all_at).prog) (w := w) KX G c hmg
    exact ⟨K, fd, My.sp_law K, KX, hb, fun H a ns hl _ hS => ⟨a, ns, rfl, hS, fun _ => rfl⟩, hF⟩
