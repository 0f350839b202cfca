import PyProof.Rows.All
import Wide.All
import OpenK.AllK
import Wide.FinOn
import HandS.Base
import HandS.Call
import HandS.List
import HandS.Comp
import HandS.Ends
import HandS.Words
import HandS.WordsList
import HandS.Wide
import HandS.Codes
import HandS.Defaults
import HandS.Iter
import HandS.Walk
import HandS.IsInst
import HandS.TupAny
import HandS.Conv
import HandS.TryOnly
import PyProof.EnumMake
import PyProof.Rows.EnumRows
import HandS.TupMul
import HandS.Deep
import HandS.Text
import HandS.SortInts
import HandS.Replace
import HandS.Zip
import KE.GoesEnum
import HandS.Dict
import KE.DataMinMax
import HandS.SortKw
import HandS.GenYield
import HandS.GenList
import KE.KStateDown
import HandS.Exc
import HandS.ExcInit
import HandS.ExcIs
import HandS.Head0
import HandS.Head1
import HandS.Head2
import HandS.HeadEnd
import HandS.HeadHook1
import HandS.HeadHook2
import HandS.OwnEq
import PyProof.InstNe
import HandS.Property
import PySem.Challenge.RW_pressedwords_k22_whole_lengths_and_class
set_option Elab.async false
set_option linter.all false
set_option maxRecDepth 100000
set_option maxHeartbeats 2000000
/-! a list comprehension of any number of clauses -/
namespace Lcn
open PySem PySem.Spec PyProof.Rows L2
section
variable {elt tg iter tg1 iter1 : Expr} {ifs ifs1 : List Expr} {gens : List Comprehension} {scope : Scope} {pos : Pos} {d : Nat} {it acc : Value} {env : Env}
theorem turn_mid (hd : gens[d]? = some ⟨tg, iter, ifs, 0⟩) (hd1 : gens[d + 1]? = some ⟨tg1, iter1, ifs1, 0⟩) :
    compTurn (.ListComp elt gens scope pos) d it acc env = (do
      standAt iter.pos
      match ← pyNext it with
      | none => pure (.done .next)
      | some v =>
        letOwnedTupleGo tg it v
        assign tg env v
        let mut ok := true
        for c in ifs do
          if ok then ok ← isTrue c env (eval c env)
        if ok then
          let x ← eval iter1 env
          standAt iter1.pos
          let x ← foldedSetIterable iter1 env x
          let _ ← runOwn (.compStart (.ListComp elt gens scope pos) (d + 1) (← holding [x] (pyIter x)) acc env) env
        again (.compLoop (.ListComp elt gens scope pos) d it acc env)) := by
  unfold compTurn
  simp only [hd, hd1]
  rfl
theorem turn_in (hd : gens[d]? = some ⟨tg, iter, ifs, 0⟩) (hd1 : gens[d + 1]? = none) :
    compTurn (.ListComp elt gens scope pos) d it acc env = (do
      standAt iter.pos
      match ← pyNext it with
      | none => pure (.done .next)
      | some v =>
        letOwnedTupleGo tg it v
        assign tg env v
        let mut ok := true
        for c in ifs do
          if ok then ok ← isTrue c env (eval c env)
        if ok then
          (do let _ ← call (.builtin "list.append") [acc, ← eval elt env])
        again (.compLoop (.ListComp elt gens scope pos) d it acc env)) := by
  unfold compTurn
  simp only [hd, hd1]
  rfl
variable {prog : Program} {w : World} {A : Around} {s : Shared} {R : Result → Shared → Prop}
abbrev F0 : Value → Shared → Prop := fun _ _ => False
/-- what stands behind a clause's tests, to Z: the next clause, whole; or the element, appended -/
def Body (prog : Program) (w : World) (A : Around) (elt : Expr) (gens : List Comprehension) (scope : Scope) (pos : Pos) (acc : Value) (env : Env) (d : Nat) (Z : Shared → Prop) (s : Shared) : Prop :=
  match gens[d]? with
  | some g' => g'.is_async = 0 ∧ (∀ x, foldedSetIterable g'.iter env x = pure x) ∧ wpAny (model prog w) A (eval g'.iter env) (fun x s₄ => wpAny (model prog w) A (pyIter x) (fun i s₅ =>
      codeAny (model prog w) A (.compStart (.ListComp elt gens scope pos) d i acc env) (fun r s' => match r with
        | .ok _ => Z s'
        | .error _ => False) s₅) F0 s₄) F0 s
  | none => wpAny (model prog w) A (eval elt env) (fun x s₄ => wpAny (model prog w) A (call (.builtin "list.append") [acc, x]) (fun _ s₅ => Z s₅) F0 s₄) F0 s
/-- the loop of the clause d, by a word I that falls -/
theorem loop_rule (hsync : ∀ g ∈ gens, g.is_async = 0) (hd : gens[d]? = some ⟨tg, iter, ifs, 0⟩) (I : Nat → Shared → Prop)
    (turn : ∀ n s, I n s → wpAny (model prog w) A (pyNext it) (fun r s₁ => match r with
      | none => R (.ok .next) s₁
      | some v => wpAny (model prog w) A (letOwnedTupleGo tg it v) (fun _ s₁' => wpAny (model prog w) A (assign tg env v) (fun _ s₂ =>
          wpAny (model prog w) A (forIn ifs true fun c r => if r = true then do let ok ← isTrue c env (eval c env); pure (ForInStep.yield ok) else pure (ForInStep.yield r)) (fun ok s₃ =>
            if ok = true then Body prog w A elt gens scope pos acc env (d + 1) (fun s' => ∃ m, m < n ∧ I m s') s₃ else ∃ m, m < n ∧ I m s₃) F0 s₂) F0 s₁') F0 s₁) F0 s)
    (n : Nat) (h : I n s) : codeAny (model prog w) A (.compLoop (.ListComp elt gens scope pos) d it acc env) R s := by
  refine codeAny_loop rfl I (fun n s hI => ?_) n h
  show wpAny _ A ((compTurn (.ListComp elt gens scope pos) d it acc env).onRaise _) _ _ s
  refine wpAny_noted ?_
  cases hn : gens[d + 1]? with
  | none =>
    rw [turn_in hd hn]
    refine wpAny_bind (wpAny_standAt (wpAny_bind (thnF (turn n s hI) fun r s₁ h₁ => ?_)))
    cases r with
    | none => exact wpAny_pure h₁
    | some v =>
      refine wpAny_bind (thnF h₁ fun _ s₁' h₁' => wpAny_bind (thnF h₁' fun _ s₂ h₂ => wpAny_bind (thnF h₂ fun ok s₃ h₃ => ?_)))
      cases ok with
      | false => exact wpAny_pure ⟨rfl, h₃⟩
      | true =>
        have h₃ : Body prog w A elt gens scope pos acc env (d + 1) (fun s' => ∃ m, m < n ∧ I m s') s₃ := h₃
        unfold Body at h₃
        rw [hn] at h₃
        exact wpAny_bind (wpAny_bind (thnF h₃ fun x s₄ h₄ => wpAny_bind (thnF h₄ fun _ s₅ h₅ => wpAny_pure (wpAny_pure ⟨rfl, h₅⟩))))
  | some g' =>
    obtain ⟨tg1, iter1, ifs1, asy⟩ := g'
    by_cases ha : asy = 0
    · subst ha
      rw [turn_mid hd hn]
      refine wpAny_bind (wpAny_standAt (wpAny_bind (thnF (turn n s hI) fun r s₁ h₁ => ?_)))
      cases r with
      | none => exact wpAny_pure h₁
      | some v =>
        refine wpAny_bind (thnF h₁ fun _ s₁' h₁' => wpAny_bind (thnF h₁' fun _ s₂ h₂ => wpAny_bind (thnF h₂ fun ok s₃ h₃ => ?_)))
        cases ok with
        | false => exact wpAny_pure ⟨rfl, h₃⟩
        | true =>
          have h₃ : Body prog w A elt gens scope pos acc env (d + 1) (fun s' => ∃ m, m < n ∧ I m s') s₃ := h₃
          unfold Body at h₃
          rw [hn] at h₃
          obtain ⟨_, hs, h₃⟩ := h₃
          refine wpAny_bind (thnF h₃ fun x s₄ h₄ => ?_)
          refine wpAny_bind (wpAny_standAt (wpAny_bind (wpAny_of_eq (hs x) (wpAny_bind (wpAny_holding (thnF h₄ fun i1 s₅ h₅ => ?_))))))
          refine wpAny_bind (wpAny_runOwn ?_)
          rw [Around.mark_none]
          refine codeAny_mono h₅ fun r s' hr => ?_
          cases r with
          | ok f =>
            first
              | exact wpAny_pure ⟨rfl, hr⟩
              | exact wpAny_bind (wpAny_pure (wpAny_pure ⟨rfl, hr⟩))
          | error e => exact hr.elim
    · exact absurd (hsync _ (List.mem_of_getElem? hn)) ha
/-- a clause's start: its source is asked for its iterator once more, or not -/
theorem start_rule (hd : gens[d]? = some ⟨tg, iter, ifs, 0⟩) (h0 : codeAny (model prog w) A (.compLoop (.ListComp elt gens scope pos) d it acc env) R s)
    (h : wpAny (model prog w) A (pyIter it) (fun it' s' => codeAny (model prog w) A (.compLoop (.ListComp elt gens scope pos) d it' acc env) R s') (notedBy (model prog w) A env fun x s' => R (.error x) s') s) :
    codeAny (model prog w) A (.compStart (.ListComp elt gens scope pos) d it acc env) R s := by
  refine codeAny_of_tree ?_
  show wpAny _ _ ((compStart (.ListComp elt gens scope pos) d it acc env).onRaise _) _ _ s
  refine wpAny_notedAt ?_
  unfold compStart
  have e1 : (clausesOf (.ListComp elt gens scope pos))[d]? = some ⟨tg, iter, ifs, 0⟩ := hd
  rw [e1]
  show wpAny _ _ (ask >>= _) _ _ s
  refine wpAny_bind (wpAny_askSetting (wpAny_ite ?_))
  split
  · first
      | exact wpAny_bind (wpAny_pure (wpAny_pure (And.intro rfl h0)))
      | exact wpAny_pure (And.intro rfl h0)
  · first
      | exact wpAny_bind (wpAny_rule (wpAny_bind (wpAny_standAt (wpAny_bind (wpAny_mono h (fun it' s' h' => wpAny_pure (And.intro rfl h')) fun _ _ x => x)))))
      | (refine wpAny_bind (wpAny_rule ?_); show wpAny _ _ (standAt iter.pos >>= _) _ _ s; exact wpAny_bind (wpAny_standAt (wpAny_bind (wpAny_mono h (fun it' s' h' => wpAny_pure (And.intro rfl h')) fun _ _ x => x))))
end
section
variable {X : Cx} {elt : Expr} {gens : List Comprehension} {scope : Scope} {pos : Pos}
/-- what a block's rest is to reach, the list being built at D -/
abbrev TB := Addr → L2.St → Hp → (Hp → Prop) → Prop
/-- the element, appended -/
def tEnd (te : TE) : TB := fun D σ H Nx => te σ H fun y H' => ∃ acc, H' D = some (.lst acc) ∧ acc.length < sizeLine ∧ Nx (upd H' D (.lst (acc ++ [y])))
/-- a clause's turns, from H on, till Z -/
def tTurns (g : TG) (tt : TT) (t1 : TB) (vs : List Nat) (J : It) (D : Addr) (σ : L2.St) (Z : Hp → Prop) (H : Hp) : Prop :=
  ∃ W : Nat → Nat → Hp → Prop, (∃ m, W 0 m H) ∧ ∀ i m H, W i m H → (J.stop i H ∧ Z H) ∨
    (J.go i H ∧ ∃ Nx : Hp → Prop, (∀ H', Nx H' → ∃ m', m' < m ∧ W (i + 1) m' H') ∧ ∀ x H', J.yld i H x H' → g x (wipe σ vs) H' fun σ2 H2 => wipe σ2 vs = wipe σ vs ∧ tt σ2 H2 fun b H3 => if b = true then t1 D σ2 H3 Nx else Nx H3)
/-- a clause behind another -/
def tCl (wi : TI) (g : TG) (tt : TT) (t1 : TB) (vs : List Nat) : TB := fun D σ H Nx => wi σ H fun J H1 => tTurns g tt t1 vs J D σ Nx H1
/-- the whole -/
def tLcN (wi : TI) (g : TG) (tt : TT) (t1 : TB) (vs : List Nat) : TE := fun σ H Q => wi σ H fun J H1 => ∀ D, H1 D = none → tTurns g tt t1 vs J D σ (fun H' => Q (.ref D) H') (upd H1 D (.lst []))
/-- slots that know, but for vs, what the others know -/
def Kn (vs : List Nat) (σ σ' : L2.St) : Prop := σ'.length = σ.length ∧ ∀ (j : Nat) v, (wipe σ vs)[j]? = some (some v) → σ'[j]? = some (some v)
structure PB (X : Cx) (elt : Expr) (gens : List Comprehension) (scope : Scope) (pos : Pos) (d : Nat) (vs : List Nat) (t : TB) : Prop where
  run : ∀ (D : Addr) (pins : List (Addr × Obj)) (s : Shared) (σ : L2.St) (H : Hp) (Nx : Hp → Prop) (Z : Shared → Prop), Inv X pins σ H s → t D σ H Nx →
    (∀ s' σ' H', Inv X pins σ' H' s' → Kn vs σ σ' → Nx H' → Z s') → Body X.prog X.w X.A elt gens scope pos (.ref D) X.env d Z s
theorem pb_end {d : Nat} {te : TE} (hx : X.xe = fun _ _ => False) (hd : gens[d]? = none) (he : PE X elt te) : PB X elt gens scope pos d [] (tEnd te) := by
  refine ⟨fun D pins s σ H Nx Z I h hZ => ?_⟩
  unfold Body
  rw [hd]
  have r := he.run pins s σ H _ I h
  rw [hx] at r
  refine thnF r fun z s1 ⟨yv, H1, I1, r1, acc, hD, hz, nx⟩ => ?_
  exact app_ok I1 hD hz r1 fun s2 I2 => hZ s2 σ _ I2 ⟨rfl, fun j v e => e⟩ nx
variable {tg iter : Expr} {ifs : List Expr} {d : Nat} {g : TG} {tt : TT} {t1 : TB} {vs vs1 : List Nat} {J : It} {fp : List Addr} {it : Addr} {tn : Nat → Heap → Prop} {pins : List (Addr × Obj)} {s : Shared} {σ : L2.St} {H : Hp} {D : Addr} {S : Hp → Prop} {R : Result → Shared → Prop}
theorem loop_ok (hx : X.xe = fun _ _ => False) (hc : X.calm = true) (hsync : ∀ g ∈ gens, g.is_async = 0) (hd : gens[d]? = some ⟨tg, iter, ifs, 0⟩) (pg : PG X tg g) (pt : PTs X ifs tt)
    (hb : PB X elt gens scope pos (d + 1) vs1 t1) (hv : ∀ i ∈ vs1, i ∈ vs) (T : Turn X.prog X.w X.K tg J fp it tn)
    (stat : ∀ {σ' : L2.St} {H' : Hp} {s' : Shared}, Inv X pins σ' H' s' → (∀ b ∈ fp, H' b = none) → ∀ b ∈ fp, FpOk X pins H' b)
    (I : Inv X pins (wipe σ vs) H s) (st : tn 0 s.heap) (nf : ∀ b ∈ fp, H b = none) (h : tTurns g tt t1 vs J D σ S H)
    (hR : ∀ s' H', Inv X pins (wipe σ vs) H' s' → S H' → R (.ok .next) s') :
    codeAny (model X.prog X.w) X.A (.compLoop (.ListComp elt gens scope pos) d (.ref it) (.ref D) X.env) R s := by
  obtain ⟨W, ⟨m0, w0⟩, turn⟩ := h
  refine loop_rule hsync hd (fun n s' => ∃ i H', Inv X pins (wipe σ vs) H' s' ∧ tn i s'.heap ∧ (∀ b ∈ fp, H' b = none) ∧ W i n H') ?_ m0 ⟨0, H, I, st, nf, w0⟩
  rintro n sa ⟨i, Ha, Ia, sta, na, wa⟩
  rcases turn i n Ha wa with ⟨stop, z⟩ | ⟨go, Nx, hNx, step⟩
  · refine thnF (T.done X rfl rfl rfl hc i pins sa _ Ha (fun _ _ => False) Ia (stat Ia na) sta stop) fun r sb ⟨hr, Ib⟩ => ?_
    subst hr
    exact hR sb Ha Ib z
  · refine thnF (T.item X rfl rfl rfl hc i pins sa _ Ha (fun _ _ => False) Ia (stat Ia na) sta go) fun r sb ⟨u, hr, hb'⟩ => ?_
    subst hr
    refine thnF hb' fun _ sc ⟨x, Hc, Ic, rc, yc, stc, nc⟩ => ?_
    have Ip := Ic.pinned (stat Ic nc) (T.obj _ _ stc)
    have r1 := pg.run _ sc _ Hc x u _ Ip rc (step x Hc yc)
    rw [hx] at r1
    refine thnF r1 fun _ sd ⟨σd, Hd, Id, hw, qd⟩ => ?_
    have r2 := pt.run _ sd σd Hd _ Id qd
    rw [hx] at r2
    refine thnF r2 fun b se ⟨He, Ie, qe⟩ => ?_
    have fin : ∀ {σf : L2.St} {s' : Shared} {H' : Hp}, Inv X (pins ++ pinsAt fp sc.heap) σf H' s' → Kn vs1 σd σf → Nx H' → ∃ m, m < n ∧ ∃ i H', Inv X pins (wipe σ vs) H' s' ∧ tn i s'.heap ∧ (∀ b ∈ fp, H' b = none) ∧ W i m H' := fun {σf s' H'} I' kn nx => by
      obtain ⟨m', hm, w'⟩ := hNx H' nx
      have pin' : ∀ b ∈ fp, ∀ o, sc.heap.get? b = some o → s'.heap.get? b = some o ∧ H' b = none := fun b hb o e =>
        let z := I'.pin (b, o) (List.mem_append_right _ (List.mem_append_right _ (mem_pinsAt hb e)))
        ⟨z.1, z.2.1⟩
      refine ⟨m', hm, i + 1, H', I'.unpinned.weak ?_ (fun j v e => ?_), T.keep _ _ _ stc fun b hb o e => (pin' b hb o e).1, fun b hb => ?_, w'⟩
      · rw [kn.1, ← wipe_length σd vs, hw]
      · rw [← hw] at e
        obtain ⟨e1, e2⟩ := wipe_some e
        exact kn.2 j v (by rw [wipe_out fun z => e2 (hv j z)]; exact e1)
      · obtain ⟨o, e, _⟩ := T.obj _ _ stc b hb
        exact (pin' b hb o e).2
    cases b with
    | false =>
      simp only [Bool.false_eq_true, if_false] at qe ⊢
      exact fin Ie ⟨rfl, fun j v e => (wipe_some e).1⟩ qe
    | true =>
      simp only [if_true] at qe ⊢
      exact hb.run D _ se σd He Nx _ Ie qe fun s' σ' H' I' kn nx => fin I' kn nx
/-- one clause more -/
theorem pb_cl {wi : TI} (hx : X.xe = fun _ _ => False) (hc : X.calm = true) (hsync : ∀ g ∈ gens, g.is_async = 0) (hd : gens[d]? = some ⟨tg, iter, ifs, 0⟩) (hi : PI X tg iter wi) (pg : PG X tg g) (pt : PTs X ifs tt)
    (hb : PB X elt gens scope pos (d + 1) vs1 t1) (hv : ∀ i ∈ vs1, i ∈ vs) (hs : ∀ env x, foldedSetIterable iter env x = pure x := by intro _ _; rfl) :
    PB X elt gens scope pos d vs (tCl wi g tt t1 vs) := by
  refine ⟨fun D pins s σ H Nx Z I h hZ => ?_⟩
  unfold Body
  rw [hd]
  refine ⟨rfl, hs _, ?_⟩
  have r := hi.run pins s σ H _ I h
  rw [hx] at r
  refine thnF r fun xv s1 h1 => thnF h1 fun itv s2 ⟨it, fp, tn, J, H2, e, I2, T, st, f, q⟩ => ?_
  subst e
  have loop := loop_ok (R := fun r s' => match r with
    | .ok _ => Z s'
    | .error _ => False) hx hc hsync hd pg pt hb hv T (fun _ hn b hb => ⟨hn b hb, (f b hb).2⟩) (I2.weak (wipe_length _ _) fun j v e => (wipe_some e).1) st (fun b hb => (f b hb).1) q
    fun s' H' I' z => hZ s' _ H' I' ⟨wipe_length _ _, fun j v e => e⟩ z
  exact start_rule hd loop (T.self X.A 0 _ _ _ st loop)
end
section
variable {X : Cx} {elt : Expr} {more : List Comprehension} {scope : Scope} {pos : Pos} {tg iter : Expr} {ifs : List Expr} {g : TG} {tt : TT} {t1 : TB} {vs1 : List Nat} {wi : TI} {own : List (Str × Nat)}
/-- [elt for tg in iter if .. for .. ..] as a value: any number of clauses -/
theorem pe_lcn (hc : X.calm = true) (hN : X.N.Nodup) (hi : PI X tg iter wi) (ok : BlkOk X.N X.env.scope scope own) (hsync : ∀ g ∈ (⟨tg, iter, ifs, 0⟩ :: more : List Comprehension), g.is_async = 0)
    (hg : ∀ (s : Shared) (H : Hp) (C : Addr) (cl : List (Str × Addr)) (fp : List Addr), PG (X.blk s H scope (compEnvC scope cl C X.env) fp) tg g)
    (ht : ∀ (s : Shared) (H : Hp) (C : Addr) (cl : List (Str × Addr)) (fp : List Addr), PTs (X.blk s H scope (compEnvC scope cl C X.env) fp) ifs tt)
    (hb : ∀ (s : Shared) (H : Hp) (C : Addr) (cl : List (Str × Addr)) (fp : List Addr), PB (X.blk s H scope (compEnvC scope cl C X.env) fp) elt (⟨tg, iter, ifs, 0⟩ :: more) scope pos 1 vs1 t1)
    (hv : ∀ i ∈ vs1, i ∈ own.map (·.2)) (hs : ∀ x, foldedSetIterable iter X.env x = pure x := by intro _; rfl) :
    PE X (.ListComp elt (⟨tg, iter, ifs, 0⟩ :: more) scope pos) (tLcN wi g tt t1 (own.map (·.2))) := by
  refine ⟨fun pins s σ H Q I h => ?_⟩
  rw [eval_ListComp]
  have seen : ∀ y ∈ scope.names, y.2 = .free → ∃ c, X.env.cells.lookup y.1 = some c := fun y hy e => (ok.free y hy e).elim (fun k => I.ok.has _ (.inl k)) fun k => I.ok.has _ (.inr k)
  refine wpAny_comprehension_free (use := none) (gs := more) rfl hs (closure_ok seen) ok.kind (fun y hy e => by rw [ok.uniq y hy, e])
    (thn (hi.run pins s σ H _ I h) fun xv s1 h1 => thn h1 fun itv s2 ⟨it, fp, tn, J, H2, e, I2, T, st2, f2, q⟩ => ?_)
  subst e
  refine wpAny_newObj_type (newEnv_comp ?_) (by show 0 ≤ sizeLine; decide)
  have fresh : H2 s2.heap.objs.size = none := I2.hok.fresh (Nat.le_refl _)
  have qD := q _ fresh
  generalize hD : s2.heap.objs.size = D at fresh qD
  generalize hs3 : ({ s2 with heap := s2.heap.push { cls := .type "list", data := .seq ([] : List Value).toArray } } : Shared) = s3
  have up : s3.heap = s2.heap.push { cls := .type "list", data := .seq ([] : List Value).toArray } := by rw [← hs3]
  generalize hH3 : upd H2 D (.lst []) = H3 at qD
  have I3 : Inv X pins σ H3 s3 := by
    rw [← hH3, ← hs3]
    exact I2.laid (t' := s2.toks) (fun b o e => Heap.get?_push_of_some _ e) (Nat.le_of_eq hD) ⟨Nat.zero_le _, [], 0, .nil, by rw [← hD]; exact Heap.get?_push_size _ rfl⟩
  have f3 : ∀ b ∈ fp, FpOk X pins H3 b ∧ b < s3.heap.objs.size := fun b hb => by
    obtain ⟨o, e, _⟩ := T.obj _ _ st2 b hb
    have lt := Heap.lt_size e
    refine ⟨⟨?_, (f2 b hb).2⟩, by rw [up, Heap.size_push]; exact Nat.lt_succ_of_lt lt⟩
    rw [← hH3, upd_ne (by rw [← hD]; exact Nat.ne_of_lt lt)]
    exact (f2 b hb).1
  have I4 := block_start I3 ok hN f3
  have hg := hg s3 H3 s3.heap.objs.size (cellsFrom (s3.heap.objs.size + 1) scope.names (cloFrom X.env.cells scope.names [])) fp
  have ht := ht s3 H3 s3.heap.objs.size (cellsFrom (s3.heap.objs.size + 1) scope.names (cloFrom X.env.cells scope.names [])) fp
  have hb := hb s3 H3 s3.heap.objs.size (cellsFrom (s3.heap.objs.size + 1) scope.names (cloFrom X.env.cells scope.names [])) fp
  generalize hce : compEnvC scope (cellsFrom (s3.heap.objs.size + 1) scope.names (cloFrom X.env.cells scope.names [])) s3.heap.objs.size X.env = ce at I4 hg ht hb
  have cL : ce.locals = s3.heap.objs.size := by subst hce; rfl
  generalize hs4 : ({ s3 with heap := pushCells (s3.heap.push { cls := .type "dict", data := .dict #[] }) scope.names } : Shared) = s4 at I4
  have st4 : tn 0 s4.heap := T.keep _ _ _ st2 fun b _ o e => by
    rw [← hs4]
    exact pushCells_keeps _ _ _ _ (Heap.get?_push_of_some _ (by rw [up]; exact Heap.get?_push_of_some _ e))
  have loop := loop_ok (X := X.blk s3 H3 scope ce fp) (it := it) (pos := pos) (R := compPost (model X.prog X.w) X.A X.xe none (EP X pins σ Q) (.ref D) s3.heap.objs.size) rfl hc hsync rfl hg ht hb hv T
    (fun I' hn b hb => ⟨hn b hb, (I'.ok.exf b hb).1, I'.ok.exfs b hb, .inl hb, fun x c e => (I'.ok.exf b hb).2 x c e, fun p hp => absurd (show p ∈ ([] : List (Addr × Obj)) ++ [] from hp) (by simp)⟩)
    I4 st4 (fun b hb => (f3 b hb).1.1) qD fun s5 H5 I5 z => by
      have I6 : Inv X pins σ H5 s5 := I3.call' (ch := fp) I5.os I5.base I5.hok I5.bare fun b hb => ⟨(f3 b hb).1.2.2.2.1, (f3 b hb).1.2.1, (f3 b hb).1.2.2.2.2.1, (f3 b hb).1.2.2.2.2.2⟩
      have nC : H5 s3.heap.objs.size = none := cL ▸ (I5.free : H5 ce.locals = none)
      obtain ⟨m, hn, _⟩ := I5.loc
      obtain ⟨g0, g1, g2, g3, g4, g5⟩ := I3.fpOk (Nat.le_refl _) nC
      refine ⟨m, cL ▸ (show s5.heap.Ns ce.locals m from hn), fun h'' sb => ?_⟩
      exact ⟨.ref D, H5, I6.turned (t' := s5.toks) (fun b o hb e => (sb.2 b hb).trans e) g0 g1 g3 g4 g5, rfl, z⟩
  subst hs3 hs4 hce hD
  exact codeAny_compStart_list loop (T.self X.A 0 _ _ _ st4 loop)
end
end Lcn
set_option maxHeartbeats 4000000
/-! sequences that are lists or tuples; comprehensions told by what they give -/
namespace Sq
open PySem PySem.Spec PyProof.Rows L2 Lcn
/-- a list or a tuple stands -/
def Sqn (K : PySem.W.Frag) (H : Hp) (a : Addr) (xs : List V) : Prop := SqL K H a xs ∨ SqT K H a xs
theorem SqT.same {K : PySem.W.Frag} {H H' : Hp} {a : Addr} {xs : List V} (e : Same H H') (h : SqT K H a xs) : SqT K H' a xs := by
  rcases h with (h | ⟨o, h⟩) | h
  · exact .inl (.inl (e _ _ h))
  · exact .inl (.inr ⟨o, e _ _ h⟩)
  · exact .inr h
theorem Sqn.same {K : PySem.W.Frag} {H H' : Hp} {a : Addr} {xs : List V} (e : Same H H') (h : Sqn K H a xs) : Sqn K H' a xs := h.imp e.seq (SqT.same e)
theorem same_upd {H H' : Hp} {p : Addr} {o : HO} (e : Same H H') (h : H p = none) : Same H (upd H' p o) := fun b u x => by
  rw [upd_ne (ne_of_none x h)]
  exact e b u x
theorem same_new {H : Hp} {p : Addr} {o : HO} (h : H p = none) : Same H (upd H p o) := same_upd (Same.refl H) h
/-! ### what is no list stays -/
def nol : HO → Bool
  | .lst _ => false
  | _ => true
def KT (H H' : Hp) : Prop := ∀ b o, nol o = true → H b = some o → H' b = some o
theorem KT.refl (H : Hp) : KT H H := fun _ _ _ h => h
theorem KT.trans {H H1 H2 : Hp} (a : KT H H1) (b : KT H1 H2) : KT H H2 := fun c o n h => b c o n (a c o n h)
theorem KT.of {H H' : Hp} (e : Same H H') : KT H H' := fun b o _ h => e b o h
theorem KT.tup {K : PySem.W.Frag} {H H' : Hp} {a : Addr} {xs : List V} (e : KT H H') (h : SqT K H a xs) : SqT K H' a xs := by
  rcases h with (h | ⟨o, h⟩) | h
  · exact .inl (.inl (e _ _ rfl h))
  · exact .inl (.inr ⟨o, e _ _ rfl h⟩)
  · exact .inr h
/-- a list's place written anew -/
theorem KT.lst {H : Hp} {D : Addr} {xs ys : List V} (h : H D = some (.lst xs)) : KT H (upd H D (.lst ys)) := fun b o n e => by
  by_cases hb : b = D
  · subst hb
    rw [h] at e
    cases e
    cases n
  · rw [upd_ne hb]
    exact e
theorem KT.new {H : Hp} {p : Addr} {o : HO} (h : H p = none) : KT H (upd H p o) := KT.of (same_new h)
/-! ### a frame: all stays but what M lets change, and M's own promise G goes on -/
structure Fr (M : Addr → Prop) (G : Hp → Prop) (H H' : Hp) : Prop where
  keep : ∀ b o, ¬ M b → H b = some o → H' b = some o
  kt : KT H H'
  on : G H → G H'
section
variable {M : Addr → Prop} {G : Hp → Prop}
theorem Fr.refl (H : Hp) : Fr M G H H := ⟨fun _ _ _ h => h, KT.refl H, fun g => g⟩
theorem Fr.trans {H H1 H2 : Hp} (a : Fr M G H H1) (b : Fr M G H1 H2) : Fr M G H H2 := ⟨fun c o n h => b.keep c o n (a.keep c o n h), a.kt.trans b.kt, fun g => b.on (a.on g)⟩
end
/-- G hangs on what stands at A alone, and A is there; M lies in A -/
structure Gd (A M : Addr → Prop) (G : Hp → Prop) : Prop where
  dep : ∀ H H', (∀ b o, A b → H b = some o → H' b = some o) → G H → G H'
  dom : ∀ H b, G H → A b → ∃ o, H b = some o
  sub : ∀ b, M b → A b
/-- nothing may change -/
abbrev F0 : Hp → Hp → Prop := Fr (fun _ => False) (fun _ => True)
theorem gd0 : Gd (fun _ => False) (fun _ => False) (fun _ => True) := ⟨fun _ _ _ g => g, fun _ _ _ z => z.elim, fun _ z => z⟩
theorem F0.of {H H' : Hp} (e : Same H H') : F0 H H' := ⟨fun b o _ h => e b o h, KT.of e, fun g => g⟩
theorem F0.same {H H' : Hp} (e : F0 H H') : Same H H' := fun b o h => e.keep b o (fun z => z) h
section
variable {A M : Addr → Prop} {G : Hp → Prop}
theorem Fr.of (u : Gd A M G) {H H' : Hp} (e : Same H H') : Fr M G H H' := ⟨fun b o _ h => e b o h, KT.of e, u.dep H H' fun b o _ h => e b o h⟩
theorem Gd.nA (u : Gd A M G) {H : Hp} {D : Addr} (g : G H) (h : H D = none) : ¬ A D := fun m => by
  obtain ⟨o, h'⟩ := u.dom H D g m
  rw [h] at h'
  cases h'
theorem Fr.free (u : Gd A M G) {H H' : Hp} (e : Fr M G H H') (g : G H) {D : Addr} (h : H' D = none) : H D = none := by
  cases q : H D with
  | none => rfl
  | some o =>
    rw [e.keep D o (fun m => u.nA (e.on g) h (u.sub D m)) q] at h
    cases h
theorem Gd.out (u : Gd A M G) {H : Hp} {D : Addr} {o : HO} (nA : ¬ A D) (g : G H) : G (upd H D o) := u.dep H _ (fun b ob ha h => by
  rw [upd_ne (fun z => nA (by rw [← z]; exact ha))]
  exact h) g
end
/-! ### a comprehension over one walk that keeps all -/
/-- n turns, turn i with x, X i x; the heap stays -/
def YIs (X : Nat → V → Prop) : Nat → Hp → V → Hp → Prop := fun i H x H' => H' = H ∧ X i x
/-- at D a list of n things stands, R of each -/
def Got (D : Addr) (n : Nat) (R : Hp → Nat → V → Prop) (H' : Hp) : Prop := ∃ ys, H' D = some (.lst ys) ∧ ys.length = n ∧ ∀ i y, ys[i]? = some y → R H' i y
def Stb (R : Hp → Nat → V → Prop) : Prop := ∀ H H' i v, KT H H' → R H i v → R H' i v
theorem got_snoc {D : Addr} {n : Nat} {R : Hp → Nat → V → Prop} {H : Hp} {ys : List V} {y : V} (st : Stb R) (h : H D = some (.lst ys)) (hn : ys.length = n) (hR : ∀ i y, ys[i]? = some y → R H i y) (hy : R H n y) : Got D (n + 1) R (upd H D (.lst (ys ++ [y]))) := by
  have k : KT H (upd H D (.lst (ys ++ [y]))) := KT.lst h
  refine ⟨ys ++ [y], upd_same, by rw [List.length_append, hn]; rfl, fun i z hz => ?_⟩
  rcases Nat.lt_or_ge i ys.length with lt | ge
  · rw [List.getElem?_append_left lt] at hz
    exact st _ _ _ _ k (hR i z hz)
  · rw [List.getElem?_append_right ge] at hz
    cases e : i - ys.length with
    | zero =>
      rw [e] at hz
      cases hz
      have : i = n := by omega
      rw [this]
      exact st _ _ _ _ k hy
    | succ j =>
      rw [e] at hz
      cases hz
theorem lc_fr {A M : Addr → Prop} {G : Hp → Prop} {J : It} {n : Nat} {Gw : Hp → Prop} {Xt : Nat → V → Prop} (w : Walk J n Gw (YIs Xt)) (hn : n < sizeLine) {g : TG} {te : TE} {vs : List Nat} {σ : L2.St} {H1 : Hp} {D : Addr} {Qd : Hp → Prop} {R : Hp → Nat → V → Prop} (st : Stb R) (u : Gd A M G)
    (hD : H1 D = none) (hG : G H1) (hGw : ∀ H', Fr M G H1 H' → Gw H')
    (hs : ∀ i x H' (Q : VK), i < n → Xt i x → Fr M G H1 H' → (∀ y H4, Fr M G H' H4 → R H4 i y → Q y H4) → g x (wipe σ vs) H' fun σ2 H2 => wipe σ2 vs = wipe σ vs ∧ te σ2 H2 Q)
    (hd : ∀ H', Fr M G H1 H' → Got D n R H' → Qd H') :
    ∃ W : Nat → Nat → Hp → Prop, (∃ m, W 0 m (upd H1 D (.lst []))) ∧ ∀ i m H, W i m H →
      (J.stop i H ∧ Qd H) ∨ (J.go i H ∧ ∃ Nx : Hp → Prop, (∀ H', Nx H' → ∃ m', m' < m ∧ W (i + 1) m' H') ∧ ∀ x H', J.yld i H x H' → g x (wipe σ vs) H' fun σ2 H2 => wipe σ2 vs = wipe σ vs ∧ tYes σ2 H2 fun b H3 =>
        if b = true then te σ2 H3 fun y H4 => ∃ acc, H4 D = some (.lst acc) ∧ acc.length < sizeLine ∧ Nx (upd H4 D (.lst (acc ++ [y]))) else Nx H3) := by
  have nA : ¬ A D := u.nA hG hD
  have nD : ¬ M D := fun m => nA (u.sub D m)
  refine lc_it w (fun i H => Fr M G H1 H ∧ Got D i R H) ⟨Fr.of u (same_new hD), [], upd_same, rfl, fun i y h => by cases i <;> cases h⟩ (fun i H _ p => hGw H p.1) (fun i x H H' hi p y => ?_) (fun H p => hd H p.1 p.2)
  obtain ⟨e, hx⟩ := y
  subst e
  obtain ⟨fr, ys, hDl, hl, hR⟩ := p
  refine hs i x H' _ hi hx fr fun y H4 f4 hy => ?_
  have d4 := f4.keep D _ nD hDl
  refine ⟨ys, d4, by omega, ⟨fun b o nm h => ?_, fun b o no h => ?_, fun gg => ?_⟩, got_snoc st d4 hl (fun i y h => st _ _ _ _ f4.kt (hR i y h)) hy⟩
  · rw [upd_ne (ne_of_none h hD)]
    exact f4.keep b o nm (fr.keep b o nm h)
  · rw [upd_ne (ne_of_none h hD)]
    exact f4.kt b o no (fr.kt b o no h)
  · exact u.out nA (f4.on (fr.on gg))
/-! ### a list or a tuple, walked -/
@[irreducible] def iSeq (K : PySem.W.Frag) (tl : TE) : TI := fun σ H R => tl σ H fun x H1 => ∃ a xs, x = .ref a ∧ ((SqL K H1 a xs ∧ R (Itl K a) H1) ∨ (SqT K H1 a xs ∧ R (Itt K a) H1))
theorem pi_seq {X : Cx} {tg l : Expr} {tl : TE} (hl : PE X l tl) : PI X tg l (iSeq X.K tl) := by
  refine ⟨fun pins s σ H R I h => ?_⟩
  unfold iSeq at h
  refine thn (hl.run pins s σ H _ I h) fun v s1 ⟨x, H1, I1, r1, a, xs, e, q⟩ => ?_
  subst e
  cases r1
  have here : ∀ b ∈ [s1.heap.objs.size], FpOk X pins H1 b := fun b hb => by
    have e : b = s1.heap.objs.size := by simpa using hb
    rw [e]
    exact I1.fpOk (Nat.le_refl _) (I1.hok.fresh (Nat.le_refl _))
  rcases q with ⟨hq, q⟩ | ⟨hq, q⟩
  · obtain ⟨its, rv, p, hz⟩ := I1.list hq
    exact wpAny_pyIter_list p.isList ⟨s1.heap.objs.size, [s1.heap.objs.size], _, _, H1, rfl, I1.kept (t' := s1.toks) fun b o e => Heap.get?_push_of_some _ e, turn_list a _, ⟨_, Heap.get?_push_size _ rfl, rfl, rfl⟩, here, q⟩
  · obtain ⟨its, rv, p, hz⟩ := I1.tuple hq
    exact wpAny_pyIter_tuple (show s1.heap.IsTuple a its.toArray from p) ⟨s1.heap.objs.size, [s1.heap.objs.size], _, _, H1, rfl, I1.kept (t' := s1.toks) fun b o e => Heap.get?_push_of_some _ e, turn_tuple a _, ⟨_, Heap.get?_push_size _ rfl, rfl, rfl⟩, here, q⟩
theorem seq_rd {K : PySem.W.Frag} {tl : TE} {σ : L2.St} {H H0 H1 : Hp} {R : It → Hp → Prop} {a : Addr} {xs : List V} (e0 : Same H0 H1) (hl : ∀ Q : VK, Q (.ref a) H1 → tl σ H Q) (hs : Sqn K H0 a xs)
    (q : ∀ (J : It) (Gw : Hp → Prop), Walk J xs.length Gw (YIs fun i x => xs[i]? = some x) → (∀ H', (∀ o, H0 a = some o → H' a = some o) → Gw H') → R J H1) : iSeq K tl σ H R := by
  unfold iSeq
  refine hl _ ⟨a, xs, rfl, hs.imp (fun h => ⟨e0.seq h, q _ _ walk_list fun H' e => ?_⟩) (fun h => ⟨SqT.same e0 h, q _ _ walk_tup fun H' e => ?_⟩)⟩
  · rcases h with (h | ⟨o, h⟩) | h
    · exact .inl (.inl (e _ h))
    · exact .inl (.inr ⟨o, e _ h⟩)
    · exact .inr h
  · rcases h with (h | ⟨o, h⟩) | h
    · exact .inl (.inl (e _ h))
    · exact .inl (.inr ⟨o, e _ h⟩)
    · exact .inr h
/-! ### xs.extend(t), t a tuple -/
def rExtT (K : PySem.W.Frag) : V → List V → Hp → VK → Prop := fun x vs H Q => ∃ l b xs zs, x = .ref l ∧ vs = [.ref b] ∧ H l = some (.lst xs) ∧ SqT K H b zs ∧ xs.length + zs.length ≤ sizeLine ∧ Q .non (upd H l (.lst (xs ++ zs)))
/-! ### tuple(x) -/
@[irreducible] def rTupOf (K : PySem.W.Frag) (xs : List V) (H : Hp) (Q : VK) : Prop := ∃ p ys, xs = [.ref p] ∧ ((SqL K H p ys ∧ ∀ l, H l = none → Q (.ref l) (upd H l (.tup ys))) ∨ (SqT K H p ys ∧ Q (.ref p) H))
theorem call_tupR {X : Cx} : CallR X (.type "tuple") (rTupOf X.K) := fun pins s σ H xs us Q I r h => by
  unfold rTupOf at h
  exact call_tuple_of pins s σ H xs us Q I r h
theorem rd_tup {K : PySem.W.Frag} {H : Hp} {a : Addr} {xs : List V} {Q : VK} (hs : Sqn K H a xs) (q : ∀ b H', Same H H' → SqT K H' b xs → Q (.ref b) H') : rTupOf K [.ref a] H Q := by
  unfold rTupOf
  exact ⟨a, xs, rfl, hs.imp (fun h => ⟨h, fun l hl => q l _ (same_new hl) (SqT.of upd_same)⟩) (fun h => ⟨h, q a H (Same.refl H) h⟩)⟩
/-! ### t[i:j], t a tuple -/
@[irreducible] def rSlR (K : PySem.W.Frag) (x : V) (lo hi : Option Int) (H : Hp) (Q : VK) : Prop := rSlA K x lo hi H Q
theorem sl_tupR {X : Cx} : SlR X (rSlR X.K) := by
  have e : rSlR X.K = rSlA X.K := by
    funext x lo hi H Q
    unfold rSlR
    rfl
  rw [e]
  exact sl_tupA
theorem rd_sl {K : PySem.W.Frag} {H : Hp} {a : Addr} {xs : List V} {lo hi : Option Int} {Q : VK} (ha : SqT K H a xs) (q : ∀ c H', Same H H' → SqT K H' c (cutV xs lo hi) → Q (.ref c) H') : rSlR K (.ref a) lo hi H Q := by
  unfold rSlR
  refine ⟨a, xs, rfl, ha, fun e => ?_, fun _ p hp => q p _ (same_new hp) (SqT.of upd_same)⟩
  refine q a H (Same.refl H) ?_
  have : cutV xs lo hi = xs := by
    unfold cutV
    rw [e.1, e.2]
    simp
  rw [this]
  exact ha
/-! ### rules for within a block: the written part named -/
section
variable {X : Cx} {K : PySem.W.Frag} (hK : X.K = K)
include hK
theorem ix_tupK : IxR X (rIxT K) := hK ▸ ix_tup
theorem ix_listK : IxR X (rIxL K) := hK ▸ ix_list
theorem ix_seqK : IxR X (rIx K) := hK ▸ ix_seq
theorem sl_tupRK : SlR X (rSlR K) := hK ▸ sl_tupR
theorem op_catAK : OpR X (binaryOp .Add) (rCatA K) := hK ▸ op_catA
theorem op_in_seqK : OpR X (compareOp .In) (rIn K false) := hK ▸ op_in_seq
theorem call_len_seqK : CallR X (.builtin "len") (fun xs H Q => ∃ p ys, xs = [.ref p] ∧ (SqL K H p ys ∨ SqT K H p ys) ∧ Q (.int ys.length) H) := hK ▸ call_len_seq
theorem call_tuple_ofK : CallR X (.type "tuple") (fun xs H Q => ∃ p ys, xs = [.ref p] ∧ ((SqL K H p ys ∧ ∀ l, H l = none → Q (.ref l) (upd H l (.tup ys))) ∨ (SqT K H p ys ∧ Q (.ref p) H))) := hK ▸ call_tuple_of
theorem call_tupRK : CallR X (.type "tuple") (rTupOf K) := hK ▸ call_tupR
theorem call_isiK : CallR X (.builtin "isinstance") (rIsi K) := hK ▸ call_isi
theorem call_isiTK : CallR X (.builtin "isinstance") (rIsiT K) := hK ▸ call_isiT
theorem cr_allK (hc : X.calm = true := by rfl) : CallR X (.builtin "all") (rAll K) := hK ▸ cr_all hc
theorem pi_seqK {tg l : Expr} {tl : TE} (hl : PE X l tl) : PI X tg l (iSeq K tl) := hK ▸ pi_seq hl
theorem pi_tupK {tg l : Expr} {tl : TE} (hl : PE X l tl) : PI X tg l (iTup K tl) := hK ▸ pi_tup hl
theorem pi_listK {tg l : Expr} {tl : TE} (hl : PE X l tl) : PI X tg l (iList K tl) := hK ▸ pi_list hl
theorem pg_tupK (hc : X.calm = true) {es : List Expr} {k : Nat} {pos : Pos} {t : TGs} {n : Nat} (h : PGs X es t) (hn : (assignEach es X.env).length = n := by rfl) (hst : (assignEach es X.env).findIdx? (·.1) = none := by rfl) : PG X (.Tuple es k pos) (gTup K n t) := hK ▸ pg_tup hc h hn hst
end
theorem ext_tup (l : Addr) (items : Array Value) (n : Nat) (b : Addr) (items2 : Array Value) (n2 : Nat) (dct : Option Addr) (sl : Array (Option Value)) (hs0 : ¬(!items.isEmpty && Builtin.List.listTooLong (items.size + items2.size)) = true) (hs1 : items.size ≤ sizeLine) (hs2 : items.size + items2.size ≤ sizeLine + 1) :
    Meets (Builtin.«list.extend» ⟨[.ref l, .ref b], []⟩) (fun _ R s => s.heap.get? l = some { cls := .type "list", dict := none, data := .seq items n, slots := #[] } ∧ s.heap.get? b = some ⟨.type "tuple", dct, .seq items2 n2, sl⟩ ∧ R (.ok (.ret Value.none)) { s with heap := s.heap.update l (Obj.mapSeq fun x => x ++ items2), toks := s.toks }) :=
  .of_wp fun prog w A R s h => by
    obtain ⟨hp, g, d, tk, os⟩ := s
    obtain ⟨hl, hb, h⟩ := h
    have f2 := AutoSeq1.sub_tuple_tuple
    have f4 := AutoSeq1.sub_tuple_list
    have f3 := AutoSeq1.sub_list_list
    have f5 := AutoSeq1.sub_list_tuple
    have hz' : (items ++ items2).size ≤ sizeLine + 1 := by rw [Array.size_append]; exact hs2
    wp_walk using (wpAny_updateSeq hl rfl (hz := hs1) (_hz' := hz')), AutoSeq1.wpAny_loadPart' hl, AutoSeq1.wpAny_loadPart' hb
    exact ⟨_, rfl, h⟩
theorem mt_extT {X : Cx} : MtM X "list.extend" (rExtT X.K) := by
  intro pins s σ H x vs v us Q I rx rv h
  obtain ⟨l, b, xs, zs, rfl, rfl, hH, hB, hz, q⟩ := h
  cases rx
  obtain ⟨u, rfl, ru⟩ := rv.one
  cases ru
  obtain ⟨z, its, n, r, hl, e⟩ := I.lstM hH
  obtain ⟨its2, r2, ⟨⟨oc, od, dt, os⟩, e2, c2, n2, d2⟩, z2⟩ := I.tuple hB
  dsimp only at c2 d2
  subst c2 d2
  have l1 := r.length
  have l2 := r2.length
  have hsz : its.toArray.size + its2.toArray.size ≤ sizeLine := by
    rw [List.size_toArray, List.size_toArray]
    omega
  have hlong : ¬ (!its.toArray.isEmpty && Builtin.List.listTooLong (its.toArray.size + its2.toArray.size)) = true := by
    rw [notLongL hsz, Bool.and_false]
    exact Bool.false_ne_true
  refine call_meets PySem.F.slot_list_extend ⟨_, e, rfl⟩ PySem.F.entry_list_extend (PySem.F.args_list_extend_2 _ _) (ext_tup l its.toArray n b its2.toArray n2 od os hlong (by rw [List.size_toArray]; omega) (by omega)) ⟨e, e2, ?_⟩
  refine ⟨.non, _, I.lset (its' := its ++ its2) hH e (by simp) (r.append r2) ?_, rfl, q⟩
  rw [List.length_append]
  omega
theorem walk_at_list {K : PySem.W.Frag} {a : Addr} {xs : List V} : Walk (Itl K a) xs.length (fun H => SqL K H a xs) (YIs fun i x => xs[i]? = some x) := walk_list
theorem walk_at_tup {K : PySem.W.Frag} {a : Addr} {xs : List V} : Walk (Itt K a) xs.length (fun H => SqT K H a xs) (YIs fun i x => xs[i]? = some x) := walk_tup
theorem walk_at_range {lo : Int} {n : Nat} : Walk (Itr lo n) n (fun _ => True) (YIs fun i x => x = .int (lo + i)) := walk_range
end Sq
set_option maxHeartbeats 4000000
/-! a, b, .. = a list or a tuple of that length -/
namespace Sq
open PySem PySem.Spec PyProof.Rows L2 Lcn
def gSeq (K : PySem.W.Frag) (n : Nat) (t : TGs) : TG := fun v σ H Q => ∃ a xs, v = .ref a ∧ Sqn K H a xs ∧ xs.length = n ∧ t xs σ H Q
theorem pg_seq {X : Cx} {pos : Pos} {es : List Expr} {k : Nat} {t : TGs} {n : Nat} (hc : X.calm = true) (h : PGs X es t)
    (hn : (assignEach es X.env).length = n := by rfl) (hst : (assignEach es X.env).findIdx? (·.1) = none := by rfl) : PG X (.Tuple es k pos) (gSeq X.K n t) := by
  refine ⟨fun pins s σ H v u Q I r hw => ?_⟩
  obtain ⟨a, xs, e1, hq, hl, hw⟩ := hw
  rcases hq with hq | hq
  · exact (pg_lst (pos := pos) (k := k) hc h hn hst).run pins s σ H v u Q I r ⟨a, xs, e1, hq, hl, hw⟩
  · exact (pg_tup (pos := pos) (k := k) hc h hn hst).run pins s σ H v u Q I r ⟨a, xs, e1, hq, hl, hw⟩
theorem pg_seqK {X : Cx} {K : PySem.W.Frag} {pos : Pos} (hK : X.K = K) {es : List Expr} {k : Nat} {t : TGs} {n : Nat} (hc : X.calm = true) (h : PGs X es t)
    (hn : (assignEach es X.env).length = n := by rfl) (hst : (assignEach es X.env).findIdx? (·.1) = none := by rfl) : PG X (.Tuple es k pos) (gSeq K n t) := hK ▸ pg_seq hc h hn hst
theorem pe_fldK {X : Cx} {K : PySem.W.Frag} (hK : X.K = K) {e : Expr} {f : Str} {pos : Pos} {ta : TE} (he : PE X e ta) (hab : attributeBase e f X.env (eval e X.env) = eval e X.env) : PE X (.Attribute e f pos) (tFld K ta f) := hK ▸ pe_fld he hab
theorem mt_indexK {X : Cx} {K : PySem.W.Frag} (hK : X.K = K) : MtR X "list.index" (rIndex K) := hK ▸ mt_index
theorem pe_bmK {X : Cx} {K : PySem.W.Frag} (hK : X.K = K) {o e : Expr} {es : List Expr} {to : TE} {t : TA} {name : Str} {apos cpos : Pos} {T id : String} {r : V → List V → Hp → VK → Prop} (pa : PlainAttrs T) (slot : Slot T name id) (hty : typeOf (.builtin id) = pure (.type "method_descriptor")) (hm : MtR X id r) (ho : PE X o to) (ha : PA X (e :: es) t)
    (hbase : attributeBase o name X.env (eval o X.env) = eval o X.env := by rfl)
    (hfew : ((backTo cpos (starEach (e :: es) X.env)).all (fun x => !x.1) && (backToKw cpos (keywordEach [] X.env)).all (fun x => x.1.isSome)
      && decide ((e :: es).length + ([] : List Keyword).length + (if ([] : List Keyword).isEmpty then 0 else 1) < 30)) = true := by rfl)
    (hline : (apos.endLine == cpos.line) = true := by rfl) (hs : starEach (e :: es) X.env = (false, eval e X.env) :: starEach es X.env := by rfl) (hplain : (backTo cpos (starEach es X.env)).any (·.1) = false := by rfl) :
    PE X (.Call (.Attribute o name apos) (e :: es) [] cpos) (tBM K T r to t) := hK ▸ pe_bm pa slot hty hm ho ha hbase hfew hline hs hplain
end Sq
set_option maxHeartbeats 4000000
/-! enumerate(t), t a tuple -/
namespace En
open PySem PySem.Spec PyProof.Rows L2 Sq
open AutoSeq1 (wpAny_loadPart')
section
variable {prog : Program} {w : World} {A : Around} {E : Value → Shared → Prop} {s : Shared}
/-- one step of the tuple's own walk -/
theorem next_t {it t : Addr} {i : Nat} {items : Array Value} {x : Value} {Q : Value → Shared → Prop} (hit : s.heap.IsTupleIter it t i) (ht : s.heap.IsTuple t items) (hx : items[i]? = some x)
    (hQ : ∀ h', h'.IsTupleIter it t (i + 1) → Heap.SameBut it s.heap h' → Q x { s with heap := h' }) : wpAny (model prog w) A (Builtin.SmallTypes.nextOf (.ref it)) Q E s := by
  obtain ⟨o, ho, hc, hd⟩ := id hit
  obtain ⟨ol, hol, _, nl, hdl⟩ := ht
  unfold Builtin.SmallTypes.nextOf
  refine wpAny_bind (wpAny_callSpecial?_slot (name := Str.ofString "__next__") hit.typeIs F.slot_tuple_iterator_next (wpAny_call_entry F.slot_tuple_iterator_next hit.typeIs F.entry_tuple_iterator_next ?_ (F.args_tuple_iterator_next_1 _)))
  show wpAny _ _ (field (.ref it) 0 >>= _) _ _ s
  refine wpAny_bind (wpAny_field ho hd (x := .ref t) rfl ?_)
  show wpAny _ _ (if (Value.ref t == Value.none) = true then _ else _) _ _ s
  rw [if_neg (show ¬ ((Value.ref t == Value.none) = true) from Bool.false_ne_true)]
  show wpAny _ _ (field (.ref it) 1 >>= _) _ _ s
  refine wpAny_bind (wpAny_field ho hd (x := .int i 0) rfl ?_)
  show wpAny _ _ (seqItems? (.ref t) >>= _) _ _ s
  refine wpAny_bind (wpAny_seqItems hol hdl ?_)
  simp only [Int.toNat_natCast, hx]
  refine wpAny_bind (wpAny_setField ho hd (by simp) (wpAny_pure ⟨x, rfl, wpAny_pure (hQ _ ?_ (Heap.SameBut.update ..))⟩))
  exact ⟨_, Heap.get?_update_self _ ho (Obj.isFreed_of_fields (Obj.data_mapFields hd _)), (Obj.cls_mapFields ..).trans hc, by
    rw [Obj.data_mapFields hd]; simp [rawInt]⟩
theorem next_t_end {it t : Addr} {i : Nat} {items : Array Value} {Q : Value → Shared → Prop} (hh : A.handled = none) (hit : s.heap.IsTupleIter it t i) (ht : s.heap.IsTuple t items) (hx : items[i]? = none)
    (hE : ∀ h' e, Heap.ExtBut it s.heap h' → (∃ o, h'.get? e = some o ∧ o.cls = .type "StopIteration") → E (.ref e) { s with heap := h' }) : wpAny (model prog w) A (Builtin.SmallTypes.nextOf (.ref it)) Q E s := by
  obtain ⟨o, ho, hc, hd⟩ := id hit
  obtain ⟨ol, hol, _, nl, hdl⟩ := ht
  unfold Builtin.SmallTypes.nextOf
  refine wpAny_bind (wpAny_callSpecial?_slot (name := Str.ofString "__next__") hit.typeIs F.slot_tuple_iterator_next (wpAny_call_entry F.slot_tuple_iterator_next hit.typeIs F.entry_tuple_iterator_next ?_ (F.args_tuple_iterator_next_1 _)))
  show wpAny _ _ (field (.ref it) 0 >>= _) _ _ s
  refine wpAny_bind (wpAny_field ho hd (x := .ref t) rfl ?_)
  show wpAny _ _ (if (Value.ref t == Value.none) = true then _ else _) _ _ s
  rw [if_neg (show ¬ ((Value.ref t == Value.none) = true) from Bool.false_ne_true)]
  show wpAny _ _ (field (.ref it) 1 >>= _) _ _ s
  refine wpAny_bind (wpAny_field ho hd (x := .int i 0) rfl ?_)
  show wpAny _ _ (seqItems? (.ref t) >>= _) _ _ s
  refine wpAny_bind (wpAny_seqItems hol hdl ?_)
  simp only [Int.toNat_natCast, hx]
  refine wpAny_bind (wpAny_rule (wpAny_bind (wpAny_setField ho hd (by simp) ?_)))
  show wpAny _ _ (newExc (.type "StopIteration") [] >>= _) _ _ _
  refine wpAny_bind ?_
  simp only [newExc, newTuple]
  refine wpAny_bind (wpAny_newObj_type ?_ (by size_fits))
  refine wpAny_bind (m := firstArgMember _ _) (wpAny_of_eq (a := Value.none) (by first | rfl | (simp only [firstArgMember]; rfl)) ?_)
  refine wpAny_newObj_type ?_ (by size_fits)
  simp only [raiseNew]
  refine wpAny_bind (wpAny_handled ?_)
  first | rw [show A.in1.handled = none from hh] | rw [hh]
  refine wpAny_bind (wpAny_pure (wpAny_throw ?_))
  exact hE _ _ (((Heap.SameBut.update ..).extBut.push _).push _) ⟨_, Heap.get?_push_size _ rfl, rfl⟩
/-- one step of the enumeration, whatever is walked within: N gives its item and keeps P, a fact that other records don't touch -/
theorem enum_step {e it : Addr} {i : Nat} {x old : Value} {P : Heap → Prop} {Q : Value → Shared → Prop} (he : IsEnum s.heap e it i old) (hne : e ≠ it) (pk : ∀ h h', (∀ o, h.get? it = some o → h'.get? it = some o) → P h → P h')
    (N : ∀ (A : Around) (Q : Value → Shared → Prop), (∀ h', P h' → Heap.SameBut it s.heap h' → Q x { s with heap := h' }) → wpAny (model prog w) A (Builtin.SmallTypes.nextOf (.ref it)) Q E s)
    (hQ : ∀ h', IsEnumOut h' e it ((i : Int) + 1) x s.heap.objs.size → P h' → h'.get? s.heap.objs.size = some { cls := .type "tuple", data := .seq #[.int i s.toks, x] } → h'.objs.size = s.heap.objs.size + 1 →
      (∀ b o, b ≠ e → b ≠ it → s.heap.get? b = some o → h'.get? b = some o) → Q (.ref s.heap.objs.size) { s with heap := h', toks := s.toks + 1 }) :
    wpAny (model prog w) A (Builtin.«enumerate.__next__» ⟨[.ref e], []⟩) (fun fin s' => ∃ v, fin = .done (.ret v) ∧ Q v s') E s := by
  obtain ⟨hp, g, d, tk, os⟩ := s
  have apart : ∀ {h h' : Heap}, Heap.SameBut e h h' → P h → P h' := fun sb p => pk _ _ (fun o q => (sb.2 it (Ne.symm hne)).trans q) p
  have el := Heap.lt_size he
  show wpAny _ _ (field (.ref e) 2 >>= _) _ _ _
  refine wpAny_bind (wpAny_field he rfl (x := .ref it) rfl (wpAny_bind (N _ _ fun h1 p1 sb1 => ?_)))
  have e1 : IsEnum h1 e it i old := (sb1.2 e hne).trans he
  show wpAny _ _ (field (.ref e) 3 >>= _) _ _ ⟨h1, g, d, tk, os⟩
  refine wpAny_bind (wpAny_field e1 rfl (x := rawInt i) rfl ?_)
  show wpAny _ _ (field (.ref e) 4 >>= _) _ _ ⟨h1, g, d, tk, os⟩
  refine wpAny_bind (wpAny_field e1 rfl (x := .none) rfl ?_)
  show wpAny _ _ (mkInt i >>= _) _ _ ⟨h1, g, d, tk, os⟩
  refine wpAny_bind (wpAny_mkInt ?_)
  show wpAny _ _ (setField (.ref e) 3 (rawInt ((i : Int) + 1)) >>= _) _ _ ⟨h1, g, d, tk + 1, os⟩
  refine wpAny_bind (wpAny_setField_rec e1 (by simp) fun h2 e2 sb2 => ?_)
  replace e2 : IsEnum h2 e it ((i : Int) + 1) old := e2
  show wpAny _ _ (setField (.ref e) 4 .none >>= _) _ _ ⟨h2, g, d, tk + 1, os⟩
  refine wpAny_bind (wpAny_setField_rec e2 (by simp) fun h3 e3 sb3 => ?_)
  replace e3 : IsEnum h3 e it ((i : Int) + 1) old := e3
  replace sb1 : Heap.SameBut it hp h1 := sb1
  replace sb2 : Heap.SameBut e h1 h2 := sb2
  replace sb3 : Heap.SameBut e h2 h3 := sb3
  have z : h3.objs.size = hp.objs.size := by rw [sb3.1, sb2.1, sb1.1]
  show wpAny _ _ (newTuple [.int i tk, x] >>= _) _ _ ⟨h3, g, d, tk + 1, os⟩
  refine wpAny_bind (wpAny_newTuple ?_)
  have p4 : P (h3.push { cls := .type "tuple", data := .seq #[.int i tk, x] }) := pk _ _ (fun o q => Heap.get?_push_of_some _ q) (apart sb3 (apart sb2 p1))
  have e4 : IsEnum (h3.push { cls := .type "tuple", data := .seq #[.int i tk, x] }) e it ((i : Int) + 1) old := Heap.get?_push_of_some _ e3
  have t4 : (h3.push { cls := .type "tuple", data := .seq #[.int i tk, x] }).get? hp.objs.size = some { cls := .type "tuple", data := .seq #[.int i tk, x] } := by rw [← z]; exact Heap.get?_push_size _ rfl
  have z4 : (h3.push { cls := .type "tuple", data := .seq #[.int i tk, x] }).objs.size = hp.objs.size + 1 := by rw [Heap.size_push, z]
  have k4 : ∀ b o, b ≠ e → b ≠ it → hp.get? b = some o → (h3.push { cls := .type "tuple", data := .seq #[.int i tk, x] }).get? b = some o := fun b o be bi q => Heap.get?_push_of_some _ (sb3.extBut b o be (sb2.extBut b o be (sb1.extBut b o bi q)))
  generalize h3.push { cls := .type "tuple", data := .seq #[.int i tk, x] } = h4 at p4 e4 t4 z4 k4
  rw [z]
  clear z sb1 sb2 sb3 e1 e2 e3 p1
  show wpAny _ _ (Builtin.SmallTypes.ownedTupleIsFree (.ref e) >>= _) _ _ ⟨h4, g, d, tk + 1, os⟩
  refine wpAny_bind ?_
  unfold Builtin.SmallTypes.ownedTupleIsFree
  refine wpAny_bind (wpAny_field e4 rfl (x := .none) rfl (wpAny_pure ?_))
  simp only [if_true]
  refine wpAny_bind (wpAny_rule (wpAny_bind (wpAny_field e4 rfl (x := old) rfl (wpAny_bind (wpAny_setField_rec e4 (by simp) fun h5 e5 sb5 => ?_)))))
  replace e5 : IsEnum h5 e it ((i : Int) + 1) x := e5
  show wpAny _ _ (Builtin.SmallTypes.ownedTupleHandOut (.ref e) (.ref hp.objs.size) >>= _) _ _ ⟨h5, g, d, tk + 1, os⟩
  refine wpAny_bind ?_
  unfold Builtin.SmallTypes.ownedTupleHandOut
  refine wpAny_bind (wpAny_setField_rec e5 (by simp) fun h6 e6 sb6 => ?_)
  replace e6 : IsEnumOut h6 e it ((i : Int) + 1) x hp.objs.size := e6
  refine wpAny_setField_rec e6 (by simp) fun h7 e7 sb7 => ?_
  replace e7 : IsEnumOut h7 e it ((i : Int) + 1) x hp.objs.size := e7
  replace sb5 : Heap.SameBut e h4 h5 := sb5
  replace sb6 : Heap.SameBut e h5 h6 := sb6
  replace sb7 : Heap.SameBut e h6 h7 := sb7
  have ne4 : hp.objs.size ≠ e := Nat.ne_of_gt el
  refine wpAny_bind (wpAny_letGo (wpAny_pure ⟨_, rfl, hQ h7 e7 (apart sb7 (apart sb6 (apart sb5 p4))) (sb7.extBut _ _ ne4 (sb6.extBut _ _ ne4 (sb5.extBut _ _ ne4 t4))) ?_ fun b o be bi q => sb7.extBut b o be (sb6.extBut b o be (sb5.extBut b o be (k4 b o be bi q)))⟩))
  rw [sb7.1, sb6.1, sb5.1, z4]
theorem enum_t_item {e it t : Addr} {i : Nat} {items : Array Value} {x old : Value} {Q : Option Value → Shared → Prop} (he : IsEnum s.heap e it i old) (hit : s.heap.IsTupleIter it t i) (ht : s.heap.IsTuple t items) (hx : items[i]? = some x) (hne : e ≠ it)
    (hQ : ∀ h', IsEnumOut h' e it ((i : Int) + 1) x s.heap.objs.size → h'.IsTupleIter it t (i + 1) → h'.get? s.heap.objs.size = some { cls := .type "tuple", data := .seq #[.int i s.toks, x] } → h'.objs.size = s.heap.objs.size + 1 →
      (∀ b o, b ≠ e → b ≠ it → s.heap.get? b = some o → h'.get? b = some o) → Q (some (.ref s.heap.objs.size)) { s with heap := h', toks := s.toks + 1 }) : wpAny (model prog w) A (pyNext (.ref e)) Q E s := by
  have hT : s.TypeIs (.ref e) "enumerate" := ⟨_, he, rfl⟩
  unfold pyNext
  refine wpAny_bind (wpAny_attempt (wpAny_callSpecial?_slot (name := Str.ofString "__next__") hT F.slot_enumerate_next (wpAny_call_entry F.slot_enumerate_next hT F.entry_enumerate_next ?_ (F.args_enumerate_next_1 _))))
  refine enum_step (P := fun h => h.IsTupleIter it t (i + 1)) he hne (fun h h' k p => ?_) (fun A Q q => next_t hit ht hx q) fun h' a b c d k => wpAny_pure (hQ h' a b c d k)
  obtain ⟨o, ho, r⟩ := p
  exact ⟨o, k o ho, r⟩
theorem enum_t_end {e it t : Addr} {i : Nat} {items : Array Value} {old : Value} {Q : Option Value → Shared → Prop} (hh : A.handled = none) (he : IsEnum s.heap e it i old) (hit : s.heap.IsTupleIter it t i) (ht : s.heap.IsTuple t items) (hx : items[i]? = none)
    (hQ : ∀ h', Heap.ExtBut it s.heap h' → Q none { s with heap := h' }) : wpAny (model prog w) A (pyNext (.ref e)) Q E s := by
  have hT : s.TypeIs (.ref e) "enumerate" := ⟨_, he, rfl⟩
  unfold pyNext
  refine wpAny_bind (wpAny_attempt (wpAny_callSpecial?_slot (name := Str.ofString "__next__") hT F.slot_enumerate_next (wpAny_call_entry F.slot_enumerate_next hT F.entry_enumerate_next ?_ (F.args_enumerate_next_1 _))))
  show wpAny _ _ (field (.ref e) 2 >>= _) _ _ _
  refine wpAny_bind (wpAny_field he rfl (x := .ref it) rfl (wpAny_bind (next_t_end hh hit ht hx fun h' x he' hx' => ?_)))
  obtain ⟨o, ho, hc⟩ := hx'
  exact wpAny_bind (wpAny_isInstance (T := "StopIteration") (b := true) ⟨o, ho, hc⟩ isSubtype_stop (wpAny_pure (hQ _ he')))
end
theorem new_t (t : Addr) (items : Array Value) (n : Nat) (dct : Option Addr) (sl : Array (Option Value)) :
    Meets (Builtin.«enumerate.__new__» ⟨[.type "enumerate", .ref t], []⟩) (fun _ R s => s.heap.get? t = some ⟨.type "tuple", dct, .seq items n, sl⟩ ∧
      R (.ok (.ret (.ref (s.heap.push { cls := .type "tuple_iterator", data := .fields #[.ref t, .int 0 0] }).objs.size)))
        { s with heap := (s.heap.push { cls := .type "tuple_iterator", data := .fields #[.ref t, .int 0 0] }).push { cls := .type "enumerate", data := .fields #[.none, .bool false, .ref s.heap.objs.size, rawInt 0, .none, .none] } }) :=
  .of_wp fun prog w A R s h => by
    obtain ⟨hp, g, d, tk, os⟩ := s
    obtain ⟨hl, h⟩ := h
    have hsub := sub_enumerate
    have hL : Heap.IsTuple (Shared.heap ⟨hp, g, d, tk, os⟩) t items := ⟨_, hl, rfl, n, rfl⟩
    wp_walk using wpAny_loadPart' hl
    refine wpAny_stack_any fun st => wpAny_pure ?_
    split
    · rename_i c _ _ _ _ _
      cases (c == Value.type "enumerate") <;> (wp_walk using wpAny_loadPart' hl, wpAny_pyIter_tuple hL; exact ⟨_, rfl, h⟩)
    · wp_walk using wpAny_loadPart' hl, wpAny_pyIter_tuple hL
      exact ⟨_, rfl, h⟩
section
variable {prog : Program} {w : World} {A : Around} {E : Value → Shared → Prop} {s : Shared}
theorem call_enumT {t : Addr} {items : Array Value} {Q : Value → Shared → Prop} (hL : s.heap.IsTuple t items)
    (h : ∀ h', IsEnum h' (s.heap.objs.size + 1) s.heap.objs.size 0 .none → h'.IsTupleIter s.heap.objs.size t 0 → (∀ b o, s.heap.get? b = some o → h'.get? b = some o) → Q (.ref (s.heap.objs.size + 1)) { s with heap := h' }) : wpAny (model prog w) A (call (.type "enumerate") [.ref t]) Q E s := by
  obtain ⟨⟨c, dct, dt, sl⟩, hl, hc, n, hd⟩ := hL
  dsimp only at hc hd
  subst hc hd
  refine callType_new F.called_enumerate (by decide) (F.typeCall_enumerate_1 _) (F.newCall_enumerate_1 _) (fun obj => F.args_object_init_2 obj _) F.entry_enumerate_new (new_t t items n dct sl) ⟨hl, ?_⟩
  have z : (s.heap.push { cls := .type "tuple_iterator", data := .fields #[.ref t, .int 0 0] }).objs.size = s.heap.objs.size + 1 := Heap.size_push ..
  show _ ∧ _
  rw [z]
  have he : IsEnum ((s.heap.push { cls := .type "tuple_iterator", data := .fields #[.ref t, .int 0 0] }).push { cls := .type "enumerate", data := .fields #[.none, .bool false, .ref s.heap.objs.size, rawInt 0, .none, .none] }) (s.heap.objs.size + 1) s.heap.objs.size 0 .none := by
    rw [← z]
    exact Heap.get?_push_size _ rfl
  exact ⟨⟨_, he, rfl⟩, h _ he ⟨_, Heap.get?_push_of_some _ (Heap.get?_push_size _ rfl), rfl, rfl⟩ fun b o x => Heap.get?_push_of_some _ (Heap.get?_push_of_some _ x)⟩
end
/-- the tuple at a, each item in a new pair with its number -/
def IteT (K : PySem.W.Frag) (a : Addr) : It :=
  ⟨fun i H => ∃ (xs : List V) (x : V), SqT K H a xs ∧ xs[i]? = some x, fun i H v H' => ∃ T x, v = .ref T ∧ H T = none ∧ H' = upd H T (.tup [.int (i : Nat), x]) ∧ ∀ xs, SqT K H a xs → xs[i]? = some x, fun i H => ∃ xs : List V, SqT K H a xs ∧ xs.length ≤ i⟩
theorem turn_enumT {P : Program} {w : World} {K : PySem.W.Frag} {elts : List Expr} {kk : Nat} {tpos : Pos} (a e it : Addr) :
    Turn P w K (.Tuple elts kk tpos) (IteT K a) [e, it] e (fun i h => (∃ old, IsEnum h e it ((i : Nat) : Int) old) ∧ h.IsTupleIter it a i ∧ e ≠ it) where
  mem := by simp
  obj := fun i h st b hb => by
    obtain ⟨⟨old, he⟩, ⟨o, ho, hc, hd⟩, _⟩ := st
    rcases (by simpa using hb : b = e ∨ b = it) with z | z
    · rw [z]; exact ⟨_, he, fun v q => nomatch q⟩
    · rw [z]; exact ⟨o, ho, fun v q => by rw [hd] at q; cases q⟩
  keep := fun i h h' st k => by
    obtain ⟨⟨old, he⟩, ⟨o, ho, r⟩, hne⟩ := st
    exact ⟨⟨old, k e (by simp) _ he⟩, ⟨o, k it (by simp) o ho, r⟩, hne⟩
  item := by
    intro X hP hw hK hc i pins s σ H E I hf st hg
    subst hP hw hK
    obtain ⟨⟨old, he⟩, hit, hne⟩ := st
    obtain ⟨xs, x, hq, hx⟩ := hg
    obtain ⟨its, rv, p, hz⟩ := I.tuple hq
    obtain ⟨u, hu, ru⟩ := rv.get hx
    have el := Heap.lt_size he
    have il : it < s.heap.objs.size := by
      obtain ⟨_, q, _⟩ := hit
      exact Heap.lt_size q
    refine enum_t_item he hit (show s.heap.IsTuple a its.toArray from p) (x := u) (by simpa using hu) hne fun h' ho hit' hT hsz hk => ?_
    refine ⟨_, rfl, wpAny_letOwnedTupleGo_enum (s := { s with heap := h', toks := s.toks + 1 }) ho fun h'' he' sb => ?_⟩
    have hT2 : h''.get? s.heap.objs.size = some { cls := .type "tuple", data := .seq #[.int i s.toks, u] } := (sb.2 _ (Nat.ne_of_gt el)).trans hT
    have I1 : Inv X pins σ (upd H s.heap.objs.size (.tup [.int (i : Nat), x])) { s with heap := h'', toks := s.toks + 1 } :=
      I.turnedNew (ch := [e, it]) (fun b ob hb q => (sb.2 b (fun z => hb (by simp [z]))).trans (hk b ob (fun z => hb (by simp [z])) (fun z => hb (by simp [z])) q)) hf (Nat.le_refl _) ⟨by show 2 ≤ sizeLine; decide, [.int i s.toks, u], .cons ⟨_, rfl⟩ (.cons ru .nil), ⟨_, hT2, rfl, _, rfl⟩⟩
    refine ⟨.ref s.heap.objs.size, _, I1, rfl, ⟨_, x, rfl, I.hok.fresh (Nat.le_refl _), rfl, fun ys hy => by rw [I.tuple_inj hy hq]; exact hx⟩, ⟨⟨u, ?_⟩, ?_, hne⟩, fun b hb => ?_⟩
    · rw [show ((i + 1 : Nat) : Int) = (i : Int) + 1 by omega]
      exact he'
    · obtain ⟨o, ho, r⟩ := hit'
      exact ⟨o, (sb.2 it (Ne.symm hne)).trans ho, r⟩
    · have lt : b < s.heap.objs.size := by
        rcases (by simpa using hb : b = e ∨ b = it) with z | z
        · rw [z]; exact el
        · rw [z]; exact il
      rw [upd_ne (Nat.ne_of_lt lt)]
      exact (hf b hb).1
  done := by
    intro X hP hw hK hc i pins s σ H E I hf st hg
    subst hP hw hK
    obtain ⟨⟨old, he⟩, hit, hne⟩ := st
    obtain ⟨xs, hq, hx⟩ := hg
    obtain ⟨its, rv, p, hz⟩ := I.tuple hq
    obtain ⟨f0, f1, f2, f3, f4, f5⟩ := hf it (by simp)
    have hl := rv.length
    exact enum_t_end (I.ok.hd hc) he hit (show s.heap.IsTuple a its.toArray from p) (by simp; omega) fun h' eb => ⟨rfl, I.turned (t' := s.toks) (fun b o hb q => eb b o hb q) f0 f1 f3 f4 f5⟩
  self := fun A i s Q E st h => by
    obtain ⟨⟨_, he⟩, _⟩ := st
    exact wpAny_pyIter_enum he h
@[irreducible] def iEnumT (K : PySem.W.Frag) (ta : TA) : TI := fun σ H R => ta σ H fun vs H1 => ∃ a xs, vs = [.ref a] ∧ SqT K H1 a xs ∧ R (IteT K a) H1
theorem pi_enumT {X : Cx} {e : Expr} {ta : TA} {p pos tpos : Pos} {elts : List Expr} {kk : Nat} (hg : Gl X "enumerate") (hm : X.mg "enumerate" = none) (ha : PA X [e] ta) (hs : starEach [e] X.env = [(false, eval e X.env)] := by rfl) :
    PI X (.Tuple elts kk tpos) (.Call (.Name "enumerate" p) [e] [] pos) (iEnumT X.K ta) := by
  refine ⟨fun pins s σ H R I h => ?_⟩
  unfold iEnumT at h
  refine Call_ (ld_blt I hg hm boot_enumerate (PyProof.Rows.callWith_type1 (thn (ha.run pos pins s σ H _ I h) fun us s1 ⟨vs, H1, I1, r1, a, xs, ex, hq, q⟩ => ?_) hs rfl))
  subst ex
  cases r1 with
  | cons r rr =>
    cases rr
    cases r
    obtain ⟨its, rv, p', hz⟩ := I1.tuple hq
    refine call_enumT (show s1.heap.IsTuple a its.toArray from p') fun h' he hit hk => wpAny_pyIter_enum he ?_
    refine ⟨s1.heap.objs.size + 1, [s1.heap.objs.size + 1, s1.heap.objs.size], _, _, H1, rfl, I1.kept (t' := s1.toks) hk, turn_enumT a (s1.heap.objs.size + 1) s1.heap.objs.size, ⟨⟨.none, he⟩, hit, Nat.succ_ne_self _⟩, fun b hb => ?_, q⟩
    have hle : s1.heap.objs.size ≤ b := by
      rcases (by simpa using hb : b = s1.heap.objs.size + 1 ∨ b = s1.heap.objs.size) with z | z
      · rw [z]; exact Nat.le_add_right _ _
      · rw [z]; exact Nat.le_refl _
    exact I1.fpOk hle (I1.hok.fresh hle)
theorem walk_enumT {K : PySem.W.Frag} {a : Addr} {xs : List V} : Walk (IteT K a) xs.length (fun H => SqT K H a xs) (fun i H v H' => ∃ T x, v = .ref T ∧ H T = none ∧ H' = upd H T (.tup [.int (i : Nat), x]) ∧ xs[i]? = some x) :=
  ⟨fun i H hi h => ⟨xs, xs[i], h, by simp [hi]⟩, fun H h => ⟨xs, h, Nat.le_refl _⟩, fun i H x H' hi h y => by
    obtain ⟨T, z, h1, h2, h3, h4⟩ := y
    exact ⟨T, z, h1, h2, h3, h4 xs h⟩⟩
end En
set_option maxHeartbeats 1000000
/-! data: what stands in the heap, told without it -/
namespace Dl
open PySem PySem.Spec PyProof.Rows L2 Lcn Sq
inductive Dt where
  | non | bl (b : Bool) | int (i : Int) | str (s : Str)
  | lst (xs : List Dt) | tup (xs : List Dt) | ins (C : Addr) (fs : List (Str × Dt))
/-! ### the source of draws -/
structure SrcOk (p h m : Int) : Prop where
  p0 : 0 ≤ p
  h0 : 0 ≤ h
  m0 : 0 ≤ m
  m1 : m < 2147483647
def srcO (L : Addr) (p h m : Int) : HO := .lst [.ref L, .int p, .int h, .int m]
structure SrcAt (H : Hp) (a L : Addr) (ns : List Int) (p h m : Int) : Prop where
  ok : SrcOk p h m
  at_ : H a = some (srcO L p h m)
  ls : H L = some (.lst (ns.map V.int))
  ne : L ≠ a
def Src (H : Hp) (a L : Addr) (ns : List Int) : Prop := ∃ p h m, SrcAt H a L ns p h m
abbrev Sc := Option (Addr × Addr × List Int)
/-- what may change -/
def ch (S : Sc) (b : Addr) : Prop := match S with
  | none => False
  | some z => b = z.1
/-- where the source stands -/
def sa (S : Sc) (b : Addr) : Prop := match S with
  | none => False
  | some z => b = z.1 ∨ b = z.2.1
def Gs (S : Sc) (H : Hp) : Prop := match S with
  | none => True
  | some z => Src H z.1 z.2.1 z.2.2
structure Stp (S : Sc) (H H' : Hp) : Prop where
  keep : ∀ b o, ¬ ch S b → H b = some o → H' b = some o
  on : Gs S H → Gs S H'
theorem ch_sa {S : Sc} {b : Addr} (h : ch S b) : sa S b := by
  cases S with
  | none => exact h
  | some z => exact .inl h
theorem Gs.dep {S : Sc} {H H' : Hp} (g : Gs S H) (k : ∀ b o, sa S b → H b = some o → H' b = some o) : Gs S H' := by
  cases S with
  | none => trivial
  | some z =>
    obtain ⟨p, h, m, q⟩ := g
    exact ⟨p, h, m, q.ok, k _ _ (.inl rfl) q.at_, k _ _ (.inr rfl) q.ls, q.ne⟩
theorem Gs.dom {S : Sc} {H : Hp} (g : Gs S H) {b : Addr} (h : sa S b) : ∃ o, H b = some o := by
  cases S with
  | none => exact h.elim
  | some z =>
    obtain ⟨p, hh, m, q⟩ := g
    rcases h with rfl | rfl
    · exact ⟨_, q.at_⟩
    · exact ⟨_, q.ls⟩
theorem Stp.refl {S : Sc} (H : Hp) : Stp S H H := ⟨fun _ _ _ h => h, fun g => g⟩
theorem Stp.trans {S : Sc} {H H1 H2 : Hp} (a : Stp S H H1) (b : Stp S H1 H2) : Stp S H H2 := ⟨fun c o n h => b.keep c o n (a.keep c o n h), fun g => b.on (a.on g)⟩
theorem Stp.of {S : Sc} {H H' : Hp} (e : Same H H') : Stp S H H' := ⟨fun b o _ h => e b o h, fun g => g.dep fun b o _ h => e b o h⟩
theorem Stp.new {S : Sc} {H : Hp} {p : Addr} {o : HO} (h : H p = none) : Stp S H (upd H p o) := Stp.of (same_new h)
/-! ### what v stands for -/
def Lz (av : Addr → Prop) (H : Hp) (a : Addr) (xs : List V) : Prop := ¬ av a ∧ H a = some (.lst xs)
def Tz (K : PySem.W.Frag) (av : Addr → Prop) (H : Hp) (a : Addr) (xs : List V) : Prop := ¬ av a ∧ H a = some (.tup xs)
theorem Lz.sq {K : PySem.W.Frag} {av : Addr → Prop} {H : Hp} {a : Addr} {xs : List V} (h : Lz av H a xs) : SqL K H a xs := SqL.of h.2
theorem Tz.sq {K : PySem.W.Frag} {av : Addr → Prop} {H : Hp} {a : Addr} {xs : List V} (h : Tz K av H a xs) : SqT K H a xs := SqT.of h.2
theorem rd_move {av av' : Addr → Prop} {H H' : Hp} {a : Addr} {u : HO} (h : ¬ av a ∧ Rd H a u) (k : ∀ b o, ¬ av b → H b = some o → H' b = some o) (m : ∀ b, av' b → av b ∨ H b = none) : ¬ av' a ∧ Rd H' a u := by
  obtain ⟨n, r⟩ := h
  refine ⟨fun z => ?_, r.imp (k _ _ n) fun ⟨o, q⟩ => ⟨o, k _ _ n q⟩⟩
  rcases m a z with z | z
  · exact n z
  · rcases r with r | ⟨o, r⟩ <;> rw [z] at r <;> cases r
inductive Rep (K : PySem.W.Frag) (av : Addr → Prop) (H : Hp) : V → Dt → Prop
  | non : Rep K av H .non .non
  | bl (b : Bool) : Rep K av H (.bl b) (.bl b)
  | int (i : Int) : Rep K av H (.int i) (.int i)
  | str (s : Str) : Rep K av H (.str s) (.str s)
  | lst {a : Addr} {xs : List V} {ds : List Dt} (h : Lz av H a xs) (l : xs.length = ds.length) (f : ∀ (i : Nat) (x : V) (d : Dt), xs[i]? = some x → ds[i]? = some d → Rep K av H x d) : Rep K av H (.ref a) (.lst ds)
  | tup {a : Addr} {xs : List V} {ds : List Dt} (h : Tz K av H a xs) (l : xs.length = ds.length) (f : ∀ (i : Nat) (x : V) (d : Dt), xs[i]? = some x → ds[i]? = some d → Rep K av H x d) : Rep K av H (.ref a) (.tup ds)
  | ins {a C dx : Addr} {fs : List (Str × V)} {es : List (Str × Dt)} (na : ¬ av a) (h : H a = some (.ins C dx fs)) (l : fs.map Prod.fst = es.map Prod.fst) (f : ∀ (i : Nat) (x : Str × V) (d : Str × Dt), fs[i]? = some x → es[i]? = some d → Rep K av H x.2 d.2) : Rep K av H (.ref a) (.ins C es)
theorem Rep.move {K : PySem.W.Frag} {av av' : Addr → Prop} {H H' : Hp} {v : V} {d : Dt} (h : Rep K av H v d) (k : ∀ b o, ¬ av b → H b = some o → H' b = some o) (m : ∀ b, av' b → av b ∨ H b = none) : Rep K av' H' v d := by
  induction h with
  | non => exact .non
  | bl b => exact .bl b
  | int i => exact .int i
  | str s => exact .str s
  | lst h l _ ih =>
    refine .lst ⟨fun z => ?_, k _ _ h.1 h.2⟩ l ih
    rcases m _ z with z | z
    · exact h.1 z
    · rw [h.2] at z
      cases z
  | tup h l _ ih =>
    refine .tup ⟨fun z => ?_, k _ _ h.1 h.2⟩ l ih
    rcases m _ z with z | z
    · exact h.1 z
    · rw [h.2] at z
      cases z
  | ins na h l _ ih =>
    refine .ins (fun z => ?_) (k _ _ na h) l ih
    rcases m _ z with z | z
    · exact na z
    · rw [z] at h
      cases h
/-- things one by one -/
structure RepL (K : PySem.W.Frag) (av : Addr → Prop) (H : Hp) (xs : List V) (ds : List Dt) : Prop where
  l : xs.length = ds.length
  f : ∀ (i : Nat) (x : V) (d : Dt), xs[i]? = some x → ds[i]? = some d → Rep K av H x d
section
variable {K : PySem.W.Frag} {av av' : Addr → Prop} {H H' : Hp}
theorem RepL.move {xs : List V} {ds : List Dt} (h : RepL K av H xs ds) (k : ∀ b o, ¬ av b → H b = some o → H' b = some o) (m : ∀ b, av' b → av b ∨ H b = none) : RepL K av' H' xs ds := ⟨h.l, fun i x d h1 h2 => (h.f i x d h1 h2).move k m⟩
theorem Rep.same {v : V} {d : Dt} (h : Rep K av H v d) (e : Same H H') : Rep K av H' v d := h.move (fun b o _ x => e b o x) fun _ z => .inl z
theorem RepL.same {xs : List V} {ds : List Dt} (h : RepL K av H xs ds) (e : Same H H') : RepL K av H' xs ds := h.move (fun b o _ x => e b o x) fun _ z => .inl z
theorem Rep.mono {v : V} {d : Dt} (h : Rep K av H v d) (m : ∀ b, av' b → av b) : Rep K av' H v d := h.move (fun _ _ _ x => x) fun b z => .inl (m b z)
theorem RepL.mono {xs : List V} {ds : List Dt} (h : RepL K av H xs ds) (m : ∀ b, av' b → av b) : RepL K av' H xs ds := h.move (fun _ _ _ x => x) fun b z => .inl (m b z)
theorem RepL.nil : RepL K av H [] [] := ⟨rfl, fun i x d h => by cases i <;> cases h⟩
theorem RepL.cons {x : V} {d : Dt} {xs : List V} {ds : List Dt} (h : Rep K av H x d) (t : RepL K av H xs ds) : RepL K av H (x :: xs) (d :: ds) := ⟨by rw [List.length_cons, List.length_cons, t.l], fun i y e h1 h2 => by
  cases i with
  | zero => cases h1; cases h2; exact h
  | succ j => exact t.f j y e h1 h2⟩
theorem RepL.head {x : V} {xs : List V} {d : Dt} {ds : List Dt} (h : RepL K av H (x :: xs) (d :: ds)) : Rep K av H x d ∧ RepL K av H xs ds :=
  ⟨h.f 0 x d rfl rfl, by have := h.l; simp at this; exact this, fun i y e h1 h2 => h.f (i + 1) y e h1 h2⟩
theorem RepL.append {xs ys : List V} {ds es : List Dt} (h : RepL K av H xs ds) (t : RepL K av H ys es) : RepL K av H (xs ++ ys) (ds ++ es) := ⟨by rw [List.length_append, List.length_append, h.l, t.l], fun i y e h1 h2 => by
  have hl := h.l
  rcases Nat.lt_or_ge i xs.length with lt | ge
  · rw [List.getElem?_append_left lt] at h1
    rw [List.getElem?_append_left (by omega)] at h2
    exact h.f i y e h1 h2
  · rw [List.getElem?_append_right ge] at h1
    rw [List.getElem?_append_right (by omega), ← hl] at h2
    exact t.f _ y e h1 h2⟩
theorem RepL.get {xs : List V} {ds : List Dt} (h : RepL K av H xs ds) {i : Nat} {d : Dt} (e : ds[i]? = some d) : ∃ x, xs[i]? = some x ∧ Rep K av H x d := by
  have hl := h.l
  have hi : i < ds.length := by
    rcases Nat.lt_or_ge i ds.length with h | h
    · exact h
    · rw [List.getElem?_eq_none h] at e
      cases e
  exact ⟨xs[i], by simp [hl, hi], h.f i _ d (by simp [hl, hi]) e⟩
theorem RepL.set {xs : List V} {ds : List Dt} (h : RepL K av H xs ds) {x : V} {d : Dt} (r : Rep K av H x d) (i : Nat) : RepL K av H (xs.set i x) (ds.set i d) := ⟨by simp [h.l], fun j y e h1 h2 => by
  by_cases hj : i = j
  · subst hj
    have hl := h.l
    have hi : i < xs.length := by
      rcases Nat.lt_or_ge i xs.length with h | h
      · exact h
      · rw [List.getElem?_eq_none (by simpa using h)] at h1
        cases h1
    rw [List.getElem?_set_self hi] at h1
    rw [List.getElem?_set_self (by omega)] at h2
    cases h1
    cases h2
    exact r
  · rw [List.getElem?_set_ne hj] at h1 h2
    exact h.f j y e h1 h2⟩
theorem RepL.sub {xs : List V} {ds : List Dt} (h : RepL K av H xs ds) (f : Nat → Nat) {ys : List V} {es : List Dt} (l : ys.length = es.length) (a : ∀ i y, ys[i]? = some y → xs[f i]? = some y) (b : ∀ i e, es[i]? = some e → ds[f i]? = some e) : RepL K av H ys es := ⟨l, fun i y e h1 h2 => h.f _ y e (a i y h1) (b i e h2)⟩
theorem RepL.drop {xs : List V} {ds : List Dt} (h : RepL K av H xs ds) (n : Nat) : RepL K av H (xs.drop n) (ds.drop n) := h.sub (fun i => n + i) (by simp [h.l]) (fun i y e => by rwa [List.getElem?_drop] at e) (fun i y e => by rwa [List.getElem?_drop] at e)
theorem RepL.take {xs : List V} {ds : List Dt} (h : RepL K av H xs ds) (n : Nat) : RepL K av H (xs.take n) (ds.take n) := ⟨by simp [h.l], fun i y e h1 h2 => by
  rw [List.getElem?_take] at h1 h2
  split at h1
  · exact h.f i y e h1 (by rw [if_pos (by assumption)] at h2; exact h2)
  · cases h1⟩
/-- what is told by no address -/
def Dt.flat : Dt → Bool
  | .non => true
  | .bl _ => true
  | .int _ => true
  | .str _ => true
  | _ => false
theorem Rep.flat {v : V} {d : Dt} (h : Rep K av H v d) (f : d.flat = true) : Rep K av' H' v d := by
  cases h with
  | non => exact .non
  | bl b => exact .bl b
  | int i => exact .int i
  | str s => exact .str s
  | lst => cases f
  | tup => cases f
  | ins => cases f
theorem Rep.int_inv {v : V} {i : Int} (h : Rep K av H v (.int i)) : v = .int i := by cases h; rfl
theorem Rep.bl_inv {v : V} {i : Bool} (h : Rep K av H v (.bl i)) : v = .bl i := by cases h; rfl
theorem Rep.str_inv {v : V} {i : Str} (h : Rep K av H v (.str i)) : v = .str i := by cases h; rfl
theorem Rep.non_inv {v : V} (h : Rep K av H v .non) : v = .non := by cases h; rfl
theorem Rep.lst_inv {v : V} {ds : List Dt} (h : Rep K av H v (.lst ds)) : ∃ a xs, v = .ref a ∧ Lz av H a xs ∧ RepL K av H xs ds := by
  cases h with
  | lst h l f => exact ⟨_, _, rfl, h, l, f⟩
theorem Rep.tup_inv {v : V} {ds : List Dt} (h : Rep K av H v (.tup ds)) : ∃ a xs, v = .ref a ∧ Tz K av H a xs ∧ RepL K av H xs ds := by
  cases h with
  | tup h l f => exact ⟨_, _, rfl, h, l, f⟩
theorem Rep.ins_inv {v : V} {C : Addr} {es : List (Str × Dt)} (h : Rep K av H v (.ins C es)) : ∃ a dx fs, v = .ref a ∧ ¬ av a ∧ H a = some (.ins C dx fs) ∧ fs.map Prod.fst = es.map Prod.fst ∧ ∀ (i : Nat) (x : Str × V) (d : Str × Dt), fs[i]? = some x → es[i]? = some d → Rep K av H x.2 d.2 := by
  cases h with
  | ins na h l f => exact ⟨_, _, _, rfl, na, h, l, f⟩
/-- all in av stand -/
def Al (av : Addr → Prop) (H : Hp) : Prop := ∀ b, av b → ∃ o, H b = some o
theorem Al.na (h : Al av H) {p : Addr} (n : H p = none) : ¬ av p := fun z => by
  obtain ⟨o, e⟩ := h p z
  rw [n] at e
  cases e
theorem Al.same (h : Al av H) (e : Same H H') : Al av H' := fun b z => by
  obtain ⟨o, q⟩ := h b z
  exact ⟨o, e b o q⟩
theorem rep_newT {p : Addr} {xs : List V} {ds : List Dt} (al : Al av H) (n : H p = none) (r : RepL K av H xs ds) : Rep K av (upd H p (.tup xs)) (.ref p) (.tup ds) :=
  have r' := r.same (same_new (o := .tup xs) n)
  .tup ⟨al.na n, upd_same⟩ r'.l r'.f
theorem rep_newL {p : Addr} {xs : List V} {ds : List Dt} (al : Al av H) (n : H p = none) (r : RepL K av H xs ds) : Rep K av (upd H p (.lst xs)) (.ref p) (.lst ds) :=
  have r' := r.same (same_new (o := .lst xs) n)
  .lst ⟨al.na n, upd_same⟩ r'.l r'.f
end
/-! ### states -/
structure Ctx where
  K : PySem.W.Frag
  S : Sc
  av : Addr → Prop
  H0 : Hp
  gh : List (V × Dt)
/-- what an own object holds: a list, a dict by tuples, a dict by ints and texts -/
inductive Oc where
  | l (ds : List Dt) | t (es : List (List Key × Dt)) | k (es : List (Key × Dt))
def ORep (K : PySem.W.Frag) (av : Addr → Prop) (H : Hp) : HO → Oc → Prop
  | .lst xs, .l ds => RepL K av H xs ds
  | .dT kvs, .t es => kvs.map Prod.fst = es.map Prod.fst ∧ RepL K av H (kvs.map Prod.snd) (es.map Prod.snd)
  | .dK kvs, .k es => kvs.map Prod.fst = es.map Prod.fst ∧ RepL K av H (kvs.map Prod.snd) (es.map Prod.snd)
  | _, _ => False
theorem ORep.move {K : PySem.W.Frag} {av av' : Addr → Prop} {H H' : Hp} {u : HO} {c : Oc} (h : ORep K av H u c) (k : ∀ b o, ¬ av b → H b = some o → H' b = some o) (m : ∀ b, av' b → av b ∨ H b = none) : ORep K av' H' u c := by
  unfold ORep at h ⊢
  split at h
  · exact RepL.move h k m
  · exact ⟨h.1, h.2.move k m⟩
  · exact ⟨h.1, h.2.move k m⟩
  · exact h.elim
theorem ORep.mono {K : PySem.W.Frag} {av av' : Addr → Prop} {H : Hp} {u : HO} {c : Oc} (h : ORep K av H u c) (m : ∀ b, av' b → av b) : ORep K av' H u c := h.move (fun _ _ _ x => x) fun b z => .inl (m b z)
theorem ORep.lst {K : PySem.W.Frag} {av : Addr → Prop} {H : Hp} {u : HO} {ds : List Dt} (h : ORep K av H u (.l ds)) : ∃ xs, u = .lst xs ∧ RepL K av H xs ds := by
  cases u <;> first | exact ⟨_, rfl, h⟩ | exact h.elim
theorem ORep.dt {K : PySem.W.Frag} {av : Addr → Prop} {H : Hp} {u : HO} {es : List (List Key × Dt)} (h : ORep K av H u (.t es)) : ∃ kvs, u = .dT kvs ∧ kvs.map Prod.fst = es.map Prod.fst ∧ RepL K av H (kvs.map Prod.snd) (es.map Prod.snd) := by
  cases u <;> first | exact ⟨_, rfl, h⟩ | exact h.elim
theorem ORep.dk {K : PySem.W.Frag} {av : Addr → Prop} {H : Hp} {u : HO} {es : List (Key × Dt)} (h : ORep K av H u (.k es)) : ∃ kvs, u = .dK kvs ∧ kvs.map Prod.fst = es.map Prod.fst ∧ RepL K av H (kvs.map Prod.snd) (es.map Prod.snd) := by
  cases u <;> first | exact ⟨_, rfl, h⟩ | exact h.elim
inductive Sl where
  | any | val (d : Dt) | own (a : Addr) (c : Oc) | src
def Sl.at : Sl → Addr → Prop
  | .own a _, b => a = b
  | _, _ => False
def Zd (C : Ctx) (δ : List Sl) (b : Addr) : Prop := C.av b ∨ ∃ s, s ∈ δ ∧ s.at b
def SlOk (C : Ctx) (Z : Addr → Prop) (H : Hp) (o : Option (Option V)) : Sl → Prop
  | .any => True
  | .val d => ∃ v, o = some (some v) ∧ Rep C.K Z H v d
  | .own a ds => o = some (some (.ref a)) ∧ C.H0 a = none ∧ ¬ C.av a ∧ ∃ u, H a = some u ∧ ORep C.K Z H u ds
  | .src => ∃ z, C.S = some z ∧ o = some (some (.ref z.1))
structure Sok (C : Ctx) (H : Hp) (σ : L2.St) (δ : List Sl) : Prop where
  len : σ.length = δ.length
  sl : ∀ (i : Nat) (s : Sl), δ[i]? = some s → SlOk C (Zd C δ) H σ[i]? s
  uq : ∀ (i j : Nat) (a : Addr) (ds es : Oc), δ[i]? = some (.own a ds) → δ[j]? = some (.own a es) → i = j
  g : Gs C.S H
  st : Stp C.S C.H0 H
  avs : ∀ b, sa C.S b → C.av b
  ava : Al C.av H
  gh : ∀ p, p ∈ C.gh → Rep C.K (Zd C δ) H p.1 p.2
section
variable {C : Ctx} {H H' : Hp} {σ : L2.St} {δ : List Sl}
theorem Sok.lstAt (s : Sok C H σ δ) {i : Nat} {a : Addr} {ds : List Dt} (h : δ[i]? = some (.own a (.l ds))) : σ[i]? = some (some (.ref a)) ∧ C.H0 a = none ∧ ¬ C.av a ∧ ∃ xs, H a = some (.lst xs) ∧ RepL C.K (Zd C δ) H xs ds := by
  obtain ⟨h1, h2, h3, u, h5, h6⟩ := s.sl i _ h
  obtain ⟨xs, rfl, h6⟩ := h6.lst
  exact ⟨h1, h2, h3, xs, h5, h6⟩
theorem Sok.al0 (s : Sok C H σ δ) : Al C.av H := s.ava
theorem al_step {S : Sc} {av : Addr → Prop} (al : Al av H) (g : Gs S H) (e : Stp S H H') : Al av H' := fun b z => by
  by_cases c : ch S b
  · exact (e.on g).dom (ch_sa c)
  · obtain ⟨o, h⟩ := al b z
    exact ⟨o, e.keep b o c h⟩
theorem Sok.alz (s : Sok C H σ δ) : Al (Zd C δ) H := fun b z => by
  rcases z with z | ⟨u, m, e⟩
  · exact s.al0 b z
  · cases u with
    | own a ds =>
      obtain ⟨i, hi⟩ := List.mem_iff_getElem?.mp m
      obtain ⟨_, _, _, xs, h, _⟩ := s.sl i _ hi
      cases e
      exact ⟨_, h⟩
    | _ => exact e.elim
theorem zch (s : Sok C H σ δ) {b : Addr} (h : ch C.S b) : Zd C δ b := .inl (s.avs b (ch_sa h))
theorem Sok.step (s : Sok C H σ δ) (e : Stp C.S H H') : Sok C H' σ δ := by
  have k : ∀ b o, ¬ Zd C δ b → H b = some o → H' b = some o := fun b o n x => e.keep b o (fun c => n (zch s c)) x
  refine ⟨s.len, fun i u h => ?_, s.uq, e.on s.g, s.st.trans e, s.avs, al_step s.ava s.g e, fun p m => (s.gh p m).move k fun _ z => .inl z⟩
  have q := s.sl i u h
  cases u with
  | any => trivial
  | val d =>
    obtain ⟨v, h1, h2⟩ := q
    exact ⟨v, h1, h2.move k fun _ z => .inl z⟩
  | own a ds =>
    obtain ⟨h1, h2, h3, xs, h5, h6⟩ := q
    exact ⟨h1, h2, h3, xs, e.keep a _ (fun c => h3 (s.avs a (ch_sa c))) h5, h6.move k fun _ z => .inl z⟩
  | src => exact q
theorem rep_step (s : Sok C H σ δ) (e : Stp C.S H H') {v : V} {d : Dt} (r : Rep C.K (Zd C δ) H v d) : Rep C.K (Zd C δ) H' v d := r.move (fun b o n x => e.keep b o (fun c => n (zch s c)) x) fun _ z => .inl z
theorem rep_step0 (s : Sok C H σ δ) (e : Stp C.S H H') {v : V} {d : Dt} (r : Rep C.K C.av H v d) : Rep C.K C.av H' v d := r.move (fun b o n x => e.keep b o (fun c => n (s.avs b (ch_sa c))) x) fun _ z => .inl z
theorem zd_set {i : Nat} {u : Sl} {b : Addr} (h : Zd C (δ.set i u) b) : Zd C δ b ∨ u.at b := by
  rcases h with h | ⟨s, m, e⟩
  · exact .inl (.inl h)
  · rcases List.mem_or_eq_of_mem_set m with m | rfl
    · exact .inl (.inr ⟨s, m, e⟩)
    · exact .inr e
/-- a slot set to what is no own list -/
theorem Sok.set (s : Sok C H σ δ) {i : Nat} {v : V} {u : Sl} (hu : ∀ b, ¬ u.at b) (hv : ∀ Z, (∀ b, Z b → Zd C δ b) → SlOk C Z H (some (some v)) u) : Sok C H (σ.set i (some v)) (δ.set i u) := by
  have m : ∀ b, Zd C (δ.set i u) b → Zd C δ b := fun b z => (zd_set z).resolve_right (hu b)
  refine ⟨by simp [s.len], fun j w h => ?_, fun j k a ds es h1 h2 => ?_, s.g, s.st, s.avs, s.ava, fun p q => (s.gh p q).mono m⟩
  · by_cases hj : i = j
    · subst hj
      have hi : i < δ.length := by
        rcases Nat.lt_or_ge i δ.length with z | z
        · exact z
        · rw [List.getElem?_eq_none (by simpa using z)] at h
          cases h
      rw [List.getElem?_set_self hi] at h
      cases h
      rw [List.getElem?_set_self (by rw [s.len]; exact hi)]
      exact hv _ m
    · rw [List.getElem?_set_ne hj] at h
      rw [List.getElem?_set_ne hj]
      have q := s.sl j w h
      cases w with
      | any => trivial
      | val d =>
        obtain ⟨v, h1, h2⟩ := q
        exact ⟨v, h1, h2.mono m⟩
      | own a ds =>
        obtain ⟨h1, h2, h3, xs, h5, h6⟩ := q
        exact ⟨h1, h2, h3, xs, h5, h6.mono m⟩
      | src => exact q
  · have e : ∀ l a ds, (δ.set i u)[l]? = some (Sl.own a ds) → i ≠ l ∧ δ[l]? = some (Sl.own a ds) := fun l a ds h => by
      by_cases hl : i = l
      · subst hl
        have hi : i < δ.length := by
          rcases Nat.lt_or_ge i δ.length with z | z
          · exact z
          · rw [List.getElem?_eq_none (by simpa using z)] at h
            cases h
        rw [List.getElem?_set_self hi] at h
        cases h
        exact absurd rfl (hu a)
      · rw [List.getElem?_set_ne hl] at h
        exact ⟨hl, h⟩
    exact s.uq j k a ds es (e j a ds h1).2 (e k a es h2).2
theorem Sok.setV (s : Sok C H σ δ) {i : Nat} {v : V} {d : Dt} (r : Rep C.K (Zd C δ) H v d) : Sok C H (σ.set i (some v)) (δ.set i (.val d)) :=
  s.set (fun _ z => z) fun Z m => ⟨v, rfl, r.mono m⟩
theorem own_lt (s : Sok C H σ δ) {i : Nat} {u : Sl} (h : δ[i]? = some u) : i < δ.length := by
  rcases Nat.lt_or_ge i δ.length with z | z
  · exact z
  · rw [List.getElem?_eq_none z] at h
    cases h
/-- a slot told otherwise, the value as it was -/
theorem Sok.tell (s : Sok C H σ δ) {i : Nat} {u : Sl} (hu : ∀ b, ¬ u.at b) (hv : ∀ Z, (∀ b, Z b → Zd C (δ.set i u) b) → SlOk C Z H σ[i]? u) : Sok C H σ (δ.set i u) := by
  have m : ∀ b, Zd C (δ.set i u) b → Zd C δ b := fun b z => (zd_set z).resolve_right (hu b)
  refine ⟨by simp [s.len], fun j w h => ?_, fun j k a ds es h1 h2 => ?_, s.g, s.st, s.avs, s.ava, fun p q => (s.gh p q).mono m⟩
  · by_cases hj : i = j
    · subst hj
      have hi : i < δ.length := by
        rcases Nat.lt_or_ge i δ.length with z | z
        · exact z
        · rw [List.getElem?_eq_none (by simpa using z)] at h
          cases h
      rw [List.getElem?_set_self hi] at h
      cases h
      exact hv _ fun _ z => z
    · rw [List.getElem?_set_ne hj] at h
      have q := s.sl j w h
      cases w with
      | any => trivial
      | val d =>
        obtain ⟨v, h1, h2⟩ := q
        exact ⟨v, h1, h2.mono m⟩
      | own a ds =>
        obtain ⟨h1, h2, h3, xs, h5, h6⟩ := q
        exact ⟨h1, h2, h3, xs, h5, h6.mono m⟩
      | src => exact q
  · have e : ∀ (l : Nat) (a : Addr) (ds : Oc), (δ.set i u)[l]? = some (Sl.own a ds) → δ[l]? = some (Sl.own a ds) := fun l a ds h => by
      by_cases hl : i = l
      · subst hl
        have hi : i < δ.length := by
          rcases Nat.lt_or_ge i δ.length with z | z
          · exact z
          · rw [List.getElem?_eq_none (by simpa using z)] at h
            cases h
        rw [List.getElem?_set_self hi] at h
        cases h
        exact absurd rfl (hu a)
      · rw [List.getElem?_set_ne hl] at h
        exact h
    exact s.uq j k a ds es (e j a ds h1) (e k a es h2)
theorem Sok.drop (s : Sok C H σ δ) (i : Nat) : Sok C H σ (δ.set i .any) := s.tell (fun _ z => z) fun _ _ => trivial
/-- an own list, from here on a thing like others -/
theorem Sok.freeze (s : Sok C H σ δ) {i : Nat} {a : Addr} {ds : List Dt} (h : δ[i]? = some (.own a (.l ds))) : Sok C H σ (δ.set i (.val (.lst ds))) := by
  obtain ⟨h1, h2, h3, u, h5, h6⟩ := s.sl i _ h
  obtain ⟨xs, rfl, h6⟩ := h6.lst
  refine s.tell (fun _ z => z) fun Z m => ⟨.ref a, h1, ?_⟩
  have m2 : ∀ b, Z b → Zd C δ b := fun b z => (zd_set (m b z)).resolve_right fun z => z
  refine .lst ⟨fun z => ?_, h5⟩ h6.l fun i x d hx hd => (h6.f i x d hx hd).mono m2
  rcases m a z with z | ⟨u, hu, e⟩
  · exact h3 z
  · cases u with
    | own b es =>
      cases e
      obtain ⟨j, hj⟩ := List.mem_iff_getElem?.mp hu
      have hij : i ≠ j := fun e => by
        subst e
        rw [List.getElem?_set_self (own_lt s h)] at hj
        cases hj
      rw [List.getElem?_set_ne hij] at hj
      exact hij (s.uq _ _ _ _ _ h hj)
    | _ => exact e.elim
/-- a new list, kept as the def's own -/
theorem Sok.setO (s : Sok C H σ δ) {i : Nat} {p : Addr} {xs : HO} {ds : Oc} (n : H p = none) (e : Stp C.S H H') (hp : H' p = some xs) (r : ORep C.K (fun b => Zd C δ b ∨ b = p) H' xs ds) : Sok C H' (σ.set i (some (.ref p))) (δ.set i (.own p ds)) := by
  have m : ∀ b, Zd C (δ.set i (.own p ds)) b → Zd C δ b ∨ b = p := fun b z => (zd_set z).imp id Eq.symm
  have k : ∀ b o, ¬ Zd C δ b → H b = some o → H' b = some o := fun b o n x => e.keep b o (fun c => n (zch s c)) x
  have hz : ∀ b, Zd C (δ.set i (.own p ds)) b → Zd C δ b ∨ H b = none := fun b z => (m b z).imp id fun (z : b = p) => by rw [z]; exact n
  have nav : ¬ C.av p := s.al0.na n
  have h0 : C.H0 p = none := by
    cases q : C.H0 p with
    | none => rfl
    | some o =>
      by_cases c : ch C.S p
      · exact absurd (s.avs p (ch_sa c)) nav
      · rw [s.st.keep p o c q] at n
        cases n
  refine ⟨by simp [s.len], fun j w h => ?_, fun j l a es fs h1 h2 => ?_, e.on s.g, s.st.trans e, s.avs, al_step s.ava s.g e, fun p m => (s.gh p m).move k hz⟩
  · by_cases hj : i = j
    · subst hj
      have hi : i < δ.length := by
        rcases Nat.lt_or_ge i δ.length with z | z
        · exact z
        · rw [List.getElem?_eq_none (by simpa using z)] at h
          cases h
      rw [List.getElem?_set_self hi] at h
      cases h
      rw [List.getElem?_set_self (by rw [s.len]; exact hi)]
      exact ⟨rfl, h0, nav, xs, hp, r.mono m⟩
    · rw [List.getElem?_set_ne hj] at h
      rw [List.getElem?_set_ne hj]
      have q := s.sl j w h
      cases w with
      | any => trivial
      | val d =>
        obtain ⟨v, h1, h2⟩ := q
        exact ⟨v, h1, h2.move k hz⟩
      | own a es =>
        obtain ⟨h1, h2, h3, ys, h5, h6⟩ := q
        exact ⟨h1, h2, h3, ys, e.keep a _ (fun c => h3 (s.avs a (ch_sa c))) h5, h6.move k hz⟩
      | src => exact q
  · have old : ∀ (l : Nat) (a : Addr) (es : Oc), i ≠ l → (δ.set i (Sl.own p ds))[l]? = some (Sl.own a es) → δ[l]? = some (Sl.own a es) ∧ a ≠ p := fun l a es hl h => by
      rw [List.getElem?_set_ne hl] at h
      refine ⟨h, fun z => ?_⟩
      obtain ⟨_, _, _, ys, h5, _⟩ := s.sl l _ h
      rw [z, n] at h5
      cases h5
    have new : ∀ (a : Addr) (es : Oc), (δ.set i (Sl.own p ds))[i]? = some (Sl.own a es) → a = p := fun a es h => by
      have hi : i < δ.length := by
        rcases Nat.lt_or_ge i δ.length with z | z
        · exact z
        · rw [List.getElem?_eq_none (by simpa using z)] at h
          cases h
      rw [List.getElem?_set_self hi] at h
      cases h
      rfl
    by_cases hj : i = j
    · by_cases hl : i = l
      · rw [← hj, ← hl]
      · subst hj
        exact absurd (new a es h1) (old l a fs hl h2).2
    · by_cases hl : i = l
      · subst hl
        exact absurd (new a fs h2) (old j a es hj h1).2
      · exact s.uq j l a es fs (old j a es hj h1).1 (old l a fs hl h2).1
/-- an own list changed -/
theorem Sok.upO (s : Sok C H σ δ) {i : Nat} {a : Addr} {ds es : Oc} {ys : HO} (h : δ[i]? = some (.own a ds)) (r : ORep C.K (Zd C δ) H ys es) : Sok C (upd H a ys) σ (δ.set i (.own a es)) := by
  obtain ⟨h1, h2, h3, xs, h5, h6⟩ := s.sl i _ h
  have za : Zd C δ a := .inr ⟨_, List.mem_iff_getElem?.mpr ⟨i, h⟩, rfl⟩
  have m : ∀ b, Zd C (δ.set i (.own a es)) b → Zd C δ b ∨ H b = none := fun b z => .inl ((zd_set z).elim id fun z => by cases z; exact za)
  have k : ∀ b o, ¬ Zd C δ b → H b = some o → upd H a ys b = some o := fun b o n x => by
    rw [upd_ne (fun (z : b = a) => n (by rw [z]; exact za))]
    exact x
  have nch : ∀ b, sa C.S b → b ≠ a := fun b c (z : b = a) => h3 (by rw [← z]; exact s.avs b c)
  refine ⟨by simp [s.len], fun j w hw => ?_, fun j l b e1 e2 g1 g2 => ?_, s.g.dep fun b o c x => by rw [upd_ne (nch b c)]; exact x, ⟨fun b o c x => ?_, fun g => ?_⟩, s.avs, fun b z => ?_, fun p mp => (s.gh p mp).move k m⟩
  · by_cases hj : i = j
    · subst hj
      rw [List.getElem?_set_self (own_lt s h)] at hw
      cases hw
      exact ⟨h1, h2, h3, ys, upd_same, r.move k m⟩
    · rw [List.getElem?_set_ne hj] at hw
      have q := s.sl j w hw
      cases w with
      | any => trivial
      | val d =>
        obtain ⟨v, g1, g2⟩ := q
        exact ⟨v, g1, g2.move k m⟩
      | own b es =>
        obtain ⟨g1, g2, g3, zs, g5, g6⟩ := q
        refine ⟨g1, g2, g3, zs, ?_, g6.move k m⟩
        rw [upd_ne (fun (z : b = a) => hj (s.uq i j a ds es h (by rw [← z]; exact hw)))]
        exact g5
      | src => exact q
  · have old : ∀ (l : Nat) (b : Addr) (fs : Oc), (δ.set i (Sl.own a es))[l]? = some (Sl.own b fs) → ∃ gs, δ[l]? = some (Sl.own b gs) := fun l b fs g => by
      by_cases hl : i = l
      · subst hl
        rw [List.getElem?_set_self (own_lt s h)] at g
        cases g
        exact ⟨_, h⟩
      · rw [List.getElem?_set_ne hl] at g
        exact ⟨_, g⟩
    obtain ⟨x1, q1⟩ := old j b e1 g1
    obtain ⟨x2, q2⟩ := old l b e2 g2
    exact s.uq j l b _ _ q1 q2
  · rw [upd_ne (fun z => by rw [z, h2] at x; cases x)]
    exact s.st.keep b o c x
  · exact (s.st.on g).dep fun b o c x => by rw [upd_ne (nch b c)]; exact x
  · obtain ⟨o, x⟩ := s.ava b z
    exact ⟨o, by rw [upd_ne (fun (e : b = a) => h3 (by rw [← e]; exact z))]; exact x⟩
/-- ghosts put on, taken off -/
theorem Sok.ghost (s : Sok C H σ δ) {gs : List (V × Dt)} (h : ∀ g, g ∈ gs → Rep C.K (Zd C δ) H g.1 g.2) : Sok { C with gh := gs ++ C.gh } H σ δ := by
  refine ⟨s.len, fun i u hu => ?_, s.uq, s.g, s.st, s.avs, s.ava, fun q m => ?_⟩
  · have q := s.sl i u hu
    cases u <;> exact q
  · rcases List.mem_append.mp m with m | m
    · exact h q m
    · exact s.gh q m
theorem Sok.unghost {gs : List (V × Dt)} (s : Sok { C with gh := gs ++ C.gh } H σ δ) : Sok C H σ δ ∧ ∀ g, g ∈ gs → Rep C.K (Zd C δ) H g.1 g.2 := by
  refine ⟨⟨s.len, fun i u hu => ?_, s.uq, s.g, s.st, s.avs, s.ava, fun q m => s.gh q (List.mem_append_right _ m)⟩, fun g m => s.gh g (List.mem_append_left _ m)⟩
  have q := s.sl i u hu
  cases u <;> exact q
/-- more to avoid: what is new -/
def Ctx.plus (C : Ctx) (D : Addr) : Ctx := { C with av := fun b => C.av b ∨ b = D }
theorem zd_plus {D b : Addr} : Zd (C.plus D) δ b ↔ Zd C δ b ∨ b = D := by
  unfold Zd Ctx.plus
  constructor
  · rintro ((h | h) | h)
    · exact .inl (.inl h)
    · exact .inr h
    · exact .inl (.inr h)
  · rintro ((h | h) | h)
    · exact .inl (.inl h)
    · exact .inr h
    · exact .inl (.inr h)
theorem Sok.plus (s : Sok C H σ δ) {D : Addr} (n : H D = none) {o : HO} : Sok (C.plus D) (upd H D o) σ δ := by
  have e : Stp C.S H (upd H D o) := Stp.new n
  have k : ∀ b o', ¬ Zd C δ b → H b = some o' → upd H D o b = some o' := fun b o' _ x => same_new n b o' x
  have m : ∀ b, Zd (C.plus D) δ b → Zd C δ b ∨ H b = none := fun b z => (zd_plus.mp z).imp id fun (z : b = D) => by rw [z]; exact n
  refine ⟨s.len, fun i u h => ?_, s.uq, e.on s.g, s.st.trans e, fun b z => .inl (s.avs b z), fun b z => ?_, fun p q => (s.gh p q).move k m⟩
  · have q := s.sl i u h
    cases u with
    | any => trivial
    | val d =>
      obtain ⟨v, h1, h2⟩ := q
      exact ⟨v, h1, h2.move k m⟩
    | own a ds =>
      obtain ⟨h1, h2, h3, xs, h5, h6⟩ := q
      refine ⟨h1, h2, fun z => z.elim h3 fun (z : a = D) => ?_, xs, same_new n _ _ h5, h6.move k m⟩
      rw [z, n] at h5
      cases h5
    | src => exact q
  · rcases z with z | z
    · exact al_step s.ava s.g e b z
    · rw [z]
      exact ⟨_, upd_same⟩
/-- any change that leaves all but D and what draws change -/
theorem Sok.plusStep {D : Addr} (s : Sok (C.plus D) H σ δ) (k : ∀ b o, ¬ ch C.S b → b ≠ D → H b = some o → H' b = some o) (g : Gs C.S H') (n0 : C.H0 D = none) (nD : ∃ o, H' D = some o) : Sok (C.plus D) H' σ δ := by
  have za : ∀ b, ¬ Zd (C.plus D) δ b → ¬ ch C.S b ∧ b ≠ D := fun b n => ⟨fun c => n (.inl (s.avs b (ch_sa c))), fun z => n (.inl (.inr z))⟩
  have k2 : ∀ b o, ¬ Zd (C.plus D) δ b → H b = some o → H' b = some o := fun b o n x => k b o (za b n).1 (za b n).2 x
  refine ⟨s.len, fun i u h => ?_, s.uq, g, ⟨fun b o c x => k b o c (fun z => by rw [z] at x; exact nomatch x.symm.trans n0) (s.st.keep b o c x), fun _ => g⟩, s.avs, fun b z => ?_, fun p q => (s.gh p q).move k2 fun _ z => .inl z⟩
  · have q := s.sl i u h
    cases u with
    | any => trivial
    | val d =>
      obtain ⟨v, h1, h2⟩ := q
      exact ⟨v, h1, h2.move k2 fun _ z => .inl z⟩
    | own a ds =>
      obtain ⟨h1, h2, h3, xs, h5, h6⟩ := q
      exact ⟨h1, h2, h3, xs, k _ _ (fun c => h3 (s.avs _ (ch_sa c))) (fun z => h3 (.inr z)) h5, h6.move k2 fun _ z => .inl z⟩
    | src => exact q
  · by_cases c : ch C.S b
    · exact g.dom (ch_sa c)
    · by_cases e : b = D
      · rw [e]
        exact nD
      · obtain ⟨o, x⟩ := s.ava b z
        exact ⟨o, k b o c e x⟩
end
end Dl
set_option maxHeartbeats 1000000
namespace Dl
open PySem PySem.Spec PyProof.Rows L2 Lcn Sq
abbrev EvE := List Sl → (Dt → Prop) → Prop
abbrev EvT := List Sl → (Bool → Prop) → Prop
abbrev EvA := List Sl → (List Dt → Prop) → Prop
/-- what a value avoids: z: all own lists too -/
def Zz (z : Bool) (C : Ctx) (δ : List Sl) : Addr → Prop := match z with
  | true => Zd C δ
  | false => C.av
def VE (z : Bool) (K : PySem.W.Frag) (te : TE) (ev : EvE) : Prop := ∀ (C : Ctx) (σ : L2.St) (δ : List Sl) (H : Hp) (Q : VK) (Qd : Dt → Prop), C.K = K → Sok C H σ δ → ev δ Qd → (∀ v d H', Stp C.S H H' → Rep K (Zz z C δ) H' v d → Qd d → Q v H') → te σ H Q
def DE {ι : Type} (z : Bool) (K : PySem.W.Frag) (X : ι → Cx) (e : Expr) (ev : EvE) : Prop := ∃ te, (∀ i, PE (X i) e te) ∧ VE z K te ev
def VT (K : PySem.W.Frag) (te : TT) (ev : EvT) : Prop := ∀ (C : Ctx) (σ : L2.St) (δ : List Sl) (H : Hp) (Q : Bool → Hp → Prop) (Qd : Bool → Prop), C.K = K → Sok C H σ δ → ev δ Qd → (∀ b H', Stp C.S H H' → Qd b → Q b H') → te σ H Q
def DT {ι : Type} (K : PySem.W.Frag) (X : ι → Cx) (e : Expr) (ev : EvT) : Prop := ∃ te, (∀ i, PT (X i) e te) ∧ VT K te ev
def DW {ι : Type} (K : PySem.W.Frag) (X : ι → Cx) (e : Expr) (ev : EvT) : Prop := ∃ te, (∀ i, PW (X i) e te) ∧ VT K te ev
def VA (z : Bool) (K : PySem.W.Frag) (te : TA) (ev : EvA) : Prop := ∀ (C : Ctx) (σ : L2.St) (δ : List Sl) (H : Hp) (Q : List V → Hp → Prop) (Qd : List Dt → Prop), C.K = K → Sok C H σ δ → ev δ Qd → (∀ vs ds H', Stp C.S H H' → RepL K (Zz z C δ) H' vs ds → Qd ds → Q vs H') → te σ H Q
def DA {ι : Type} (z : Bool) (K : PySem.W.Frag) (X : ι → Cx) (es : List Expr) (ev : EvA) : Prop := ∃ te, (∀ i, PA (X i) es te) ∧ VA z K te ev
section
variable {C : Ctx} {H H' : Hp} {σ : L2.St} {δ : List Sl} {z : Bool}
theorem Sok.al (s : Sok C H σ δ) : Al (Zz z C δ) H := by
  cases z
  · exact s.al0
  · exact s.alz
theorem rep_st (s : Sok C H σ δ) (e : Stp C.S H H') {v : V} {d : Dt} (r : Rep C.K (Zz z C δ) H v d) : Rep C.K (Zz z C δ) H' v d := by
  cases z
  · exact rep_step0 s e r
  · exact rep_step s e r
theorem repl_st (s : Sok C H σ δ) (e : Stp C.S H H') {v : List V} {d : List Dt} (r : RepL C.K (Zz z C δ) H v d) : RepL C.K (Zz z C δ) H' v d := ⟨r.l, fun i x d h1 h2 => rep_st s e (r.f i x d h1 h2)⟩
end
section
variable {ι : Type} {K : PySem.W.Frag} {X : ι → Cx} {z : Bool} {pos : Pos} {a b c e : Expr} {es : List Expr} {ea eb ec : EvE}
/-- less is avoided -/
theorem de_low (h : DE true K X a ea) : DE false K X a ea := by
  obtain ⟨t, p, v⟩ := h
  exact ⟨t, p, fun C σ δ H Q Qd k s e q => v C σ δ H Q Qd k s e fun v d H' e r q2 => q v d H' e (r.mono fun b z => .inl z) q2⟩
/-- what is flat avoids all -/
theorem de_flat (h : DE false K X a ea) : DE true K X a (fun δ Q => ea δ fun d => d.flat = true ∧ Q d) := by
  obtain ⟨t, p, v⟩ := h
  exact ⟨t, p, fun C σ δ H Q Qd k s e q => v C σ δ H Q _ k s e fun v d H' e r q2 => q v d H' e (r.flat q2.1) q2.2⟩
def dVar (i : Nat) : EvE := fun δ Q => match δ[i]? with
  | some (.val d) => Q d
  | _ => False
theorem de_var {i : Nat} {x : Str} (p : ∀ j, PE (X j) (.Name x pos) (tVar i)) : DE z K X (.Name x pos) (dVar i) := by
  refine ⟨_, p, fun C σ δ H Q Qd k s e q => ?_⟩
  subst k
  unfold dVar at e
  split at e
  · rename_i d h
    obtain ⟨v, h1, h2⟩ := s.sl i _ h
    refine ⟨v, h1, q v d H (Stp.refl H) ?_ e⟩
    cases z
    · exact h2.mono fun b z => .inl z
    · exact h2
  · exact e.elim
/-- a name of an own list or a thing, read and let go -/
def dVarO (i : Nat) : EvE := fun δ Q => match δ[i]? with
  | some (.val d) => Q d
  | some (.own _ (.l ds)) => Q (.lst ds)
  | _ => False
theorem de_varO {i : Nat} {x : Str} (p : ∀ j, PE (X j) (.Name x pos) (tVar i)) : DE false K X (.Name x pos) (dVarO i) := by
  refine ⟨_, p, fun C σ δ H Q Qd k s e q => ?_⟩
  subst k
  unfold dVarO at e
  split at e
  · rename_i d h
    obtain ⟨v, h1, h2⟩ := s.sl i _ h
    exact ⟨v, h1, q v d H (Stp.refl H) (h2.mono fun b z => .inl z) e⟩
  · rename_i a ds h
    obtain ⟨h1, _, h3, xs, h5, h6⟩ := s.lstAt h
    exact ⟨.ref a, h1, q _ _ H (Stp.refl H) (.lst ⟨h3, h5⟩ h6.l fun i x d hx hd => (h6.f i x d hx hd).mono fun b z => .inl z) e⟩
  · exact e.elim
def dC (d : Dt) : EvE := fun _ Q => Q d
theorem de_c {v : V} {d : Dt} (p : ∀ j, PE (X j) a (tC v)) (r : ∀ (K : PySem.W.Frag) (av : Addr → Prop) (H : Hp), Rep K av H v d) : DE z K X a (dC d) :=
  ⟨_, p, fun C σ δ H Q Qd k s e q => q v d H (Stp.refl H) (r _ _ _) e⟩
theorem de_int {i : Int} {j pos} : DE z K X (.Constant (.int i) j pos) (dC (.int i)) := de_c (fun _ => pe_int) fun _ _ _ => .int i
theorem de_bl {i : Bool} {j pos} : DE z K X (.Constant (.bool i) j pos) (dC (.bl i)) := de_c (fun _ => pe_bl) fun _ _ _ => .bl i
theorem de_non {j pos} : DE z K X (.Constant .none j pos) (dC .non) := de_c (fun _ => pe_non) fun _ _ _ => .non
theorem de_str {x : Str} {j pos} : DE z K X (.Constant (.str x) j pos) (dC (.str x)) := de_c (fun _ => pe_str) fun _ _ _ => .str x
/-! ### operators, by values -/
def ROk (K : PySem.W.Frag) (r : R2) (dr : Dt → Dt → (Dt → Prop) → Prop) : Prop := ∀ (av : Addr → Prop) (H : Hp) (x y : V) (dx dy : Dt) (Q : VK) (Qd : Dt → Prop), Al av H → Rep K av H x dx → Rep K av H y dy → dr dx dy Qd → (∀ v d H', Same H H' → Rep K av H' v d → Qd d → Q v H') → r x y H Q
theorem ROk.or {r r' : R2} {dr dr' : Dt → Dt → (Dt → Prop) → Prop} (h : ROk K r dr) (h' : ROk K r' dr') : ROk K (fun x y H Q => r x y H Q ∨ r' x y H Q) (fun x y Q => dr x y Q ∨ dr' x y Q) :=
  fun av H x y dx dy Q Qd al rx ry d q => d.imp (fun d => h av H x y dx dy Q Qd al rx ry d q) fun d => h' av H x y dx dy Q Qd al rx ry d q
theorem OpR.or {X : Cx} {f : Value → Value → Sem Value} {r r' : R2} (h : OpR X f r) (h' : OpR X f r') : OpR X f (fun x y H Q => r x y H Q ∨ r' x y H Q) := fun pins s σ H x y v u Q I rx ry q => q.elim (h pins s σ H x y v u Q I rx ry) (h' pins s σ H x y v u Q I rx ry)
theorem ROk.imp {r : R2} {dr dr' : Dt → Dt → (Dt → Prop) → Prop} (h : ROk K r dr) (i : ∀ x y Q, dr' x y Q → dr x y Q) : ROk K r dr' := fun av H x y dx dy Q Qd al rx ry d q => h av H x y dx dy Q Qd al rx ry (i _ _ _ d) q
def dOp (dr : Dt → Dt → (Dt → Prop) → Prop) (ea eb : EvE) : EvE := fun δ Q => ea δ fun x => eb δ fun y => dr x y Q
theorem ve_op {ta tb : TE} {r : R2} {dr : Dt → Dt → (Dt → Prop) → Prop} (ro : ROk K r dr) (va : VE z K ta ea) (vb : VE z K tb eb) : VE z K (tOp r ta tb) (dOp dr ea eb) := by
  intro C σ δ H Q Qd k s e q
  refine va C σ δ H _ _ k s e fun x dx H1 e1 r1 e => ?_
  refine vb C σ δ H1 _ _ k (s.step e1) e fun y dy H2 e2 r2 e => ?_
  have s2 := (s.step e1).step e2
  refine ro (Zz z C δ) H2 x y dx dy Q Qd s2.al ?_ r2 e fun v d H3 e3 r3 qd => q v d H3 ((e1.trans e2).trans (Stp.of e3)) r3 qd
  subst k
  exact rep_st (s.step e1) e2 r1
theorem de_op {op : Operator} {r : R2} {dr : Dt → Dt → (Dt → Prop) → Prop} (ho : ∀ i, OpR (X i) (binaryOp op) r) (ro : ROk K r dr) (ha : DE z K X a ea) (hb : DE z K X b eb) : DE z K X (.BinOp a op b pos) (dOp dr ea eb) := by
  obtain ⟨ta, pa, va⟩ := ha
  obtain ⟨tb, pb, vb⟩ := hb
  exact ⟨_, fun i => pe_op (ho i) (pa i) (pb i), ve_op ro va vb⟩
theorem de_cmp {op : CmpOp} {r : R2} {dr : Dt → Dt → (Dt → Prop) → Prop} (ho : ∀ i, OpR (X i) (compareOp op) r) (ro : ROk K r dr) (ha : DE z K X a ea) (hb : DE z K X b eb) (hm : behindInMarks op b = false) : DE z K X (.Compare a [op] [b] pos) (dOp dr ea eb) := by
  obtain ⟨ta, pa, va⟩ := ha
  obtain ⟨tb, pb, vb⟩ := hb
  exact ⟨_, fun i => pe_cmpR (ho i) (pa i) (pb i) hm, ve_op ro va vb⟩
def dTst (ea : EvE) : EvT := fun δ Q => ea δ fun d => ∃ b, d = .bl b ∧ Q b
theorem vt_tst {ta : TE} (va : VE z K ta ea) : VT K (tTest ta) (dTst ea) := by
  intro C σ δ H Q Qd k s e q
  refine va C σ δ H _ _ k s e fun x dx H1 e1 r1 e => ?_
  obtain ⟨b, rfl, e⟩ := e
  exact ⟨b, r1.bl_inv, q b H1 e1 e⟩
theorem vt_b {ta : TE} (va : VE z K ta ea) : VT K (tB ta) (dTst ea) := by
  intro C σ δ H Q Qd k s e q
  refine va C σ δ H _ _ k s e fun x dx H1 e1 r1 e => ?_
  obtain ⟨b, rfl, e⟩ := e
  exact ⟨b, r1.bl_inv, q b H1 e1 e⟩
theorem dt_cmp {op : CmpOp} {r : R2} {dr : Dt → Dt → (Dt → Prop) → Prop} (ho : ∀ i, OpR (X i) (compareOp op) r) (ro : ROk K r dr) (ha : DE false K X a ea) (hb : DE false K X b eb) (hm : behindInMarks op b = false) : DT K X (.Compare a [op] [b] pos) (dTst (dOp dr ea eb)) := by
  obtain ⟨ta, pa, va⟩ := ha
  obtain ⟨tb, pb, vb⟩ := hb
  exact ⟨_, fun i => pt_cmpR (ho i) (pa i) (pb i) hm, vt_tst (ve_op ro va vb)⟩
theorem dt_val (ha : DE false K X a ea) (he : ∀ i, ∀ whole, isTrue a (X i).env whole = (do let v ← whole; standAt a.pos; holding [v] (truthy v)) := by intro _ _; rfl) : DT K X a (dTst ea) := by
  obtain ⟨ta, pa, va⟩ := ha
  exact ⟨_, fun i => pt_val (pa i) (he i), vt_b va⟩
/-- truth of any thing -/
def truD : Dt → Option Bool
  | .non => some false
  | .bl b => some b
  | .int i => some (i != 0)
  | .str y => some ((y.length : Int) != 0)
  | .lst xs => some (!xs.isEmpty)
  | .tup xs => some (!xs.isEmpty)
  | .ins _ _ => none
def dTru (ea : EvE) : EvT := fun δ Q => ea δ fun d => (match d with
  | .str y => y.length ≤ sizeLine
  | _ => True) ∧ ∃ b, truD d = some b ∧ Q b
theorem repl_empty {av : Addr → Prop} {H : Hp} {xs : List V} {ds : List Dt} (r : RepL K av H xs ds) : (!ds.isEmpty) = !xs.isEmpty := by
  have := r.l
  cases xs <;> cases ds <;> simp_all
theorem dt_tru (ha : DE false K X a ea) (he : ∀ i, ∀ whole, isTrue a (X i).env whole = (do let v ← whole; standAt a.pos; holding [v] (truthy v)) := by intro _ _; rfl) (hK : ∀ i, (X i).K = K := by intro _; rfl) : DT K X a (dTru ea) := by
  obtain ⟨ta, pa, va⟩ := ha
  refine ⟨fun σ H Q => ta σ H fun x H' => ∃ k, TruV K x H' k ∧ Q k H', fun i => hK i ▸ pt_truth (pa i) (he i), fun C σ δ H Q Qd k s e q => ?_⟩
  refine va C σ δ H _ _ k s e fun x dx H1 e1 r1 e => ?_
  obtain ⟨g, b, tb, e⟩ := e
  refine ⟨b, ?_, q b H1 e1 e⟩
  cases r1 with
  | non => exact (Option.some.inj tb).symm
  | bl b => exact (Option.some.inj tb).symm
  | int i => exact (Option.some.inj tb).symm
  | str y => exact ⟨g, (Option.some.inj tb).symm⟩
  | lst h l f => exact .inl ⟨_, h.sq, (Option.some.inj tb).symm.trans (repl_empty (K := K) ⟨l, f⟩)⟩
  | tup h l f => exact .inr (.inl ⟨_, h.sq, (Option.some.inj tb).symm.trans (repl_empty (K := K) ⟨l, f⟩)⟩)
  | ins => cases tb
/-! ### and, or, not, if -/
variable {ta' tb' : EvT} {rest : List Expr}
def dAndT (t u : EvT) : EvT := fun δ Q => t δ fun c => if c = true then u δ Q else Q false
def dOrT (t u : EvT) : EvT := fun δ Q => t δ fun c => if c = true then Q true else u δ Q
def dNotT (t : EvT) : EvT := fun δ Q => t δ fun c => Q (!c)
theorem dw_and1 (h : DT K X a ta') : DW K X (.BoolOp .And [a] pos) ta' := by
  obtain ⟨t, p, v⟩ := h
  exact ⟨t, fun i => pw_and1 (p i), v⟩
theorem dw_or1 (h : DT K X a ta') : DW K X (.BoolOp .Or [a] pos) ta' := by
  obtain ⟨t, p, v⟩ := h
  exact ⟨t, fun i => pw_or1 (p i), v⟩
theorem dw_and (h : DT K X a ta') (h2 : DW K X (.BoolOp .And (b :: rest) pos) tb') : DW K X (.BoolOp .And (a :: b :: rest) pos) (dAndT ta' tb') := by
  obtain ⟨t, p, v⟩ := h
  obtain ⟨t2, p2, v2⟩ := h2
  refine ⟨_, fun i => pw_and (p i) (p2 i), fun C σ δ H Q Qd k s e q => ?_⟩
  refine v C σ δ H _ _ k s e fun c H1 e1 e => ?_
  cases c
  · exact q false H1 e1 e
  · exact v2 C σ δ H1 Q Qd k (s.step e1) e fun c H2 e2 e => q c H2 (e1.trans e2) e
theorem dw_or (h : DT K X a ta') (h2 : DW K X (.BoolOp .Or (b :: rest) pos) tb') : DW K X (.BoolOp .Or (a :: b :: rest) pos) (dOrT ta' tb') := by
  obtain ⟨t, p, v⟩ := h
  obtain ⟨t2, p2, v2⟩ := h2
  refine ⟨_, fun i => pw_or (p i) (p2 i), fun C σ δ H Q Qd k s e q => ?_⟩
  refine v C σ δ H _ _ k s e fun c H1 e1 e => ?_
  cases c
  · exact v2 C σ δ H1 Q Qd k (s.step e1) e fun c H2 e2 e => q c H2 (e1.trans e2) e
  · exact q true H1 e1 e
theorem dt_w (h : DW K X a ta') : DT K X a ta' := by
  obtain ⟨t, p, v⟩ := h
  exact ⟨t, fun i => (p i).pt, v⟩
theorem dt_not (h : DT K X a ta') : DT K X (.UnaryOp .Not a pos) (dNotT ta') := by
  obtain ⟨t, p, v⟩ := h
  refine ⟨_, fun i => pt_not (p i), fun C σ δ H Q Qd k s e q => ?_⟩
  exact v C σ δ H _ _ k s e fun c H1 e1 e => q _ H1 e1 e
/-- .. as values, where all are True or False -/
def dAndV (ea eb : EvE) : EvE := fun δ Q => ea δ fun d => ∃ c, d = .bl c ∧ if c = true then eb δ Q else Q (.bl false)
def dOrV (ea eb : EvE) : EvE := fun δ Q => ea δ fun d => ∃ c, d = .bl c ∧ if c = true then Q (.bl true) else eb δ Q
def dNotV (ea : EvE) : EvE := fun δ Q => ea δ fun d => ∃ c, d = .bl c ∧ Q (.bl (!c))
theorem de_one {op} (h : DE z K X a ea) : DE z K X (.BoolOp op [a] pos) ea := by
  obtain ⟨t, p, v⟩ := h
  exact ⟨t, fun i => pe_one (p i), v⟩
theorem de_and (h : DE z K X a ea) (h2 : DE z K X (.BoolOp .And (b :: rest) pos) eb) : DE z K X (.BoolOp .And (a :: b :: rest) pos) (dAndV ea eb) := by
  obtain ⟨t, p, v⟩ := h
  obtain ⟨t2, p2, v2⟩ := h2
  refine ⟨_, fun i => pe_and (p i) (p2 i), fun C σ δ H Q Qd k s e q => ?_⟩
  refine v C σ δ H _ _ k s e fun x d H1 e1 r1 e => ?_
  obtain ⟨c, rfl, e⟩ := e
  refine ⟨c, r1.bl_inv, ?_⟩
  cases c
  · exact q _ _ H1 e1 (.bl false) e
  · exact v2 C σ δ H1 Q Qd k (s.step e1) e fun v d H2 e2 r e => q v d H2 (e1.trans e2) r e
theorem de_or (h : DE z K X a ea) (h2 : DE z K X (.BoolOp .Or (b :: rest) pos) eb) : DE z K X (.BoolOp .Or (a :: b :: rest) pos) (dOrV ea eb) := by
  obtain ⟨t, p, v⟩ := h
  obtain ⟨t2, p2, v2⟩ := h2
  refine ⟨_, fun i => pe_or (p i) (p2 i), fun C σ δ H Q Qd k s e q => ?_⟩
  refine v C σ δ H _ _ k s e fun x d H1 e1 r1 e => ?_
  obtain ⟨c, rfl, e⟩ := e
  refine ⟨c, r1.bl_inv, ?_⟩
  cases c
  · exact v2 C σ δ H1 Q Qd k (s.step e1) e fun v d H2 e2 r e => q v d H2 (e1.trans e2) r e
  · exact q _ _ H1 e1 (.bl true) e
theorem de_not (h : DE z K X a ea) : DE z K X (.UnaryOp .Not a pos) (dNotV ea) := by
  obtain ⟨t, p, v⟩ := h
  refine ⟨_, fun i => pe_not (p i), fun C σ δ H Q Qd k s e q => ?_⟩
  refine v C σ δ H _ _ k s e fun x d H1 e1 r1 e => ?_
  obtain ⟨c, rfl, e⟩ := e
  exact ⟨c, r1.bl_inv, q _ _ H1 e1 (.bl _) e⟩
def dIfE (t : EvT) (ea eb : EvE) : EvE := fun δ Q => t δ fun c => if c = true then ea δ Q else eb δ Q
theorem de_if (h : DT K X c ta') (h1 : DE z K X a ea) (h2 : DE z K X b eb) : DE z K X (.IfExp c a b pos) (dIfE ta' ea eb) := by
  obtain ⟨t, p, v⟩ := h
  obtain ⟨t1, p1, v1⟩ := h1
  obtain ⟨t2, p2, v2⟩ := h2
  refine ⟨_, fun i => pe_ifExp (p i) (p1 i) (p2 i), fun C σ δ H Q Qd k s e q => ?_⟩
  refine v C σ δ H _ _ k s e fun c H1 e1 e => ?_
  cases c
  · exact v2 C σ δ H1 Q Qd k (s.step e1) e fun v d H2 e2 r e => q v d H2 (e1.trans e2) r e
  · exact v1 C σ δ H1 Q Qd k (s.step e1) e fun v d H2 e2 r e => q v d H2 (e1.trans e2) r e
/-! ### one-place operators -/
def dNeg (ea : EvE) : EvE := fun δ Q => ea δ fun d => ∃ i, d = .int i ∧ Q (.int (-i))
theorem de_neg (h : DE z K X a ea) : DE z K X (.UnaryOp .USub a pos) (dNeg ea) := by
  obtain ⟨t, p, v⟩ := h
  refine ⟨_, fun i => pe_un un_neg (p i), fun C σ δ H Q Qd k s e q => ?_⟩
  refine v C σ δ H _ _ k s e fun x d H1 e1 r1 e => ?_
  obtain ⟨i, rfl, e⟩ := e
  exact ⟨i, r1.int_inv, q _ _ H1 e1 (.int _) e⟩
/-! ### argument lists, displays -/
def dNilA : EvA := fun _ Q => Q []
def dConsA (ea : EvE) (t : EvA) : EvA := fun δ Q => ea δ fun d => t δ fun ds => Q (d :: ds)
variable {et : EvA}
theorem da_nil : DA z K X [] dNilA := ⟨_, fun _ => pa_nil, fun C σ δ H Q Qd k s e q => q [] [] H (Stp.refl H) .nil e⟩
theorem da_cons (ha : DE z K X e ea) (hr : DA z K X es et) (hs : ∀ i, starEach (e :: es) (X i).env = (false, eval e (X i).env) :: starEach es (X i).env := by intro _; rfl) : DA z K X (e :: es) (dConsA ea et) := by
  obtain ⟨t, p, v⟩ := ha
  obtain ⟨t2, p2, v2⟩ := hr
  refine ⟨_, fun i => pa_cons (p i) (p2 i) (hs i), fun C σ δ H Q Qd k s e q => ?_⟩
  refine v C σ δ H _ _ k s e fun x d H1 e1 r1 e => ?_
  refine v2 C σ δ H1 _ _ k (s.step e1) e fun vs ds H2 e2 r2 e => q _ _ H2 (e1.trans e2) (.cons ?_ r2) e
  subst k
  exact rep_st (s.step e1) e2 r1
def dTup (et : EvA) : EvE := fun δ Q => et δ fun ds => ds.length ≤ sizeLine ∧ Q (.tup ds)
def dLst (et : EvA) : EvE := fun δ Q => et δ fun ds => ds.length ≤ sizeLine ∧ Q (.lst ds)
theorem de_tup {x1} (h : DA z K X es et) : DE z K X (.Tuple es x1 pos) (dTup et) := by
  obtain ⟨t, p, v⟩ := h
  refine ⟨_, fun i => pe_tup (p i), fun C σ δ H Q Qd k s e q => ?_⟩
  refine v C σ δ H _ _ k s e fun xs ds H1 e1 r1 e => ⟨by rw [r1.l]; exact e.1, fun p hp => q _ _ _ (e1.trans (Stp.new hp)) (rep_newT (s.step e1).al hp r1) e.2⟩
theorem de_lst (h : DA z K X es et) : DE z K X (.List es pos) (dLst et) := by
  obtain ⟨t, p, v⟩ := h
  refine ⟨_, fun i => pe_lst (p i), fun C σ δ H Q Qd k s e q => ?_⟩
  refine v C σ δ H _ _ k s e fun xs ds H1 e1 r1 e => ⟨by rw [r1.l]; exact e.1, fun p hp => q _ _ _ (e1.trans (Stp.new hp)) (rep_newL (s.step e1).al hp r1) e.2⟩
/-! ### calls of built-ins, by values -/
def RcOk (K : PySem.W.Frag) (r : List V → Hp → VK → Prop) (dr : List Dt → (Dt → Prop) → Prop) : Prop := ∀ (av : Addr → Prop) (H : Hp) (xs : List V) (ds : List Dt) (Q : VK) (Qd : Dt → Prop), Al av H → RepL K av H xs ds → dr ds Qd → (∀ v d H', Same H H' → Rep K av H' v d → Qd d → Q v H') → r xs H Q
def dCall (dr : List Dt → (Dt → Prop) → Prop) (et : EvA) : EvE := fun δ Q => et δ fun ds => dr ds Q
theorem ve_cb {t : TA} {r : List V → Hp → VK → Prop} {dr : List Dt → (Dt → Prop) → Prop} (ro : RcOk K r dr) (v : VA z K t et) : VE z K (tCB r t) (dCall dr et) := by
  intro C σ δ H Q Qd k s e q
  refine v C σ δ H _ _ k s e fun xs ds H1 e1 r1 e => ?_
  exact ro _ H1 xs ds Q Qd (s.step e1).al r1 e fun v d H2 e2 r2 e => q v d H2 (e1.trans (Stp.of e2)) r2 e
theorem de_callB {id : String} {x : Str} {p : Pos} {r : List V → Hp → VK → Prop} {dr : List Dt → (Dt → Prop) → Prop} (hc : ∀ i, CallR (X i) (.builtin id) r) (ro : RcOk K r dr) (hg : ∀ i, Gl (X i) x) (hm : ∀ i, (X i).mg x = none) (hv : bootBuiltins x = some (.builtin id)) (ha : DA z K X (e :: es) et) (hn : x ≠ "__name__" := by decide) (hdb : (x == ("__debug__" : Str)) = false := by decide)
    (he : ∀ i, starEach (e :: es) (X i).env = (false, eval e (X i).env) :: starEach es (X i).env := by intro _; rfl) (hpl : ∀ i, (backTo pos (starEach es (X i).env)).any (·.1) = false := by intro _; rfl) : DE z K X (.Call (.Name x p) (e :: es) [] pos) (dCall dr et) := by
  obtain ⟨t, pa, v⟩ := ha
  exact ⟨_, fun i => pe_callB (hc i) (hg i) (hm i) hv (pa i) hn hdb (he i) (hpl i), ve_cb ro v⟩
theorem de_callTy {T : String} {x : Str} {p : Pos} {r : List V → Hp → VK → Prop} {dr : List Dt → (Dt → Prop) → Prop} (hc : ∀ i, CallR (X i) (.type T) r) (ro : RcOk K r dr) (hg : ∀ i, Gl (X i) x) (hm : ∀ i, (X i).mg x = none) (hv : bootBuiltins x = some (.type T)) (ha : DA z K X (e :: es) et) (hn : x ≠ "__name__" := by decide) (hdb : (x == ("__debug__" : Str)) = false := by decide)
    (he : ∀ i, starEach (e :: es) (X i).env = (false, eval e (X i).env) :: starEach es (X i).env := by intro _; rfl) (hpl : ∀ i, (backTo pos (starEach es (X i).env)).any (·.1) = false := by intro _; rfl) : DE z K X (.Call (.Name x p) (e :: es) [] pos) (dCall dr et) := by
  obtain ⟨t, pa, v⟩ := ha
  exact ⟨_, fun i => pe_callTy (hc i) (hg i) (hm i) hv (pa i) hn hdb (he i) (hpl i), ve_cb ro v⟩
/-! ### subscripts, slices -/
theorem de_ix {r : R2} {dr : Dt → Dt → (Dt → Prop) → Prop} (hr : ∀ i, IxR (X i) r) (ro : ROk K r dr) (ha : DE z K X a ea) (hb : DE z K X b eb) (hs : PlainIx b) : DE z K X (.Subscript a b pos) (dOp dr ea eb) := by
  obtain ⟨ta, pa, va⟩ := ha
  obtain ⟨tb, pb, vb⟩ := hb
  exact ⟨_, fun i => pe_ix (hr i) (pa i) (pb i) hs, ve_op ro va vb⟩
end
end Dl
set_option maxHeartbeats 1000000
namespace Dl
open PySem PySem.Spec PyProof.Rows L2 Lcn Sq
/-! ### values: arithmetic -/
section
variable {K : PySem.W.Frag} {X : Cx}
theorem ro_I0 {g : Int → Int → V} {dg : Int → Int → Dt} (h : ∀ (av : Addr → Prop) (H : Hp) i j, Rep K av H (g i j) (dg i j)) : ROk K (rI0 g) (fun x y Q => ∃ i j, x = .int i ∧ y = .int j ∧ Q (dg i j)) := by
  intro av H x y dx dy Q Qd al rx ry d q
  obtain ⟨i, j, rfl, rfl, d⟩ := d
  exact ⟨i, j, rx.int_inv, ry.int_inv, q _ _ H (Same.refl H) (h av H i j) d⟩
theorem ro_I {c : Int → Int → Prop} {g : Int → Int → V} {dg : Int → Int → Dt} (h : ∀ (av : Addr → Prop) (H : Hp) i j, Rep K av H (g i j) (dg i j)) : ROk K (rI c g) (fun x y Q => ∃ i j, x = .int i ∧ y = .int j ∧ c i j ∧ Q (dg i j)) := by
  intro av H x y dx dy Q Qd al rx ry d q
  obtain ⟨i, j, rfl, rfl, hc, d⟩ := d
  exact ⟨i, j, rx.int_inv, ry.int_inv, hc, q _ _ H (Same.refl H) (h av H i j) d⟩
/-- a + b -/
def dAdd (x y : Dt) (Q : Dt → Prop) : Prop := match x, y with
  | .int i, .int j => Q (.int (i + j))
  | .str s, .str t => s.length + t.length ≤ sizeLine ∧ Q (.str (s ++ t))
  | .tup a, .tup b => a.length + b.length ≤ sizeLine ∧ Q (.tup (a ++ b))
  | .lst a, .lst b => a.length + b.length ≤ sizeLine ∧ Q (.lst (a ++ b))
  | _, _ => False
def rAddAll (K : PySem.W.Frag) : R2 := fun x y H Q => (rI0 (fun i j => .int (i + j)) x y H Q ∨ (fun x y H Q => ∃ i j, x = .str i ∧ y = .str j ∧ i.length + j.length ≤ sizeLine ∧ Q (.str (i ++ j)) H : R2) x y H Q) ∨ (rCatA K x y H Q ∨ rCat x y H Q)
theorem op_addAll (hK : X.K = K) : OpR X (binaryOp .Add) (rAddAll K) := by
  subst hK
  exact (op_add.or op_add_str).or (op_catA.or op_cat)
theorem ro_add : ROk K (rAddAll K) dAdd := by
  intro av H x y dx dy Q Qd al rx ry d q
  unfold dAdd at d
  split at d
  · exact .inl (.inl ⟨_, _, rx.int_inv, ry.int_inv, q _ _ H (Same.refl H) (.int _) d⟩)
  · exact .inl (.inr ⟨_, _, rx.str_inv, ry.str_inv, d.1, q _ _ H (Same.refl H) (.str _) d.2⟩)
  · obtain ⟨a, xs, rfl, hx, lx⟩ := rx.tup_inv
    obtain ⟨b, ys, rfl, hy, ly⟩ := ry.tup_inv
    refine .inr (.inl ⟨a, b, xs, ys, rfl, rfl, hx.sq, hy.sq, by rw [lx.l, ly.l]; exact d.1, fun e => ?_, fun _ e => ?_, fun _ _ p hp => q _ _ _ (same_new hp) (rep_newT al hp (lx.append ly)) d.2⟩)
    · have := (lx.append ly)
      refine q _ _ H (Same.refl H) ?_ d.2
      subst e
      exact .tup hy this.l this.f
    · have := (lx.append ly)
      refine q _ _ H (Same.refl H) ?_ d.2
      subst e
      rw [List.append_nil] at this
      exact .tup hx this.l this.f
  · obtain ⟨a, xs, rfl, hx, lx⟩ := rx.lst_inv
    obtain ⟨b, ys, rfl, hy, ly⟩ := ry.lst_inv
    exact .inr (.inr ⟨a, b, xs, ys, rfl, rfl, hx.2, hy.2, by rw [lx.l, ly.l]; exact d.1, fun p hp => q _ _ _ (same_new hp) (rep_newL al hp (lx.append ly)) d.2⟩)
  · exact d.elim
/-- ints alone -/
def dI (c : Int → Int → Prop) (g : Int → Int → Dt) (x y : Dt) (Q : Dt → Prop) : Prop := match x, y with
  | .int i, .int j => c i j ∧ Q (g i j)
  | _, _ => False
theorem ro_dI {c : Int → Int → Prop} {g : Int → Int → V} {dg : Int → Int → Dt} (h : ∀ (av : Addr → Prop) (H : Hp) i j, Rep K av H (g i j) (dg i j)) : ROk K (rI c g) (dI c dg) := (ro_I h).imp fun x y Q d => by
  unfold dI at d
  split at d
  · exact ⟨_, _, rfl, rfl, d.1, d.2⟩
  · exact d.elim
def dI0 (g : Int → Int → Dt) (x y : Dt) (Q : Dt → Prop) : Prop := match x, y with
  | .int i, .int j => Q (g i j)
  | _, _ => False
theorem ro_dI0 {g : Int → Int → V} {dg : Int → Int → Dt} (h : ∀ (av : Addr → Prop) (H : Hp) i j, Rep K av H (g i j) (dg i j)) : ROk K (rI0 g) (dI0 dg) := (ro_I0 h).imp fun x y Q d => by
  unfold dI0 at d
  split at d
  · exact ⟨_, _, rfl, rfl, d⟩
  · exact d.elim
/-- a * b: ints, a list or a tuple so many times -/
def dMul (x y : Dt) (Q : Dt → Prop) : Prop := match x, y with
  | .int i, .int j => CMulW i j ∧ Q (.int (i * j))
  | .lst a, .int k => -(2 ^ 63) ≤ k ∧ k < 2 ^ 63 ∧ a.length * k.toNat ≤ sizeLine ∧ Q (.lst (List.replicate k.toNat a).flatten)
  | _, _ => False
def rMulAll : R2 := fun x y H Q => rI CMulW (fun i j => .int (i * j)) x y H Q ∨ rRep x y H Q
theorem op_mulAll : OpR X (binaryOp .Mult) rMulAll := op_mulW.or op_rep
theorem repl_flat {av : Addr → Prop} {H : Hp} {xs : List V} {ds : List Dt} (h : RepL K av H xs ds) : ∀ n : Nat, RepL K av H (List.replicate n xs).flatten (List.replicate n ds).flatten
  | 0 => .nil
  | n + 1 => by
    rw [List.replicate_succ, List.replicate_succ, List.flatten_cons, List.flatten_cons]
    exact h.append (repl_flat h n)
theorem ro_mul : ROk K rMulAll dMul := by
  intro av H x y dx dy Q Qd al rx ry d q
  unfold dMul at d
  split at d
  · exact .inl ⟨_, _, rx.int_inv, ry.int_inv, d.1, q _ _ H (Same.refl H) (.int _) d.2⟩
  · obtain ⟨a, xs, rfl, hx, lx⟩ := rx.lst_inv
    exact .inr ⟨a, _, xs, rfl, ry.int_inv, hx.2, d.1, d.2.1, by rw [lx.l]; exact d.2.2.1, fun p hp => q _ _ _ (same_new hp) (rep_newL al hp (repl_flat lx _)) d.2.2.2⟩
  · exact d.elim
end
/-! ### equality of data -/
mutual
def py : Dt → PyData
  | .non => .none
  | .bl b => .bool b
  | .int i => .int i
  | .str s => .str s
  | .lst xs => .list (pyL xs)
  | .tup xs => .tuple (pyL xs)
  | .ins _ _ => .none
def pyL : List Dt → List PyData
  | [] => []
  | x :: r => py x :: pyL r
end
mutual
/-- data that == tells by value: no instances -/
def okD : Dt → Bool
  | .ins _ _ => false
  | .lst xs => okL xs
  | .tup xs => okL xs
  | .str s => PyData.strOk s
  | _ => true
def okL : List Dt → Bool
  | [] => true
  | x :: r => okD x && okL r
end
mutual
theorem lay_py : ∀ d : Dt, okD d = true → (py d).canLay0 = true
  | .non, _ => by simp [py, PyData.canLay0]
  | .bl b, _ => by simp [py, PyData.canLay0]
  | .int i, _ => by simp [py, PyData.canLay0]
  | .str s, h => by simpa [py, PyData.canLay0, okD] using h
  | .lst xs, h => by
    rw [py, PyData.canLay0]
    exact lay_pyL xs (by simpa [okD] using h)
  | .tup xs, h => by
    rw [py, PyData.canLay0]
    exact lay_pyL xs (by simpa [okD] using h)
  | .ins _ _, h => by simp [okD] at h
theorem lay_pyL : ∀ ds : List Dt, okL ds = true → PyData.canLayAll0 (pyL ds) = true
  | [], _ => by simp [pyL, PyData.canLayAll0]
  | d :: r, h => by
    rw [okL, Bool.and_eq_true] at h
    rw [pyL, PyData.canLayAll0, lay_py d h.1, lay_pyL r h.2]
    rfl
end
section
variable {K : PySem.W.Frag} {av : Addr → Prop} {H : Hp}
mutual
theorem dp_of : ∀ (d : Dt) (v : V), okD d = true → Rep K av H v d → Dp K H v (py d)
  | .non, v, _, r => by cases r; exact .non
  | .bl b, v, _, r => by cases r; exact .bl b
  | .int i, v, _, r => by cases r; exact .int i
  | .str s, v, _, r => by cases r; exact .str s
  | .lst ds, v, o, r => by
    obtain ⟨a, xs, rfl, h, l⟩ := r.lst_inv
    rw [py]
    exact .lst h.sq (dp_ofL ds xs (by simpa [okD] using o) l)
  | .tup ds, v, o, r => by
    obtain ⟨a, xs, rfl, h, l⟩ := r.tup_inv
    rw [py]
    exact .tup h.sq (dp_ofL ds xs (by simpa [okD] using o) l)
  | .ins _ _, v, o, _ => by simp [okD] at o
theorem dp_ofL : ∀ (ds : List Dt) (xs : List V), okL ds = true → RepL K av H xs ds → DpAll K H xs (pyL ds)
  | [], xs, _, r => by
    have := r.l
    cases xs with
    | nil => rw [pyL]; exact .nil
    | cons => simp at this
  | d :: ds, xs, o, r => by
    have := r.l
    cases xs with
    | nil => simp at this
    | cons x xs =>
      rw [okL, Bool.and_eq_true] at o
      rw [pyL]
      exact .cons (dp_of d x o.1 r.head.1) (dp_ofL ds xs o.2 r.head.2)
end
end
/-- no data below 64 deep -/
def shD (d : Dt) : Bool := okD d && decide ((py d).depth ≤ 64)
theorem sh_py {d : Dt} (h : shD d = true) : SeqAt.shaped (py d) = true ∧ okD d = true := by
  unfold shD at h
  rw [Bool.and_eq_true] at h
  refine ⟨?_, h.1⟩
  unfold SeqAt.shaped
  rw [lay_py d h.1, h.2]
  rfl
def eqD (x y : Dt) : Bool := PyData.eqv (py x) (py y)
@[irreducible] def dEq (neg : Bool) (x y : Dt) (Q : Dt → Prop) : Prop := shD x = true ∧ shD y = true ∧ Q (.bl (if neg then !eqD x y else eqD x y))
section
variable {K : PySem.W.Frag} {X : Cx}
theorem ro_eq : ROk K (rEqD K) (dEq false) := fun av H x y dx dy Q Qd al rx ry d q => by
  unfold dEq at d
  obtain ⟨h1, h2, d⟩ := d
  exact ⟨_, _, dp_of dx x (sh_py h1).2 rx, dp_of dy y (sh_py h2).2 ry, (sh_py h1).1, (sh_py h2).1, q _ _ H (Same.refl H) (.bl _) d⟩
theorem ro_ne : ROk K (rNeD K) (dEq true) := fun av H x y dx dy Q Qd al rx ry d q => by
  unfold dEq at d
  obtain ⟨h1, h2, d⟩ := d
  exact ⟨_, _, dp_of dx x (sh_py h1).2 rx, dp_of dy y (sh_py h2).2 ry, (sh_py h1).1, (sh_py h2).1, q _ _ H (Same.refl H) (.bl _) d⟩
theorem op_eqK (hK : X.K = K) (hu : X.A.units + 64 < cLine) : OpR X (compareOp .Eq) (rEqD K) := hK ▸ op_eqD hu
theorem op_neK (hK : X.K = K) (hu : X.A.units + 64 < cLine) : OpR X (compareOp .NotEq) (rNeD K) := hK ▸ op_neD hu
/-- is None -/
def dIsN (neg : Bool) (x y : Dt) (Q : Dt → Prop) : Prop := y = .non ∧ Q (.bl (match x with
  | .non => !neg
  | _ => neg))
theorem rep_non {av : Addr → Prop} {H : Hp} {x : V} {d : Dt} (r : Rep K av H x d) : decide (x = .non) = (match d with
  | .non => true
  | _ => false) := by
  cases r <;> simp
theorem ro_isN : ROk K (fun x y H Q => y = .non ∧ Q (.bl (decide (x = .non))) H) (dIsN false) := fun av H x y dx dy Q Qd al rx ry d q => by
  obtain ⟨rfl, d⟩ := d
  refine ⟨ry.non_inv, q _ _ H (Same.refl H) (.bl _) ?_⟩
  rw [rep_non rx]
  cases dx <;> exact d
theorem ro_notN : ROk K (fun x y H Q => y = .non ∧ Q (.bl (!decide (x = .non))) H) (dIsN true) := fun av H x y dx dy Q Qd al rx ry d q => by
  obtain ⟨rfl, d⟩ := d
  refine ⟨ry.non_inv, q _ _ H (Same.refl H) (.bl _) ?_⟩
  rw [rep_non rx]
  cases dx <;> exact d
/-! ### x in xs -/
theorem rep_flatV {av : Addr → Prop} {H : Hp} {x : V} {d : Dt} (r : Rep K av H x d) (h : d.flat = true) : flatV x = true := by
  cases r with
  | non => rfl
  | bl b => rfl
  | int i => rfl
  | str s => rfl
  | lst => cases h
  | tup => cases h
  | ins => cases h
end
end Dl
set_option maxHeartbeats 1000000
namespace Dl
open PySem PySem.Spec PyProof.Rows L2 Lcn Sq
section
variable {K : PySem.W.Frag} {X : Cx}
/-! ### x in xs -/
def flV : Dt → V
  | .bl b => .bl b
  | .int i => .int i
  | .str s => .str s
  | _ => .non
theorem rep_flV {av : Addr → Prop} {H : Hp} {x : V} {d : Dt} (r : Rep K av H x d) (h : d.flat = true) : x = flV d := by
  cases r with
  | non => rfl
  | bl b => rfl
  | int i => rfl
  | str s => rfl
  | lst => cases h
  | tup => cases h
  | ins => cases h
theorem eqV_flat {d e : Dt} (hd : d.flat = true) (he : e.flat = true) : eqV (flV d) (flV e) = eqD d e := by
  cases d <;> cases e <;> first | (simp [Dt.flat] at hd; done) | (simp [Dt.flat] at he; done) | (simp [flV, eqV, eqD, py, PyData.eqv])
theorem repl_flV {av : Addr → Prop} {H : Hp} : ∀ {xs : List V} {ds : List Dt}, RepL K av H xs ds → ds.all Dt.flat = true → xs = ds.map flV
  | [], [], _, _ => rfl
  | [], _ :: _, r, _ => by have := r.l; simp at this
  | _ :: _, [], r, _ => by have := r.l; simp at this
  | x :: xs, d :: ds, r, h => by
    rw [List.all_cons, Bool.and_eq_true] at h
    rw [List.map_cons, ← rep_flV r.head.1 h.1, ← repl_flV r.head.2 h.2]
def anyEq (d : Dt) (ds : List Dt) : Bool := ds.any fun z => eqD z d
theorem anyEq_flat {d : Dt} (hd : d.flat = true) : ∀ ds : List Dt, ds.all Dt.flat = true → inV (flV d) (ds.map flV) = anyEq d ds
  | [], _ => rfl
  | e :: ds, h => by
    rw [List.all_cons, Bool.and_eq_true] at h
    have ih := anyEq_flat hd ds h.2
    unfold inV anyEq at *
    rw [List.map_cons, List.any_cons, List.any_cons, ih, eqV_flat h.1 hd]
theorem all_flatV : ∀ ds : List Dt, ds.all Dt.flat = true → (ds.map flV).all flatV = true
  | [], _ => rfl
  | e :: ds, h => by
    rw [List.all_cons, Bool.and_eq_true] at h
    rw [List.map_cons, List.all_cons, all_flatV ds h.2, Bool.and_true]
    cases e <;> first | rfl | cases h.1
theorem anyEq_py (d : Dt) (ds : List Dt) : ((pyL ds).any fun z => PyData.eqv z (py d)) = anyEq d ds := by
  induction ds with
  | nil => rfl
  | cons e r ih =>
    unfold anyEq at *
    rw [pyL, List.any_cons, List.any_cons, ih]
    rfl
@[irreducible] def dIn (neg : Bool) (x y : Dt) (Q : Dt → Prop) : Prop := match y with
  | .lst ds => shD x = true ∧ shD (.lst ds) = true ∧ Q (.bl (if neg then !anyEq x ds else anyEq x ds))
  | .tup ds => x.flat = true ∧ ds.all Dt.flat = true ∧ Q (.bl (if neg then !anyEq x ds else anyEq x ds))
  | .str z => ∃ c, x = .str ⟨#[c]⟩ ∧ Q (.bl (if neg then !decide (c ∈ z.cps.toList) else decide (c ∈ z.cps.toList)))
  | _ => False
def rInAll (K : PySem.W.Frag) : R2 := fun x y H Q => (rInD K x y H Q ∨ rIn K false x y H Q) ∨ (fun x y H Q => ∃ (c : Nat) (z : Str), x = .str ⟨#[c]⟩ ∧ y = .str z ∧ Q (.bl (decide (c ∈ z.cps.toList))) H : R2) x y H Q
def rNotInAll (K : PySem.W.Frag) : R2 := fun x y H Q => (rNotInD K x y H Q ∨ rIn K true x y H Q) ∨ (fun x y H Q => ∃ (c : Nat) (z : Str), x = .str ⟨#[c]⟩ ∧ y = .str z ∧ Q (.bl (!decide (c ∈ z.cps.toList))) H : R2) x y H Q
theorem op_inAll (hK : X.K = K) (hu : X.A.units + 65 < cLine) : OpR X (compareOp .In) (rInAll K) := by
  subst hK
  exact ((op_inD hu).or op_in_seq).or op_in_sign
theorem op_notInAll (hK : X.K = K) (hu : X.A.units + 65 < cLine) : OpR X (compareOp .NotIn) (rNotInAll K) := by
  subst hK
  exact ((op_notInD hu).or op_notIn_seq).or op_notIn_sign
theorem ro_in : ROk K (rInAll K) (dIn false) := fun av H x y dx dy Q Qd al rx ry d q => by
  unfold dIn at d
  split at d
  · obtain ⟨h1, h2, d⟩ := d
    have e := dp_of _ y (sh_py h2).2 ry
    have s := (sh_py h2).1
    rw [py] at e s
    refine .inl (.inl ⟨_, _, dp_of dx x (sh_py h1).2 rx, e, (sh_py h1).1, s, q _ _ H (Same.refl H) (.bl _) ?_⟩)
    rw [anyEq_py]
    exact d
  · obtain ⟨h1, h2, d⟩ := d
    obtain ⟨a, xs, rfl, hx, lx⟩ := ry.tup_inv
    refine .inl (.inr ⟨a, xs, rfl, .inr hx.sq, rep_flatV rx h1, by rw [repl_flV lx h2]; exact all_flatV _ h2, ?_⟩)
    rw [rep_flV rx h1, repl_flV lx h2, anyEq_flat h1 _ h2]
    exact q _ _ H (Same.refl H) (.bl _) d
  · obtain ⟨c, rfl, d⟩ := d
    exact .inr ⟨c, _, rx.str_inv, ry.str_inv, q _ _ H (Same.refl H) (.bl _) d⟩
  · exact d.elim
theorem ro_notIn : ROk K (rNotInAll K) (dIn true) := fun av H x y dx dy Q Qd al rx ry d q => by
  unfold dIn at d
  split at d
  · obtain ⟨h1, h2, d⟩ := d
    have e := dp_of _ y (sh_py h2).2 ry
    have s := (sh_py h2).1
    rw [py] at e s
    refine .inl (.inl ⟨_, _, dp_of dx x (sh_py h1).2 rx, e, (sh_py h1).1, s, q _ _ H (Same.refl H) (.bl _) ?_⟩)
    rw [anyEq_py]
    exact d
  · obtain ⟨h1, h2, d⟩ := d
    obtain ⟨a, xs, rfl, hx, lx⟩ := ry.tup_inv
    refine .inl (.inr ⟨a, xs, rfl, .inr hx.sq, rep_flatV rx h1, by rw [repl_flV lx h2]; exact all_flatV _ h2, ?_⟩)
    rw [rep_flV rx h1, repl_flV lx h2, anyEq_flat h1 _ h2]
    exact q _ _ H (Same.refl H) (.bl _) d
  · obtain ⟨c, rfl, d⟩ := d
    exact .inr ⟨c, _, rx.str_inv, ry.str_inv, q _ _ H (Same.refl H) (.bl _) d⟩
  · exact d.elim
/-! ### xs[i] -/
def dIx (x y : Dt) (Q : Dt → Prop) : Prop := match x, y with
  | .lst ds, .int i => ∃ d, atI ds i = some d ∧ Q d
  | .tup ds, .int i => ∃ d, atI ds i = some d ∧ Q d
  | .str z, .int i => z.length ≤ sizeLine ∧ ∃ c, atI z.cps.toList i = some c ∧ Q (.str ⟨#[c]⟩)
  | _, _ => False
theorem repl_at {av : Addr → Prop} {H : Hp} {xs : List V} {ds : List Dt} (r : RepL K av H xs ds) {i : Int} {d : Dt} (h : atI ds i = some d) : ∃ x, atI xs i = some x ∧ Rep K av H x d := by
  unfold atI at h ⊢
  rw [r.l]
  cases e : ixN ds.length i with
  | none => rw [e] at h; cases h
  | some j =>
    rw [e] at h
    exact r.get h
theorem ro_ix : ROk K (rIx K) dIx := fun av H x y dx dy Q Qd al rx ry d q => by
  unfold dIx at d
  split at d
  · obtain ⟨e, h, d⟩ := d
    obtain ⟨a, xs, rfl, hx, lx⟩ := rx.lst_inv
    obtain ⟨v, hv, rv⟩ := repl_at lx h
    exact .inl ⟨a, xs, _, v, rfl, ry.int_inv, hx.sq, hv, q _ _ H (Same.refl H) rv d⟩
  · obtain ⟨e, h, d⟩ := d
    obtain ⟨a, xs, rfl, hx, lx⟩ := rx.tup_inv
    obtain ⟨v, hv, rv⟩ := repl_at lx h
    exact .inr (.inl ⟨a, xs, _, v, rfl, ry.int_inv, hx.sq, hv, q _ _ H (Same.refl H) rv d⟩)
  · obtain ⟨hz, c, h, d⟩ := d
    exact .inr (.inr ⟨_, _, c, rx.str_inv, ry.int_inv, hz, h, q _ _ H (Same.refl H) (.str _) d⟩)
  · exact d.elim
theorem ix_all (hK : X.K = K) : IxR X (rIx K) := hK ▸ ix_seq
/-! ### slices -/
def cutD (xs : List Dt) (lo hi : Option Int) : List Dt := (xs.drop (HT.sIx xs.length 0 lo)).take (HT.sIx xs.length xs.length hi - HT.sIx xs.length 0 lo)
theorem repl_cut {av : Addr → Prop} {H : Hp} {xs : List V} {ds : List Dt} (r : RepL K av H xs ds) (lo hi : Option Int) : RepL K av H (cutV xs lo hi) (cutD ds lo hi) := by
  unfold cutV cutD
  rw [r.l]
  exact (r.drop _).take _
def dSl (x : Dt) (lo hi : Option Int) (Q : Dt → Prop) : Prop := match x with
  | .lst ds => Q (.lst (cutD ds lo hi))
  | .tup ds => Q (.tup (cutD ds lo hi))
  | .str z => z.length ≤ sizeLine ∧ Q (.str (cutS z lo hi))
  | _ => False
def rSlAll (K : PySem.W.Frag) : V → Option Int → Option Int → Hp → VK → Prop := fun x lo hi H Q => (rSlL K x lo hi H Q ∨ rSlA K x lo hi H Q) ∨ rSlS x lo hi H Q
theorem sl_all (hK : X.K = K) : SlR X (rSlAll K) := by
  subst hK
  exact (sl_list.or sl_tupA).or sl_str
theorem rs_all {av : Addr → Prop} {H : Hp} {x : V} {dx : Dt} {lo hi : Option Int} {Q : VK} {Qd : Dt → Prop} (al : Al av H) (rx : Rep K av H x dx) (d : dSl dx lo hi Qd) (q : ∀ v d H', Same H H' → Rep K av H' v d → Qd d → Q v H') : rSlAll K x lo hi H Q := by
  unfold dSl at d
  split at d
  · obtain ⟨a, xs, rfl, hx, lx⟩ := rx.lst_inv
    exact .inl (.inl ⟨a, xs, rfl, hx.sq, fun p hp => q _ _ _ (same_new hp) (rep_newL al hp (repl_cut lx lo hi)) d⟩)
  · obtain ⟨a, xs, rfl, hx, lx⟩ := rx.tup_inv
    refine .inl (.inr ⟨a, xs, rfl, hx.sq, fun e => q _ _ H (Same.refl H) ?_ d, fun _ p hp => q _ _ _ (same_new hp) (rep_newT al hp (repl_cut lx lo hi)) d⟩)
    have e2 : cutV xs lo hi = xs := by
      unfold cutV
      rw [e.1, e.2]
      simp
    have r := repl_cut lx lo hi
    rw [e2] at r
    exact .tup hx r.l r.f
  · exact .inr ⟨_, rx.str_inv, d.1, q _ _ H (Same.refl H) (.str _) d.2⟩
  · exact d.elim
end
abbrev EvO := List Sl → (Option Int → Prop) → Prop
def VO (K : PySem.W.Frag) (te : TO) (ev : EvO) : Prop := ∀ (C : Ctx) (σ : L2.St) (δ : List Sl) (H : Hp) (Q : Option Int → Hp → Prop) (Qd : Option Int → Prop), C.K = K → Sok C H σ δ → ev δ Qd → (∀ o H', Stp C.S H H' → Qd o → Q o H') → te σ H Q
def DO {ι : Type} (K : PySem.W.Frag) (X : ι → Cx) (e : Option Expr) (ev : EvO) : Prop := ∃ te, (∀ i, PO (X i) e te) ∧ VO K te ev
section
variable {ι : Type} {K : PySem.W.Frag} {X : ι → Cx} {z : Bool} {pos p2 : Pos} {a b c e : Expr} {es : List Expr} {ea eb ec : EvE} {et : EvA} {lo hi : Option Expr} {el eh : EvO}
def dNoO : EvO := fun _ Q => Q none
def dSoO (ea : EvE) : EvO := fun δ Q => ea δ fun d => ∃ i, d = .int i ∧ Q (some i)
theorem do_none : DO K X none dNoO := ⟨_, fun _ => po_none, fun C σ δ H Q Qd k s e q => q none H (Stp.refl H) e⟩
theorem do_some (h : DE false K X a ea) : DO K X (some a) (dSoO ea) := by
  obtain ⟨t, p, v⟩ := h
  refine ⟨_, fun i => po_some (p i), fun C σ δ H Q Qd k s e q => ?_⟩
  refine v C σ δ H _ _ k s e fun x d H1 e1 r1 e => ?_
  obtain ⟨i, rfl, e⟩ := e
  exact ⟨i, r1.int_inv, q _ H1 e1 e⟩
def dSlE (ea : EvE) (el eh : EvO) : EvE := fun δ Q => ea δ fun x => el δ fun l => eh δ fun h => dSl x l h Q
theorem de_slice (ha : DE z K X a ea) (hl : DO K X lo el) (hh : DO K X hi eh) (hK : ∀ i, (X i).K = K := by intro _; rfl) : DE z K X (.Subscript a (.Slice lo hi none p2) pos) (dSlE ea el eh) := by
  obtain ⟨ta, pa, va⟩ := ha
  obtain ⟨tl, pl, vl⟩ := hl
  obtain ⟨th, ph, vh⟩ := hh
  refine ⟨_, fun i => pe_slice (sl_all (hK i)) (pa i) (pl i) (ph i), fun C σ δ H Q Qd k s e q => ?_⟩
  refine va C σ δ H _ _ k s e fun x dx H1 e1 r1 e => ?_
  refine vl C σ δ H1 _ _ k (s.step e1) e fun l H2 e2 e => ?_
  refine vh C σ δ H2 _ _ k ((s.step e1).step e2) e fun h H3 e3 e => ?_
  have s3 := ((s.step e1).step e2).step e3
  refine rs_all s3.al ?_ e fun v d H4 e4 r4 qd => q v d H4 (((e1.trans e2).trans e3).trans (Stp.of e4)) r4 qd
  subst k
  exact rep_st ((s.step e1).step e2) e3 (rep_st (s.step e1) e2 r1)
/-- an item of a list that may be an own one -/
def dIxO (i : Nat) (eb : EvE) : EvE := fun δ Q => match δ[i]? with
  | some (.own _ (.l ds)) => eb δ fun d => ∃ j x, d = .int j ∧ atI ds j = some x ∧ Q x
  | some (.val x) => eb δ fun y => dIx x y Q
  | _ => False
theorem de_ixO {i : Nat} {x : Str} {pos2 : Pos} (p : ∀ j, PE (X j) (.Name x pos2) (tVar i)) (hb : DE true K X b eb) (hs : PlainIx b) (hK : ∀ i, (X i).K = K := by intro _; rfl) : DE true K X (.Subscript (.Name x pos2) b pos) (dIxO i eb) := by
  obtain ⟨tb, pb, vb⟩ := hb
  refine ⟨_, fun j => pe_ix (ix_all (hK j)) (p j) (pb j) hs, fun C σ δ H Q Qd k s e q => ?_⟩
  subst k
  unfold dIxO at e
  split at e
  · rename_i a ds h
    obtain ⟨h1, _, h3, xs, h5, h6⟩ := s.lstAt h
    refine ⟨.ref a, h1, vb C σ δ H _ _ rfl s e fun y dy H1 e1 r1 e => ?_⟩
    obtain ⟨j, x, rfl, hx, e⟩ := e
    obtain ⟨_, _, _, ys, h7, h8⟩ := (s.step e1).lstAt h
    obtain ⟨v, hv, rv⟩ := repl_at h8 hx
    exact .inl ⟨a, ys, j, v, rfl, r1.int_inv, SqL.of h7, hv, q v x H1 e1 rv e⟩
  · rename_i d h
    obtain ⟨v, h1, h2⟩ := s.sl i _ h
    refine ⟨v, h1, vb C σ δ H _ _ rfl s e fun y dy H1 e1 r1 e => ?_⟩
    exact ro_ix (Zd C δ) H1 v y d dy Q Qd (s.step e1).alz (rep_step s e1 h2) r1 e fun v d H2 e2 r2 qd => q v d H2 (e1.trans (Stp.of e2)) r2 qd
  · exact e.elim
theorem de_ixA (ha : DE z K X a ea) (hb : DE z K X b eb) (hs : PlainIx b) (hK : ∀ i, (X i).K = K := by intro _; rfl) : DE z K X (.Subscript a b pos) (dOp dIx ea eb) := de_ix (fun i => ix_all (hK i)) ro_ix ha hb hs
theorem de_add (ha : DE z K X a ea) (hb : DE z K X b eb) (hK : ∀ i, (X i).K = K := by intro _; rfl) : DE z K X (.BinOp a .Add b pos) (dOp dAdd ea eb) := de_op (fun i => op_addAll (hK i)) ro_add ha hb
theorem de_mul (ha : DE z K X a ea) (hb : DE z K X b eb) : DE z K X (.BinOp a .Mult b pos) (dOp dMul ea eb) := de_op (fun i => op_mulAll) ro_mul ha hb
theorem de_sub (ha : DE z K X a ea) (hb : DE z K X b eb) : DE z K X (.BinOp a .Sub b pos) (dOp (dI0 fun i j => .int (i - j)) ea eb) := de_op (fun i => op_sub) (ro_dI0 fun _ _ _ _ => .int _) ha hb
theorem de_fdiv (ha : DE z K X a ea) (hb : DE z K X b eb) : DE z K X (.BinOp a .FloorDiv b pos) (dOp (dI CDivW fun i j => .int (i / j)) ea eb) := de_op (fun i => op_fdivW) (ro_dI fun _ _ _ _ => .int _) ha hb
theorem de_mod (ha : DE z K X a ea) (hb : DE z K X b eb) : DE z K X (.BinOp a .Mod b pos) (dOp (dI (fun _ j => 0 < j) fun i j => .int (i % j)) ea eb) := de_op (fun i => op_mod) (ro_dI fun _ _ _ _ => .int _) ha hb
theorem de_pow (ha : DE z K X a ea) (hb : DE z K X b eb) : DE z K X (.BinOp a .Pow b pos) (dOp (dI CPow fun i j => .int (i ^ j.toNat)) ea eb) := de_op (fun i => op_pow) (ro_dI fun _ _ _ _ => .int _) ha hb
/-! comparisons: the rules of an operator -/
structure CmpD {ι : Type} (K : PySem.W.Frag) (X : ι → Cx) (op : CmpOp) (dr : Dt → Dt → (Dt → Prop) → Prop) : Prop where
  ex : ∃ r, (∀ i, OpR (X i) (compareOp op) r) ∧ ROk K r dr
theorem cd_lt : CmpD K X .Lt (dI0 fun i j => .bl (decide (i < j))) := ⟨_, fun _ => op_lt, ro_dI0 fun _ _ _ _ => .bl _⟩
theorem cd_le : CmpD K X .LtE (dI0 fun i j => .bl (decide (i ≤ j))) := ⟨_, fun _ => op_le, ro_dI0 fun _ _ _ _ => .bl _⟩
theorem cd_gt : CmpD K X .Gt (dI0 fun i j => .bl (decide (j < i))) := ⟨_, fun _ => op_gt, ro_dI0 fun _ _ _ _ => .bl _⟩
theorem cd_ge : CmpD K X .GtE (dI0 fun i j => .bl (decide (j ≤ i))) := ⟨_, fun _ => op_ge, ro_dI0 fun _ _ _ _ => .bl _⟩
theorem cd_isN : CmpD K X .Is (dIsN false) := ⟨_, fun _ => op_isN, ro_isN⟩
theorem cd_notN : CmpD K X .IsNot (dIsN true) := ⟨_, fun _ => op_notN, ro_notN⟩
theorem cd_eq (hu : ∀ i, (X i).A.units + 64 < cLine) (hK : ∀ i, (X i).K = K := by intro _; rfl) : CmpD K X .Eq (dEq false) := ⟨_, fun i => op_eqK (hK i) (hu i), ro_eq⟩
theorem cd_ne (hu : ∀ i, (X i).A.units + 64 < cLine) (hK : ∀ i, (X i).K = K := by intro _; rfl) : CmpD K X .NotEq (dEq true) := ⟨_, fun i => op_neK (hK i) (hu i), ro_ne⟩
theorem cd_in (hu : ∀ i, (X i).A.units + 65 < cLine) (hK : ∀ i, (X i).K = K := by intro _; rfl) : CmpD K X .In (dIn false) := ⟨_, fun i => op_inAll (hK i) (hu i), ro_in⟩
theorem cd_notIn (hu : ∀ i, (X i).A.units + 65 < cLine) (hK : ∀ i, (X i).K = K := by intro _; rfl) : CmpD K X .NotIn (dIn true) := ⟨_, fun i => op_notInAll (hK i) (hu i), ro_notIn⟩
theorem de_cmpC {op : CmpOp} {dr : Dt → Dt → (Dt → Prop) → Prop} (c : CmpD K X op dr) (ha : DE z K X a ea) (hb : DE z K X b eb) (hm : behindInMarks op b = false) : DE z K X (.Compare a [op] [b] pos) (dOp dr ea eb) := by
  obtain ⟨r, h1, h2⟩ := c.ex
  exact de_cmp h1 h2 ha hb hm
theorem dt_cmpC {op : CmpOp} {dr : Dt → Dt → (Dt → Prop) → Prop} (c : CmpD K X op dr) (ha : DE false K X a ea) (hb : DE false K X b eb) (hm : behindInMarks op b = false) : DT K X (.Compare a [op] [b] pos) (dTst (dOp dr ea eb)) := by
  obtain ⟨r, h1, h2⟩ := c.ex
  exact dt_cmp h1 h2 ha hb hm
/-- a comparison of things, some of them own, as a value: a bool avoids all -/
theorem de_cmpF {op : CmpOp} {dr : Dt → Dt → (Dt → Prop) → Prop} (c : CmpD K X op dr) (ha : DE false K X a ea) (hb : DE false K X b eb) (hm : behindInMarks op b = false) : DE true K X (.Compare a [op] [b] pos) (fun δ Q => dOp dr ea eb δ fun d => d.flat = true ∧ Q d) := de_flat (de_cmpC c ha hb hm)
/-- a < b < c -/
def dChain (dr dr' : Dt → Dt → (Dt → Prop) → Prop) (ea eb ec : EvE) : EvE := fun δ Q => ea δ fun x => eb δ fun y => dr x y fun w => ∃ k, w = .bl k ∧ if k = true then ec δ fun u => dr' y u Q else Q (.bl false)
theorem ve_chain {r r' : R2} {dr dr' : Dt → Dt → (Dt → Prop) → Prop} {ta tb tc : TE} (h2 : ROk K r dr) (h2' : ROk K r' dr') (va : VE z K ta ea) (vb : VE z K tb eb) (vc : VE z K tc ec) : VE z K (tChain r r' ta tb tc) (dChain dr dr' ea eb ec) := by
  intro C σ δ H Q Qd k s e q
  subst k
  refine va C σ δ H _ _ rfl s e fun x dx H1 e1 r1 e => ?_
  refine vb C σ δ H1 _ _ rfl (s.step e1) e fun y dy H2 e2 r2 e => ?_
  have s2 := (s.step e1).step e2
  refine h2 (Zz z C δ) H2 x y dx dy _ _ s2.al (rep_st (s.step e1) e2 r1) r2 e fun w dw H3 e3 r3 e => ?_
  obtain ⟨k, rfl, e⟩ := e
  have e3' : Stp C.S H2 H3 := Stp.of e3
  have s3 := s2.step e3'
  refine ⟨k, r3.bl_inv, ?_⟩
  cases k
  · exact q _ _ H3 ((e1.trans e2).trans e3') (.bl false) e
  · refine vc C σ δ H3 _ _ rfl s3 e fun u du H4 e4 r4 e => ?_
    have s4 := s3.step e4
    exact h2' (Zz z C δ) H4 y u dy du Q Qd s4.al (rep_st s3 e4 (rep_st s2 e3' r2)) r4 e fun v d H5 e5 r5 qd => q v d H5 ((((e1.trans e2).trans e3').trans e4).trans (Stp.of e5)) r5 qd
theorem de_chainC {op op' : CmpOp} {dr dr' : Dt → Dt → (Dt → Prop) → Prop} (h : CmpD K X op dr) (h' : CmpD K X op' dr') (ha : DE z K X a ea) (hb : DE z K X b eb) (hc : DE z K X c ec) (hm : lastMarks [op, op'] [b, c] = false := by with_unfolding_all rfl) : DE z K X (.Compare a [op, op'] [b, c] pos) (dChain dr dr' ea eb ec) := by
  obtain ⟨r, h1, h2⟩ := h.ex
  obtain ⟨r', h1', h2'⟩ := h'.ex
  obtain ⟨ta, pa, va⟩ := ha
  obtain ⟨tb, pb, vb⟩ := hb
  obtain ⟨tc, pc, vc⟩ := hc
  exact ⟨_, fun i => pe_chain (h1 i) (h1' i) (pa i) (pb i) (pc i) hm, ve_chain h2 h2' va vb vc⟩
theorem dt_chainC {op op' : CmpOp} {dr dr' : Dt → Dt → (Dt → Prop) → Prop} (h : CmpD K X op dr) (h' : CmpD K X op' dr') (ha : DE false K X a ea) (hb : DE false K X b eb) (hc : DE false K X c ec) (hm : lastMarks [op, op'] [b, c] = false := by with_unfolding_all rfl) : DT K X (.Compare a [op, op'] [b, c] pos) (dTst (dChain dr dr' ea eb ec)) := by
  obtain ⟨r, h1, h2⟩ := h.ex
  obtain ⟨r', h1', h2'⟩ := h'.ex
  obtain ⟨ta, pa, va⟩ := ha
  obtain ⟨tb, pb, vb⟩ := hb
  obtain ⟨tc, pc, vc⟩ := hc
  exact ⟨_, fun i => pt_chain (h1 i) (h1' i) (pa i) (pb i) (pc i) hm, vt_tst (ve_chain h2 h2' va vb vc)⟩
end
end Dl
set_option maxHeartbeats 1000000
namespace Dl
open PySem PySem.Spec PyProof.Rows L2 Lcn Sq
section
variable {K : PySem.W.Frag} {X : Cx}
/-! ### built-ins by values -/
def dLen (ds : List Dt) (Q : Dt → Prop) : Prop := match ds with
  | [.lst xs] => Q (.int xs.length)
  | [.tup xs] => Q (.int xs.length)
  | [.str z] => z.length ≤ sizeLine ∧ Q (.int z.length)
  | _ => False
def rLenAll (K : PySem.W.Frag) : List V → Hp → VK → Prop := fun xs H Q => (fun xs H Q => ∃ p ys, xs = [V.ref p] ∧ (SqL K H p ys ∨ SqT K H p ys) ∧ Q (.int ys.length) H : List V → Hp → VK → Prop) xs H Q ∨ (fun xs H Q => ∃ z, xs = [V.str z] ∧ z.length ≤ sizeLine ∧ Q (.int z.length) H : List V → Hp → VK → Prop) xs H Q
theorem cr_len (hK : X.K = K) : CallR X (.builtin "len") (rLenAll K) := by
  subst hK
  exact call_len_seq.or call_len_str
theorem repl1 {av : Addr → Prop} {H : Hp} {xs : List V} {d : Dt} (r : RepL K av H xs [d]) : ∃ x, xs = [x] ∧ Rep K av H x d := by
  have := r.l
  match xs, this, r with
  | [x], _, r => exact ⟨x, rfl, r.head.1⟩
theorem rc_len : RcOk K (rLenAll K) dLen := fun av H xs ds Q Qd al r d q => by
  unfold dLen at d
  split at d
  · obtain ⟨x, rfl, rr⟩ := repl1 r
    obtain ⟨a, xs, rfl, hx, lx⟩ := rr.lst_inv
    exact .inl ⟨a, xs, rfl, .inl hx.sq, by rw [lx.l]; exact q _ _ H (Same.refl H) (.int _) d⟩
  · obtain ⟨x, rfl, rr⟩ := repl1 r
    obtain ⟨a, xs, rfl, hx, lx⟩ := rr.tup_inv
    exact .inl ⟨a, xs, rfl, .inr hx.sq, by rw [lx.l]; exact q _ _ H (Same.refl H) (.int _) d⟩
  · obtain ⟨x, rfl, rr⟩ := repl1 r
    exact .inr ⟨_, by rw [rr.str_inv], d.1, q _ _ H (Same.refl H) (.int _) d.2⟩
  · exact d.elim
def dList (ds : List Dt) (Q : Dt → Prop) : Prop := match ds with
  | [.lst xs] => Q (.lst xs)
  | [.tup xs] => Q (.lst xs)
  | _ => False
theorem cr_list (hK : X.K = K) : CallR X (.type "list") (fun xs H Q => ∃ p ys, xs = [.ref p] ∧ (SqL K H p ys ∨ SqT K H p ys) ∧ ∀ l, H l = none → Q (.ref l) (upd H l (.lst ys))) := hK ▸ call_list_of
theorem rc_list : RcOk K (fun xs H Q => ∃ p ys, xs = [.ref p] ∧ (SqL K H p ys ∨ SqT K H p ys) ∧ ∀ l, H l = none → Q (.ref l) (upd H l (.lst ys))) dList := fun av H xs ds Q Qd al r d q => by
  unfold dList at d
  split at d
  · obtain ⟨x, rfl, rr⟩ := repl1 r
    obtain ⟨a, xs, rfl, hx, lx⟩ := rr.lst_inv
    exact ⟨a, xs, rfl, .inl hx.sq, fun l hl => q _ _ _ (same_new hl) (rep_newL al hl lx) d⟩
  · obtain ⟨x, rfl, rr⟩ := repl1 r
    obtain ⟨a, xs, rfl, hx, lx⟩ := rr.tup_inv
    exact ⟨a, xs, rfl, .inr hx.sq, fun l hl => q _ _ _ (same_new hl) (rep_newL al hl lx) d⟩
  · exact d.elim
def dTuple (ds : List Dt) (Q : Dt → Prop) : Prop := match ds with
  | [.lst xs] => Q (.tup xs)
  | [.tup xs] => Q (.tup xs)
  | _ => False
theorem cr_tuple (hK : X.K = K) : CallR X (.type "tuple") (fun xs H Q => ∃ p ys, xs = [.ref p] ∧ ((SqL K H p ys ∧ ∀ l, H l = none → Q (.ref l) (upd H l (.tup ys))) ∨ (SqT K H p ys ∧ Q (.ref p) H))) := hK ▸ call_tuple_of
theorem rc_tuple : RcOk K (fun xs H Q => ∃ p ys, xs = [.ref p] ∧ ((SqL K H p ys ∧ ∀ l, H l = none → Q (.ref l) (upd H l (.tup ys))) ∨ (SqT K H p ys ∧ Q (.ref p) H))) dTuple := fun av H xs ds Q Qd al r d q => by
  unfold dTuple at d
  split at d
  · obtain ⟨x, rfl, rr⟩ := repl1 r
    obtain ⟨a, xs, rfl, hx, lx⟩ := rr.lst_inv
    exact ⟨a, xs, rfl, .inl ⟨hx.sq, fun l hl => q _ _ _ (same_new hl) (rep_newT al hl lx) d⟩⟩
  · obtain ⟨x, rfl, rr⟩ := repl1 r
    have r' := rr
    obtain ⟨a, xs, rfl, hx, lx⟩ := rr.tup_inv
    exact ⟨a, xs, rfl, .inr ⟨hx.sq, q _ _ H (Same.refl H) r' d⟩⟩
  · exact d.elim
def dInt (ds : List Dt) (Q : Dt → Prop) : Prop := match ds with
  | [.int i] => Q (.int i)
  | [.bl b] => Q (.int (if b then 1 else 0))
  | _ => False
theorem rc_int : RcOk K (fun xs H Q => (∃ i, xs = [.int i] ∧ Q (.int i) H) ∨ ∃ k, xs = [.bl k] ∧ Q (.int (if k then 1 else 0)) H) dInt := fun av H xs ds Q Qd al r d q => by
  unfold dInt at d
  split at d
  · obtain ⟨x, rfl, rr⟩ := repl1 r
    exact .inl ⟨_, by rw [rr.int_inv], q _ _ H (Same.refl H) (.int _) d⟩
  · obtain ⟨x, rfl, rr⟩ := repl1 r
    exact .inr ⟨_, by rw [rr.bl_inv], q _ _ H (Same.refl H) (.int _) d⟩
  · exact d.elim
theorem repl_ints {av : Addr → Prop} {H : Hp} : ∀ {xs : List V} {ns : List Int}, RepL K av H xs (ns.map .int) → xs = ns.map V.int
  | [], [], _ => rfl
  | [], _ :: _, r => by have := r.l; simp at this
  | _ :: _, [], r => by have := r.l; simp at this
  | x :: xs, n :: ns, r => by
    rw [List.map_cons] at r
    rw [List.map_cons, r.head.1.int_inv, repl_ints r.head.2]
theorem repl_of_ints {av : Addr → Prop} {H : Hp} : ∀ ns : List Int, RepL K av H (ns.map V.int) (ns.map .int)
  | [] => .nil
  | n :: ns => .cons (.int n) (repl_of_ints ns)
theorem repl_bls {av : Addr → Prop} {H : Hp} : ∀ {xs : List V} {ns : List Bool}, RepL K av H xs (ns.map .bl) → xs = ns.map V.bl
  | [], [], _ => rfl
  | [], _ :: _, r => by have := r.l; simp at this
  | _ :: _, [], r => by have := r.l; simp at this
  | x :: xs, n :: ns, r => by
    rw [List.map_cons] at r
    rw [List.map_cons, r.head.1.bl_inv, repl_bls r.head.2]
def dSum (ds : List Dt) (Q : Dt → Prop) : Prop := ∃ ns : List Int, ds = [.lst (ns.map .int)] ∧ Q (.int ns.sum)
theorem cr_sumK (hc : X.calm = true) (hK : X.K = K) : CallR X (.builtin "sum") (rSum K) := hK ▸ cr_sum hc
theorem rc_sum : RcOk K (rSum K) dSum := fun av H xs ds Q Qd al r d q => by
  obtain ⟨ns, rfl, d⟩ := d
  obtain ⟨x, rfl, rr⟩ := repl1 r
  obtain ⟨a, xs, rfl, hx, lx⟩ := rr.lst_inv
  rw [repl_ints lx] at hx
  exact ⟨a, ns, rfl, hx.sq, q _ _ H (Same.refl H) (.int _) d⟩
def dAny (ds : List Dt) (Q : Dt → Prop) : Prop := ∃ ns : List Bool, ds = [.lst (ns.map .bl)] ∧ Q (.bl (ns.any id))
def dAll (ds : List Dt) (Q : Dt → Prop) : Prop := ∃ ns : List Bool, ds = [.lst (ns.map .bl)] ∧ Q (.bl (ns.all id))
theorem cr_anyK (hc : X.calm = true) (hK : X.K = K) : CallR X (.builtin "any") (rAny K) := hK ▸ cr_any hc
theorem cr_allK2 (hc : X.calm = true) (hK : X.K = K) : CallR X (.builtin "all") (rAll K) := hK ▸ cr_all hc
theorem rc_any : RcOk K (rAny K) dAny := fun av H xs ds Q Qd al r d q => by
  obtain ⟨ns, rfl, d⟩ := d
  obtain ⟨x, rfl, rr⟩ := repl1 r
  obtain ⟨a, xs, rfl, hx, lx⟩ := rr.lst_inv
  rw [repl_bls lx] at hx
  exact ⟨a, ns, rfl, hx.sq, q _ _ H (Same.refl H) (.bl _) d⟩
theorem rc_all : RcOk K (rAll K) dAll := fun av H xs ds Q Qd al r d q => by
  obtain ⟨ns, rfl, d⟩ := d
  obtain ⟨x, rfl, rr⟩ := repl1 r
  obtain ⟨a, xs, rfl, hx, lx⟩ := rr.lst_inv
  rw [repl_bls lx] at hx
  exact ⟨a, ns, rfl, hx.sq, q _ _ H (Same.refl H) (.bl _) d⟩
def dMax (ds : List Dt) (Q : Dt → Prop) : Prop := ∃ ns : List Int, ds = [.lst (ns.map .int)] ∧ 0 < ns.length ∧ ∀ m, m ∈ ns → (∀ y, y ∈ ns → y ≤ m) → Q (.int m)
def dMin (ds : List Dt) (Q : Dt → Prop) : Prop := ∃ ns : List Int, ds = [.lst (ns.map .int)] ∧ 0 < ns.length ∧ ∀ m, m ∈ ns → (∀ y, y ∈ ns → m ≤ y) → Q (.int m)
theorem cr_maxK (hc : X.calm = true) (hK : X.K = K) : CallR X (.builtin "max") (rMax K) := hK ▸ cr_max hc
theorem cr_minK (hc : X.calm = true) (hK : X.K = K) : CallR X (.builtin "min") (rMin K) := hK ▸ cr_min hc
theorem rc_max : RcOk K (rMax K) dMax := fun av H xs ds Q Qd al r d q => by
  obtain ⟨ns, rfl, h, d⟩ := d
  obtain ⟨x, rfl, rr⟩ := repl1 r
  obtain ⟨a, xs, rfl, hx, lx⟩ := rr.lst_inv
  rw [repl_ints lx] at hx
  exact ⟨a, ns, rfl, hx.sq, h, fun m h1 h2 => q _ _ H (Same.refl H) (.int _) (d m h1 h2)⟩
theorem rc_min : RcOk K (rMin K) dMin := fun av H xs ds Q Qd al r d q => by
  obtain ⟨ns, rfl, h, d⟩ := d
  obtain ⟨x, rfl, rr⟩ := repl1 r
  obtain ⟨a, xs, rfl, hx, lx⟩ := rr.lst_inv
  rw [repl_ints lx] at hx
  exact ⟨a, ns, rfl, hx.sq, h, fun m h1 h2 => q _ _ H (Same.refl H) (.int _) (d m h1 h2)⟩
def dMax2 (ds : List Dt) (Q : Dt → Prop) : Prop := match ds with
  | [.int i, .int j] => Q (.int (if j > i then j else i))
  | _ => False
def dMin2 (ds : List Dt) (Q : Dt → Prop) : Prop := match ds with
  | [.int i, .int j] => Q (.int (if j < i then j else i))
  | _ => False
theorem repl2 {av : Addr → Prop} {H : Hp} {xs : List V} {d e : Dt} (r : RepL K av H xs [d, e]) : ∃ x y, xs = [x, y] ∧ Rep K av H x d ∧ Rep K av H y e := by
  have := r.l
  match xs, this, r with
  | [x, y], _, r => exact ⟨x, y, rfl, r.head.1, r.head.2.head.1⟩
theorem rc_max2 : RcOk K (fun xs H Q => ∃ i j, xs = [.int i, .int j] ∧ Q (.int (if j > i then j else i)) H) dMax2 := fun av H xs ds Q Qd al r d q => by
  unfold dMax2 at d
  split at d
  · obtain ⟨x, y, rfl, r1, r2⟩ := repl2 r
    exact ⟨_, _, by rw [r1.int_inv, r2.int_inv], q _ _ H (Same.refl H) (.int _) d⟩
  · exact d.elim
theorem rc_min2 : RcOk K (fun xs H Q => ∃ i j, xs = [.int i, .int j] ∧ Q (.int (if j < i then j else i)) H) dMin2 := fun av H xs ds Q Qd al r d q => by
  unfold dMin2 at d
  split at d
  · obtain ⟨x, y, rfl, r1, r2⟩ := repl2 r
    exact ⟨_, _, by rw [r1.int_inv, r2.int_inv], q _ _ H (Same.refl H) (.int _) d⟩
  · exact d.elim
/-- sorted, of ints -/
def dSortI (ds : List Dt) (Q : Dt → Prop) : Prop := ∃ ns : List Int, ds = [.lst (ns.map .int)] ∧ ∀ ms : List Int, ms.Perm ns → ms.Pairwise (· ≤ ·) → Q (.lst (ms.map .int))
theorem cr_sortI (hK : X.K = K) : CallR X (.builtin "sorted") (rSortedI K) := hK ▸ cr_sortedI
theorem rc_sortI : RcOk K (rSortedI K) dSortI := fun av H xs ds Q Qd al r d q => by
  obtain ⟨ns, rfl, d⟩ := d
  obtain ⟨x, rfl, rr⟩ := repl1 r
  obtain ⟨a, xs, rfl, hx, lx⟩ := rr.lst_inv
  rw [repl_ints lx] at hx
  exact ⟨a, ns, rfl, hx.sq, fun ms p h1 h2 hp => q _ _ _ (same_new hp) (rep_newL al hp (repl_of_ints ms)) (d ms h1 h2)⟩
/-! ### isinstance -/
def tyD : Dt → Option String
  | .non => some "NoneType"
  | .bl _ => some "bool"
  | .int _ => some "int"
  | .str _ => some "str"
  | .lst _ => some "list"
  | .tup _ => some "tuple"
  | .ins _ _ => none
theorem ty_rep {av : Addr → Prop} {H : Hp} {x : V} {d : Dt} {t : String} (r : Rep K av H x d) (h : tyD d = some t) : TyX K H x (.type t) := by
  cases r with
  | non => cases h; exact .base .non
  | bl b => cases h; exact .base (.bl b)
  | int i => cases h; exact .base (.int i)
  | str s => cases h; exact .base (.str s)
  | lst hx l f => cases h; exact .base (.lst hx.2)
  | tup hx l f =>
    cases h
    exact .base (.tup hx.2)
  | ins => cases h
end
section
variable {ι : Type} {K : PySem.W.Frag} {X : ι → Cx} {z : Bool} {pos p2 : Pos} {a b c e : Expr} {es : List Expr} {ea eb ec : EvE} {et : EvA}
/-- d's kind is one of Ts, by t -/
def isiB (ts : List String) (d : Dt) : Option Bool := (tyD d).bind fun t => ts.foldr (fun T r => (kitB t T).bind fun b => if b = true then some true else r) (some false)
def dIsi (ts : List String) (ea : EvE) : EvE := fun δ Q => ea δ fun d => ∃ b, isiB ts d = some b ∧ Q (.bl b)
theorem de_isi1 {T : Str} {Ts : String} {p q2 : Pos} (ha : DE false K X a ea) (hT : ∀ i, PE (X i) (.Name T q2) (tC (.ty Ts))) (hg : ∀ i, Gl (X i) "isinstance") (hm : ∀ i, (X i).mg "isinstance" = none)
    (hs : ∀ i, starEach [a, .Name T q2] (X i).env = (false, eval a (X i).env) :: starEach [.Name T q2] (X i).env := by intro _; rfl) (hs2 : ∀ i, starEach [.Name T q2] (X i).env = [(false, eval (.Name T q2) (X i).env)] := by intro _; rfl)
    (hpl : ∀ i, (backTo pos (starEach [.Name T q2] (X i).env)).any (·.1) = false := by intro _; rfl) (hK : ∀ i, (X i).K = K := by intro _; rfl) : DE z K X (.Call (.Name "isinstance" p) [a, .Name T q2] [] pos) (dIsi [Ts] ea) := by
  obtain ⟨ta, pa, va⟩ := ha
  refine ⟨_, fun i => pe_callB (call_isiK (hK i)) (hg i) (hm i) (by decide +kernel) (pa_cons (pa i) (pa_cons (hT i) pa_nil (hs2 i)) (hs i)) (he := hs i) (hpl := hpl i), fun C σ δ H Q Qd k s e q => ?_⟩
  subst k
  refine va C σ δ H _ _ rfl s e fun x d H1 e1 r1 e => ?_
  obtain ⟨b, hb, e⟩ := e
  unfold isiB at hb
  cases ht : tyD d with
  | none => rw [ht] at hb; cases hb
  | some t =>
    rw [ht] at hb
    have hb : ((kitB t Ts).bind fun b => if b = true then some true else some false) = some b := hb
    cases hk : kitB t Ts with
    | none => rw [hk] at hb; cases hb
    | some b' =>
      rw [hk] at hb
      have : b' = b := by cases b' <;> simpa using hb
      subst this
      exact ⟨x, .ty Ts, .type t, .type Ts, b', rfl, .ty Ts, ty_rep r1 ht, kit_ty hk, q _ _ H1 e1 (.bl _) e⟩
/-! ### targets -/
/-- what own lists stay: all but those at is; none is new -/
structure Ow (is : List Nat) (δ δ' : List Sl) : Prop where
  keep : ∀ (j : Nat) (a : Addr) (ds : Oc), j ∉ is → δ[j]? = some (.own a ds) → δ'[j]? = some (.own a ds)
  old : ∀ (j : Nat) (a : Addr) (ds : Oc), δ'[j]? = some (.own a ds) → δ[j]? = some (.own a ds)
theorem Ow.refl (δ : List Sl) : Ow [] δ δ := ⟨fun _ _ _ _ h => h, fun _ _ _ h => h⟩
theorem Ow.trans {is js : List Nat} {δ δ1 δ2 : List Sl} (a : Ow is δ δ1) (b : Ow js δ1 δ2) : Ow (is ++ js) δ δ2 := ⟨fun j x ds n h => b.keep j x ds (fun z => n (List.mem_append_right _ z)) (a.keep j x ds (fun z => n (List.mem_append_left _ z)) h), fun j x ds h => a.old j x ds (b.old j x ds h)⟩
theorem Ow.set {i : Nat} {δ : List Sl} {u : Sl} (hu : ∀ b, ¬ u.at b) : Ow [i] δ (δ.set i u) := ⟨fun j a ds n h => by
  rw [List.getElem?_set_ne (fun z => n (by simp [z]))]
  exact h, fun j a ds h => by
  by_cases hj : i = j
  · subst hj
    rw [List.getElem?_set] at h
    simp at h
    exact absurd rfl (h.2 ▸ hu a)
  · rwa [List.getElem?_set_ne hj] at h⟩
/-- no own list at is -/
def noOwn (is : List Nat) (δ : List Sl) : Bool := is.all fun i => match δ[i]? with
  | some (.own _ _) => false
  | _ => true
theorem Ow.ge {C : Ctx} {is : List Nat} {δ δ' : List Sl} (o : Ow is δ δ') (n : noOwn is δ = true) {b : Addr} (h : Zd C δ b) : Zd C δ' b := by
  rcases h with h | ⟨s, m, e⟩
  · exact .inl h
  · cases s with
    | own a ds =>
      obtain ⟨j, hj⟩ := List.mem_iff_getElem?.mp m
      have nj : j ∉ is := fun z => by
        have := List.all_eq_true.mp n j z
        rw [hj] at this
        cases this
      exact .inr ⟨_, List.mem_iff_getElem?.mpr ⟨j, o.keep j a ds nj hj⟩, e⟩
    | _ => exact e.elim
def VG (K : PySem.W.Frag) (g : TG) (gv : Dt → List Sl → (List Sl → Prop) → Prop) (is : List Nat) : Prop := ∀ (C : Ctx) (σ : L2.St) (δ : List Sl) (H : Hp) (v : V) (d : Dt) (Q : L2.St → Hp → Prop) (Qd : List Sl → Prop), C.K = K → Sok C H σ δ → Rep K (Zd C δ) H v d → gv d δ Qd →
  (∀ σ' δ', Sok C H σ' δ' → (∀ vs, (∀ i, i ∈ is → i ∈ vs) → wipe σ' vs = wipe σ vs) → (∀ b, Zd C δ' b → Zd C δ b) → Ow is δ δ' → Qd δ' → Q σ' H) → g v σ H Q
def DG {ι : Type} (K : PySem.W.Frag) (X : ι → Cx) (tg : Expr) (gv : Dt → List Sl → (List Sl → Prop) → Prop) (is : List Nat) : Prop := ∃ g, (∀ i, PG (X i) tg g) ∧ VG K g gv is
def VGs (K : PySem.W.Frag) (g : TGs) (gv : List Dt → List Sl → (List Sl → Prop) → Prop) (is : List Nat) : Prop := ∀ (C : Ctx) (σ : L2.St) (δ : List Sl) (H : Hp) (vs : List V) (ds : List Dt) (Q : L2.St → Hp → Prop) (Qd : List Sl → Prop), C.K = K → Sok C H σ δ → RepL K (Zd C δ) H vs ds → gv ds δ Qd →
  (∀ σ' δ', Sok C H σ' δ' → (∀ vs, (∀ i, i ∈ is → i ∈ vs) → wipe σ' vs = wipe σ vs) → (∀ b, Zd C δ' b → Zd C δ b) → Ow is δ δ' → Qd δ' → Q σ' H) → g vs σ H Q
def DGs {ι : Type} (K : PySem.W.Frag) (X : ι → Cx) (tg : List Expr) (gv : List Dt → List Sl → (List Sl → Prop) → Prop) (is : List Nat) : Prop := ∃ g, (∀ i, PGs (X i) tg g) ∧ VGs K g gv is
theorem wipe_set {σ : L2.St} {i : Nat} {x : Option V} : ∀ {vs : List Nat}, i ∈ vs → wipe (σ.set i x) vs = wipe σ vs
  | v :: vs, h => by
    unfold wipe
    by_cases hv : i ∈ vs
    · rw [wipe_set hv]
    · rcases List.mem_cons.mp h with rfl | h
      · have key : ∀ (ws : List Nat), (wipe (σ.set i x) ws).set i none = (wipe σ ws).set i none := by
          intro ws
          induction ws with
          | nil => unfold wipe; rw [List.set_set]
          | cons w ws ih =>
            unfold wipe
            by_cases hw : i = w
            · subst hw
              rw [ih]
            · rw [List.set_comm _ _ (Ne.symm hw), ih, List.set_comm _ _ hw]
        exact key vs
      · exact absurd h hv
def gvName (i : Nat) : Dt → List Sl → (List Sl → Prop) → Prop := fun d δ Q => Q (δ.set i (.val d))
theorem dg_name {i : Nat} {x : Str} (p : ∀ j, PG (X j) (.Name x pos) (gName i)) : DG K X (.Name x pos) (gvName i) [i] := by
  refine ⟨_, p, fun C σ δ H v d Q Qd k s r e q => ?_⟩
  subst k
  exact q _ _ (s.setV r) (fun vs h => wipe_set (h i (by simp))) (fun b z => (zd_set z).resolve_right fun z => z) (Ow.set fun _ z => z) e
def gvNil : List Dt → List Sl → (List Sl → Prop) → Prop := fun ds δ Q => ds = [] ∧ Q δ
def gvCons (g : Dt → List Sl → (List Sl → Prop) → Prop) (gs : List Dt → List Sl → (List Sl → Prop) → Prop) : List Dt → List Sl → (List Sl → Prop) → Prop := fun ds δ Q => match ds with
  | d :: r => g d δ fun δ' => gs r δ' Q
  | [] => False
theorem dgs_nil : DGs K X [] gvNil [] := by
  refine ⟨_, fun _ => pgs_nil, fun C σ δ H vs ds Q Qd k s r e q => ?_⟩
  obtain ⟨rfl, e⟩ := e
  refine ⟨?_, q σ δ s (fun _ _ => rfl) (fun _ z => z) (Ow.refl δ) e⟩
  have := r.l
  cases vs with
  | nil => rfl
  | cons => simp at this
theorem dgs_cons {g : Dt → List Sl → (List Sl → Prop) → Prop} {gs : List Dt → List Sl → (List Sl → Prop) → Prop} {is js : List Nat} (h1 : DG K X e g is) (h2 : DGs K X es gs js) (hp : ∀ {g : TG} {gs : TGs} i, PG (X i) e g → PGs (X i) es gs → PGs (X i) (e :: es) (gCons g gs) := by intro _ _ _ h1 h2; exact pgs_cons h1 h2) : DGs K X (e :: es) (gvCons g gs) (is ++ js) := by
  obtain ⟨t, p, v⟩ := h1
  obtain ⟨t2, p2, v2⟩ := h2
  refine ⟨_, fun i => hp i (p i) (p2 i), fun C σ δ H vs ds Q Qd k s r e q => ?_⟩
  subst k
  unfold gvCons at e
  match ds, e with
  | d :: ds, e =>
    match vs, r with
    | [], r => have := r.l; simp at this
    | x :: xs, r =>
      refine ⟨x, xs, rfl, v C σ δ H x d _ _ rfl s r.head.1 e fun σ1 δ1 s1 w1 z1 o1 e => ?_⟩
      refine v2 C σ1 δ1 H xs ds _ _ rfl s1 (r.head.2.mono z1) e fun σ2 δ2 s2 w2 z2 o2 e => ?_
      exact q σ2 δ2 s2 (fun vs h => (w2 vs fun i m => h i (List.mem_append_right _ m)).trans (w1 vs fun i m => h i (List.mem_append_left _ m))) (fun b z => z1 b (z2 b z)) (o1.trans o2) e
def gvTup (gs : List Dt → List Sl → (List Sl → Prop) → Prop) (n : Nat) : Dt → List Sl → (List Sl → Prop) → Prop := fun d δ Q => match d with
  | .tup ds => ds.length = n ∧ gs ds δ Q
  | .lst ds => ds.length = n ∧ gs ds δ Q
  | _ => False
theorem dg_tup {gs : List Dt → List Sl → (List Sl → Prop) → Prop} {is : List Nat} {k : Nat} {n : Nat} (h : DGs K X es gs is) (hc : ∀ i, (X i).calm = true := by intro _; rfl) (hn : ∀ i, (assignEach es (X i).env).length = n := by intro _; rfl) (hst : ∀ i, (assignEach es (X i).env).findIdx? (·.1) = none := by intro _; rfl) (hK : ∀ i, (X i).K = K := by intro _; rfl) : DG K X (.Tuple es k pos) (gvTup gs n) is := by
  obtain ⟨t, p, v⟩ := h
  refine ⟨_, fun i => pg_seqK (hK i) (hc i) (p i) (hn i) (hst i), fun C σ δ H x d Q Qd k s r e q => ?_⟩
  subst k
  unfold gvTup at e
  split at e
  · obtain ⟨a, xs, rfl, hx, lx⟩ := r.tup_inv
    exact ⟨a, xs, rfl, .inr hx.sq, by rw [lx.l]; exact e.1, v C σ δ H xs _ _ _ rfl s lx e.2 q⟩
  · obtain ⟨a, xs, rfl, hx, lx⟩ := r.lst_inv
    exact ⟨a, xs, rfl, .inl hx.sq, by rw [lx.l]; exact e.1, v C σ δ H xs _ _ _ rfl s lx e.2 q⟩
  · exact e.elim
end
end Dl
set_option maxHeartbeats 1000000
namespace Dl
open PySem PySem.Spec PyProof.Rows L2 Lcn Sq
/-! ### what is walked -/
structure ItOk (K : PySem.W.Frag) (base : Hp → Prop) (gs : List (V × Dt)) (G : Hp → Prop) (Y : Nat → Hp → V → Hp → Prop) (ds : List Dt) : Prop where
  g : ∀ (av : Addr → Prop) (H : Hp), Al av H → base H → (∀ g, g ∈ gs → Rep K av H g.1 g.2) → G H
  y : ∀ (i : Nat) (d : Dt) (av : Addr → Prop) (H : Hp) (x : V) (H' : Hp), ds[i]? = some d → Al av H → base H → (∀ g, g ∈ gs → Rep K av H g.1 g.2) → Y i H x H' → Same H H' ∧ Rep K av H' x d
def VI (o : Bool) (K : PySem.W.Frag) (wi : TI) (iv : EvA) : Prop := ∀ (C : Ctx) (σ : L2.St) (δ : List Sl) (H : Hp) (R : It → Hp → Prop) (Qd : List Dt → Prop), C.K = K → Sok C H σ δ → iv δ Qd →
  (∀ (J : It) (n : Nat) (G : Hp → Prop) (Y : Nat → Hp → V → Hp → Prop) (ds : List Dt) (H1 : Hp) (base : Hp → Prop) (gs : List (V × Dt)), Walk J n G Y → ds.length = n → Stp C.S H H1 → (o = false → ∀ H, base H) → (∀ H', (∀ b u, ¬ ch C.S b → H1 b = some u → H' b = some u) → base H') → (∀ g, g ∈ gs → Rep K (Zd C δ) H1 g.1 g.2) → ItOk K base gs G Y ds → Qd ds → R J H1) → wi σ H R
def DI {ι : Type} (o : Bool) (K : PySem.W.Frag) (X : ι → Cx) (tg iter : Expr) (iv : EvA) : Prop := ∃ wi, (∀ i, PI (X i) tg iter wi) ∧ VI o K wi iv
section
variable {K : PySem.W.Frag} {a : Addr}
theorem walkL {n : Nat} : Walk (Itl K a) n (fun H => ∃ xs, xs.length = n ∧ SqL K H a xs) (fun i H x H' => H' = H ∧ ∀ xs, SqL K H a xs → xs[i]? = some x) :=
  ⟨fun i _ hi ⟨xs, l, q⟩ => ⟨xs, xs[i], q, by simp [l, hi]⟩, fun _ ⟨xs, l, q⟩ => ⟨xs, q, Nat.le_of_eq l⟩, fun _ _ _ _ _ _ y => ⟨y.1, y.2⟩⟩
theorem walkT {n : Nat} : Walk (Itt K a) n (fun H => ∃ xs, xs.length = n ∧ SqT K H a xs) (fun i H x H' => H' = H ∧ ∀ xs, SqT K H a xs → xs[i]? = some x) :=
  ⟨fun i _ hi ⟨xs, l, q⟩ => ⟨xs, xs[i], q, by simp [l, hi]⟩, fun _ ⟨xs, l, q⟩ => ⟨xs, q, Nat.le_of_eq l⟩, fun _ _ _ _ _ _ y => ⟨y.1, y.2⟩⟩
end
def ivSeq (ea : EvE) : EvA := fun δ Q => ea δ fun d => match d with
  | .lst ds => Q ds
  | .tup ds => Q ds
  | _ => False
section
variable {ι : Type} {K : PySem.W.Frag} {X : ι → Cx} {z o : Bool} {pos p2 : Pos} {a b c e tg iter : Expr} {es : List Expr} {ea eb ec : EvE} {et : EvA}
theorem di_seq (ha : DE true K X a ea) (hK : ∀ i, (X i).K = K := by intro _; rfl) : DI o K X tg a (ivSeq ea) := by
  obtain ⟨t, p, v⟩ := ha
  refine ⟨_, fun i => pi_seqK (hK i) (p i), fun C σ δ H R Qd k s e q => ?_⟩
  subst k
  unfold iSeq
  refine v C σ δ H _ _ rfl s e fun x d H1 e1 r e => ?_
  split at e
  · rename_i ds
    have r' := r
    obtain ⟨p, xs, rfl, hx, lx⟩ := r.lst_inv
    refine ⟨p, xs, rfl, .inl ⟨hx.sq, q _ _ _ _ ds H1 (fun _ => True) [(.ref p, .lst ds)] walkL rfl e1 (fun _ _ => trivial) (fun _ _ => trivial) (fun g m => ?_) ⟨fun av H al _ h => ?_, fun i d av H x H' hd al _ h y => ?_⟩ e⟩⟩
    · rw [List.mem_singleton] at m
      rw [m]
      exact r'
    · obtain ⟨p', ys, e', hy, ly⟩ := (h _ (List.mem_singleton.mpr rfl)).lst_inv
      cases e'
      exact ⟨ys, ly.l, hy.sq⟩
    · obtain ⟨p', ys, e', hy, ly⟩ := (h _ (List.mem_singleton.mpr rfl)).lst_inv
      cases e'
      obtain ⟨rfl, y⟩ := y
      exact ⟨Same.refl _, ly.f i x d (y ys hy.sq) hd⟩
  · rename_i ds
    have r' := r
    obtain ⟨p, xs, rfl, hx, lx⟩ := r.tup_inv
    refine ⟨p, xs, rfl, .inr ⟨hx.sq, q _ _ _ _ ds H1 (fun _ => True) [(.ref p, .tup ds)] walkT rfl e1 (fun _ _ => trivial) (fun _ _ => trivial) (fun g m => ?_) ⟨fun av H al _ h => ?_, fun i d av H x H' hd al _ h y => ?_⟩ e⟩⟩
    · rw [List.mem_singleton] at m
      rw [m]
      exact r'
    · obtain ⟨p', ys, e', hy, ly⟩ := (h _ (List.mem_singleton.mpr rfl)).tup_inv
      cases e'
      exact ⟨ys, ly.l, hy.sq⟩
    · obtain ⟨p', ys, e', hy, ly⟩ := (h _ (List.mem_singleton.mpr rfl)).tup_inv
      cases e'
      obtain ⟨rfl, y⟩ := y
      exact ⟨Same.refl _, ly.f i x d (y ys hy.sq) hd⟩
  · exact e.elim
/-- an own list, or a thing, walked by a comprehension -/
def ivOwn (i : Nat) : EvA := fun δ Q => match δ[i]? with
  | some (.own _ (.l ds)) => Q ds
  | some (.val (.lst ds)) => Q ds
  | some (.val (.tup ds)) => Q ds
  | _ => False
theorem repl_ghost {C : Ctx} {H : Hp} {xs : List V} {ds : List Dt} {Z : Addr → Prop} (r : RepL K Z H xs ds) : ∀ g, g ∈ xs.zip ds → Rep K Z H g.1 g.2 := fun g m => by
  obtain ⟨i, hi⟩ := List.mem_iff_getElem?.mp m
  rw [List.getElem?_zip_eq_some] at hi
  exact r.f i _ _ hi.1 hi.2
theorem di_own {i : Nat} {x : Str} (p : ∀ j, PE (X j) (.Name x pos) (tVar i)) (hK : ∀ i, (X i).K = K := by intro _; rfl) : DI true K X tg (.Name x pos) (ivOwn i) := by
  obtain ⟨w1, p1, v1⟩ := di_seq (o := true) (tg := tg) (de_var (z := true) p) hK
  refine ⟨_, fun i => pi_seqK (hK i) (p i), fun C σ δ H R Qd k s e q => ?_⟩
  subst k
  have ev := e
  unfold ivOwn at e
  unfold iSeq
  split at e
  · rename_i a ds h
    obtain ⟨h1, _, h3, xs, h5, h6⟩ := s.lstAt h
    refine ⟨.ref a, h1, a, xs, rfl, .inl ⟨SqL.of h5, q _ _ _ _ ds H (fun H => H a = some (.lst xs)) (xs.zip ds) (walkL (n := ds.length)) rfl (Stp.refl H) (fun z => nomatch z) (fun H' k => k a _ (fun c => h3 (s.avs a (ch_sa c))) h5) (repl_ghost (C := C) h6) ⟨fun av H al hb h => ⟨xs, h6.l, SqL.of hb⟩, fun j d av H x H' hd al hb h y => ?_⟩ e⟩⟩
    obtain ⟨rfl, y⟩ := y
    have hx := y xs (SqL.of hb)
    refine ⟨Same.refl _, h (x, d) (List.mem_iff_getElem?.mpr ⟨j, ?_⟩)⟩
    rw [List.getElem?_zip_eq_some]
    exact ⟨hx, hd⟩
  · rename_i ds h
    obtain ⟨v, h1, h2⟩ := s.sl i _ h
    obtain ⟨p, xs, rfl, hx, lx⟩ := h2.lst_inv
    refine ⟨.ref p, h1, p, xs, rfl, .inl ⟨hx.sq, q _ _ _ _ ds H (fun _ => True) [(.ref p, .lst ds)] walkL rfl (Stp.refl H) (fun _ _ => trivial) (fun _ _ => trivial) (fun g m => ?_) ⟨fun av H al _ h => ?_, fun i d av H x H' hd al _ h y => ?_⟩ e⟩⟩
    · rw [List.mem_singleton] at m
      rw [m]
      exact h2
    · obtain ⟨p', ys, e', hy, ly⟩ := (h _ (List.mem_singleton.mpr rfl)).lst_inv
      cases e'
      exact ⟨ys, ly.l, hy.sq⟩
    · obtain ⟨p', ys, e', hy, ly⟩ := (h _ (List.mem_singleton.mpr rfl)).lst_inv
      cases e'
      obtain ⟨rfl, y⟩ := y
      exact ⟨Same.refl _, ly.f i x d (y ys hy.sq) hd⟩
  · rename_i ds h
    obtain ⟨v, h1, h2⟩ := s.sl i _ h
    obtain ⟨p, xs, rfl, hx, lx⟩ := h2.tup_inv
    refine ⟨.ref p, h1, p, xs, rfl, .inr ⟨hx.sq, q _ _ _ _ ds H (fun _ => True) [(.ref p, .tup ds)] walkT rfl (Stp.refl H) (fun _ _ => trivial) (fun _ _ => trivial) (fun g m => ?_) ⟨fun av H al _ h => ?_, fun i d av H x H' hd al _ h y => ?_⟩ e⟩⟩
    · rw [List.mem_singleton] at m
      rw [m]
      exact h2
    · obtain ⟨p', ys, e', hy, ly⟩ := (h _ (List.mem_singleton.mpr rfl)).tup_inv
      cases e'
      exact ⟨ys, ly.l, hy.sq⟩
    · obtain ⟨p', ys, e', hy, ly⟩ := (h _ (List.mem_singleton.mpr rfl)).tup_inv
      cases e'
      obtain ⟨rfl, y⟩ := y
      exact ⟨Same.refl _, ly.f i x d (y ys hy.sq) hd⟩
  · exact e.elim
/-- lo, lo + 1, .. n of them -/
def rngD (lo : Int) (n : Nat) : List Dt := (List.range n).map fun (i : Nat) => Dt.int (lo + (i : Int))
theorem it_rng {lo : Int} {n : Nat} : ItOk K (fun _ => True) [] (fun _ => True) (YFn fun i => .int (lo + i)) (rngD lo n) := by
  refine ⟨fun _ _ _ _ _ => trivial, fun i d av H x H' hd _ _ _ y => ?_⟩
  have e2 : H' = H ∧ x = .int (lo + (i : Int)) := y
  obtain ⟨rfl, rfl⟩ := e2
  unfold rngD at hd
  rw [List.getElem?_map] at hd
  obtain ⟨j, h1, h2⟩ := Option.map_eq_some_iff.mp hd
  have : j = i := by
    have := (List.getElem?_eq_some_iff.mp h1).2
    simpa using this.symm
  subst this
  subst h2
  exact ⟨Same.refl _, .int _⟩
def ivR1 (et : EvA) : EvA := fun δ Q => et δ fun ds => match ds with
  | [.int j] => -(2 ^ 62) ≤ j ∧ j < 2 ^ 62 ∧ Q (rngD 0 j.toNat)
  | _ => False
def ivR2 (et : EvA) : EvA := fun δ Q => et δ fun ds => match ds with
  | [.int i, .int j] => (-(2 ^ 62) ≤ i ∧ i < 2 ^ 62 ∧ -(2 ^ 62) ≤ j ∧ j < 2 ^ 62) ∧ Q (rngD i (j - i).toNat)
  | _ => False
theorem di_range1 {p : Pos} (hg : ∀ i, Gl (X i) "range") (hm : ∀ i, (X i).mg "range" = none) (ha : DA false K X [a] et) (hs : ∀ i, starEach [a] (X i).env = [(false, eval a (X i).env)] := by intro _; rfl) : DI o K X tg (.Call (.Name "range" p) [a] [] pos) (ivR1 et) := by
  obtain ⟨t, pa, v⟩ := ha
  refine ⟨_, fun i => pi_range1 (hg i) (hm i) (pa i) (hs i), fun C σ δ H R Qd k s e q => ?_⟩
  refine v C σ δ H _ _ k s e fun vs ds H1 e1 r e => ?_
  split at e
  · rename_i j
    obtain ⟨x, rfl, rr⟩ := repl1 r
    refine ⟨j, by rw [rr.int_inv], e.1, e.2.1, q _ _ _ _ _ H1 (fun _ => True) [] walk_range (by simp [rngD]) e1 (fun _ _ => trivial) (fun _ _ => trivial) (fun g m => nomatch m) it_rng e.2.2⟩
  · exact e.elim
theorem di_range2 {p : Pos} (hg : ∀ i, Gl (X i) "range") (hm : ∀ i, (X i).mg "range" = none) (ha : DA false K X [a, b] et) (hs : ∀ i, starEach [a, b] (X i).env = [(false, eval a (X i).env), (false, eval b (X i).env)] := by intro _; rfl) (hs2 : ∀ i, starEach [b] (X i).env = [(false, eval b (X i).env)] := by intro _; rfl) : DI o K X tg (.Call (.Name "range" p) [a, b] [] pos) (ivR2 et) := by
  obtain ⟨t, pa, v⟩ := ha
  refine ⟨_, fun i => pi_range2 (hg i) (hm i) (pa i) (hs i) (hs2 i), fun C σ δ H R Qd k s e q => ?_⟩
  refine v C σ δ H _ _ k s e fun vs ds H1 e1 r e => ?_
  split at e
  · rename_i i j
    obtain ⟨x, y, rfl, r1, r2⟩ := repl2 r
    refine ⟨i, j, by rw [r1.int_inv, r2.int_inv], e.1, q _ _ _ _ _ H1 (fun _ => True) [] walk_range (by simp [rngD]) e1 (fun _ _ => trivial) (fun _ _ => trivial) (fun g m => nomatch m) it_rng e.2⟩
  · exact e.elim
/-- a text, sign by sign -/
def chD (z : Str) : List Dt := z.cps.toList.map fun c => .str ⟨#[c]⟩
def ivStr (ea : EvE) : EvA := fun δ Q => ea δ fun d => match d with
  | .str z => Q (chD z)
  | _ => False
theorem di_str (ha : DE false K X a ea) : DI o K X tg a (ivStr ea) := by
  obtain ⟨t, p, v⟩ := ha
  refine ⟨_, fun i => pi_str (p i), fun C σ δ H R Qd k s e q => ?_⟩
  refine v C σ δ H _ _ k s e fun x d H1 e1 r e => ?_
  split at e
  · rename_i z
    refine ⟨z, r.str_inv, q _ _ _ _ (chD z) H1 (fun _ => True) [] walk_str (by simp [chD]) e1 (fun _ _ => trivial) (fun _ _ => trivial) (fun g m => nomatch m) ⟨fun _ _ _ _ _ => trivial, fun i d av H x H' hd _ _ _ y => ?_⟩ e⟩
    have e2 : H' = H ∧ ∃ c, z.cps[i]? = some c ∧ x = .str ⟨#[c]⟩ := y
    obtain ⟨rfl, c, hc, rfl⟩ := e2
    unfold chD at hd
    rw [List.getElem?_map] at hd
    obtain ⟨j, h1, h2⟩ := Option.map_eq_some_iff.mp hd
    have : j = c := by
      rw [Array.getElem?_toList, hc] at h1
      exact (Option.some.inj h1).symm
    subst this
    subst h2
    exact ⟨Same.refl _, .str _⟩
  · exact e.elim
/-! ### pairs: zip of two lists or two tuples, enumerate of a list -/
theorem pair_get {xs ys : List Dt} {i : Nat} {d : Dt} (h : ((xs.zip ys).map fun p => Dt.tup [p.1, p.2])[i]? = some d) : ∃ x y, xs[i]? = some x ∧ ys[i]? = some y ∧ d = .tup [x, y] := by
  rw [List.getElem?_map] at h
  obtain ⟨p, h1, h2⟩ := Option.map_eq_some_iff.mp h
  rw [List.getElem?_zip_eq_some] at h1
  exact ⟨p.1, p.2, h1.1, h1.2, h2.symm⟩
def zipD (xs ys : List Dt) : List Dt := (xs.zip ys).map fun p => .tup [p.1, p.2]
end
end Dl
set_option maxHeartbeats 1000000
namespace Dl
open PySem PySem.Spec PyProof.Rows L2 Lcn Sq
/-! ### new lists -/
abbrev EvN := EvA
def VN (K : PySem.W.Frag) (te : TE) (nv : EvN) : Prop := ∀ (C : Ctx) (σ : L2.St) (δ : List Sl) (H : Hp) (Q : VK) (Qd : List Dt → Prop), C.K = K → Sok C H σ δ → nv δ Qd →
  (∀ (p : Addr) (xs : List V) (ds : List Dt) (H' : Hp), H p = none → Stp C.S H H' → H' p = some (.lst xs) → RepL K (fun b => Zd C δ b ∨ b = p) H' xs ds → Qd ds → Q (.ref p) H') → te σ H Q
def DN {ι : Type} (K : PySem.W.Frag) (X : ι → Cx) (e : Expr) (nv : EvN) : Prop := ∃ te, (∀ i, PE (X i) e te) ∧ VN K te nv
def wipeS (δ : List Sl) : List Nat → List Sl
  | [] => δ
  | v :: vs => (wipeS δ vs).set v .any
section
variable {C : Ctx} {H H' : Hp} {σ : L2.St} {δ : List Sl}
theorem Sok.unset (s : Sok C H σ δ) (i : Nat) : Sok C H (σ.set i none) (δ.set i .any) := by
  have t := s.drop i
  refine ⟨by simp [s.len], fun j u h => ?_, t.uq, t.g, t.st, t.avs, t.ava, t.gh⟩
  by_cases hj : i = j
  · subst hj
    rw [List.getElem?_set] at h
    simp at h
    rw [← h.2]
    trivial
  · rw [List.getElem?_set_ne hj]
    exact t.sl j u h
theorem Sok.wipe (s : Sok C H σ δ) : ∀ vs : List Nat, Sok C H (L2.wipe σ vs) (wipeS δ vs)
  | [] => s
  | v :: vs => (s.wipe vs).unset v
theorem wipe_idem (σ : L2.St) (vs : List Nat) : ∀ ws : List Nat, (∀ w, w ∈ ws → w ∈ vs) → L2.wipe (L2.wipe σ ws) vs = L2.wipe σ vs
  | [], _ => rfl
  | w :: ws, h => by
    show L2.wipe ((L2.wipe σ ws).set w none) vs = _
    rw [wipe_set (h w (by simp)), wipe_idem σ vs ws fun x m => h x (List.mem_cons_of_mem _ m)]
theorem ow_wipe (δ : List Sl) : ∀ vs : List Nat, Ow vs δ (wipeS δ vs)
  | [] => Ow.refl δ
  | v :: vs => ⟨fun j a ds n h => (Ow.set (i := v) (u := .any) fun _ z => z).keep j a ds (fun z => n (by simp at z; simp [z])) ((ow_wipe δ vs).keep j a ds (fun z => n (List.mem_cons_of_mem _ z)) h), fun j a ds h => (ow_wipe δ vs).old j a ds ((Ow.set (i := v) (u := .any) fun _ z => z).old j a ds h)⟩
theorem zd_ow {is : List Nat} {δ δ' : List Sl} (o : Ow is δ δ') {b : Addr} (h : Zd C δ' b) : Zd C δ b := by
  rcases h with h | ⟨s, m, e⟩
  · exact .inl h
  · cases s with
    | own a ds =>
      obtain ⟨j, hj⟩ := List.mem_iff_getElem?.mp m
      exact .inr ⟨_, List.mem_iff_getElem?.mpr ⟨j, o.old j a ds hj⟩, e⟩
    | _ => exact e.elim
theorem Sok.h0 (s : Sok C H σ δ) {D : Addr} (n : H D = none) : C.H0 D = none := by
  cases q : C.H0 D with
  | none => rfl
  | some o =>
    by_cases c : ch C.S D
    · exact absurd (s.avs D (ch_sa c)) (s.ava.na n)
    · rw [s.st.keep D o c q] at n
      cases n
end
/-- the items one by one -/
def dLc (gv : Dt → List Sl → (List Sl → Prop) → Prop) (tv : EvT) (ev : EvE) (vs : List Nat) : List Dt → List Dt → List Sl → (List Dt → Prop) → Prop
  | [], acc, _, Q => Q acc
  | d :: r, acc, δ, Q => gv d (wipeS δ vs) fun δ2 => tv δ2 fun b => if b = true then ev δ2 fun y => dLc gv tv ev vs r (acc ++ [y]) δ Q else dLc gv tv ev vs r acc δ Q
def dLcN (iv : EvA) (gv : Dt → List Sl → (List Sl → Prop) → Prop) (tv : EvT) (ev : EvE) (vs : List Nat) : EvN := fun δ Q => iv δ fun ds => noOwn vs δ = true ∧ ds.length < sizeLine ∧ dLc gv tv ev vs ds [] δ Q
def DTs {ι : Type} (K : PySem.W.Frag) (X : ι → Cx) (es : List Expr) (ev : EvT) : Prop := ∃ te, (∀ i, PTs (X i) es te) ∧ VT K te ev
section
variable {ι : Type} {K : PySem.W.Frag} {X : ι → Cx} {z o : Bool} {pos p2 : Pos} {a b c e tg iter : Expr} {es : List Expr} {ea eb ec : EvE} {et : EvA} {iv : EvA} {gv : Dt → List Sl → (List Sl → Prop) → Prop} {tv : EvT} {ev : EvE}
def dYes : EvT := fun _ Q => Q true
theorem dts_nil : DTs K X [] dYes := ⟨_, fun _ => pts_nil, fun C σ δ H Q Qd k s e q => q true H (Stp.refl H) e⟩
theorem dts_one (h : DT K X c tv) : DTs K X [c] tv := by
  obtain ⟨t, p, v⟩ := h
  exact ⟨t, fun i => pts_one (p i), v⟩
theorem vn_lc {wi : TI} {g : TG} {tt : TT} {te : TE} {is vs : List Nat} (hi : VI o K wi iv) (hg : VG K g gv is) (hv : ∀ i, i ∈ is → i ∈ vs) (ht : VT K tt tv) (he : VE true K te ev) : VN K (tLc wi g tt te vs) (dLcN iv gv tv ev vs) := by
  intro C σ δ H Q Qd k s e q
  subst k
  refine hi C σ δ H _ _ rfl s e fun J n G Y ds H1 base gs w hn e1 hb0 hb hgs it e => ?_
  obtain ⟨no, hz, e⟩ := e
  intro D hD
  have s1 := s.step e1
  have nch : ¬ ch C.S D := fun c => (s1.ava.na hD) (s1.avs D (ch_sa c))
  have hD0 : H D = none := by
    cases x : H D with
    | none => rfl
    | some u =>
      rw [e1.keep D u nch x] at hD
      cases hD
  have sP : Sok (C.plus D) (upd H1 D (.lst [])) σ δ := s1.plus hD
  refine lc_it w (fun i Hc => (∀ b u, ¬ ch C.S b → H1 b = some u → Hc b = some u) ∧ Gs C.S Hc ∧ ∃ acc accd, Hc D = some (.lst acc) ∧ RepL C.K (fun b => Zd C δ b ∨ b = D) Hc acc accd ∧ acc.length ≤ i ∧ dLc gv tv ev vs (ds.drop i) accd δ Qd) ?_ ?_ ?_ ?_
  · exact ⟨fun b u _ h => same_new hD b u h, s1.g.dep fun b u _ h => same_new hD b u h, [], [], upd_same, .nil, Nat.le_refl _, by rw [List.drop_zero]; exact e⟩
  · rintro i Hc _ ⟨kp, gs', acc, accd, hDl, ra, hl, e⟩
    have al : Al (Zd C δ) Hc := fun b zb => by
      by_cases c : ch C.S b
      · exact gs'.dom (ch_sa c)
      · obtain ⟨u, hu⟩ := s1.alz b zb
        exact ⟨u, kp b u c hu⟩
    exact it.g (Zd C δ) Hc al (hb Hc kp) fun g m => (hgs g m).move (fun b u n h => kp b u (fun c => n (zch s1 c)) h) fun _ z => .inl z
  · rintro i x Hc H' hi2 ⟨kp, gs', acc, accd, hDl, ra, hl, e⟩ y
    have hid : i < ds.length := by omega
    have hdr : ds.drop i = ds[i] :: ds.drop (i + 1) := List.drop_eq_getElem_cons hid
    rw [hdr] at e
    have sC : Sok (C.plus D) Hc σ δ := sP.plusStep (fun b u c n h => kp b u c (by rw [upd_ne n] at h; exact h)) gs' (s.h0 hD0) ⟨_, hDl⟩
    have al : Al (fun b => Zd C δ b ∨ b = D) Hc := fun b zb => sC.alz b (zd_plus.mpr zb)
    obtain ⟨sm, rx⟩ := it.y i ds[i] (fun b => Zd C δ b ∨ b = D) Hc x H' (List.getElem?_eq_getElem hid) al (hb Hc kp) (fun g m => (hgs g m).move (fun b u n h => kp b u (fun c => n (zch s1 c)) h) fun b zb => zb.imp id fun (zb : b = D) => by rw [zb]; exact hD) y
    have sB : Sok (C.plus D) H' (L2.wipe σ vs) (wipeS δ vs) := (sC.step (Stp.of sm)).wipe vs
    have oz : ∀ b, Zd (C.plus D) (wipeS δ vs) b → Zd C δ b ∨ b = D := fun b zb => zd_plus.mp (zd_ow (ow_wipe δ vs) zb)
    refine hg (C.plus D) _ _ H' x ds[i] _ _ rfl sB (rx.mono oz) e fun σ2 δ2 s2 w2 z2 o2 e => ⟨?_, ?_⟩
    · rw [w2 vs hv, wipe_idem σ vs vs fun _ m => m]
    · refine ht (C.plus D) σ2 δ2 H' _ _ rfl s2 e fun b H3 e3 e => ?_
      cases b
      · rw [if_neg Bool.false_ne_true] at e ⊢
        have k3 : ∀ b u, ¬ ch C.S b → Hc b = some u → H3 b = some u := fun b u c h => e3.keep b u c (sm b u h)
        exact ⟨fun b u c h => k3 b u c (kp b u c h), (s2.step e3).g, acc, accd, k3 D _ nch hDl, ra.move (fun b u n h => k3 b u (fun c => n (.inl (zch s1 c))) h) fun _ z => .inl z, Nat.le_succ_of_le hl, e⟩
      · rw [if_pos rfl] at e ⊢
        refine he (C.plus D) σ2 δ2 H3 _ _ rfl (s2.step e3) e fun yv yd H4 e4 ry e => ?_
        have k4 : ∀ b u, ¬ ch C.S b → Hc b = some u → H4 b = some u := fun b u c h => e4.keep b u c (e3.keep b u c (sm b u h))
        have d4 := k4 D _ nch hDl
        have ge : ∀ b, Zd C δ b ∨ b = D → Zd (C.plus D) δ2 b := fun b zb => by
          have z1 : Zd (C.plus D) (wipeS δ vs) b := (ow_wipe δ vs).ge no (zd_plus.mpr zb)
          refine o2.ge ?_ z1
          refine List.all_eq_true.mpr fun j mj => ?_
          cases hq : (wipeS δ vs)[j]? with
          | none => rfl
          | some u =>
            cases u with
            | own a es =>
              have h1 := (ow_wipe δ vs).old j a es hq
              have h2 := List.all_eq_true.mp no j (hv j mj)
              rw [h1] at h2
              cases h2
            | _ => rfl
        refine ⟨acc, d4, by omega, fun b u c h => ?_, ?_, acc ++ [yv], accd ++ [yd], upd_same, ?_, by rw [List.length_append]; exact Nat.succ_le_succ hl, e⟩
        · rw [upd_ne (fun (zz : b = D) => by rw [zz, hD] at h; cases h)]
          exact k4 b u c (kp b u c h)
        · have g4 := ((s2.step e3).step e4).g
          refine g4.dep fun b u c h => ?_
          rw [upd_ne (fun (zz : b = D) => (s1.ava.na hD) (s1.avs D (by rw [← zz]; exact c)))]
          exact h
        · have r1 : RepL C.K (fun b => Zd C δ b ∨ b = D) H4 (acc ++ [yv]) (accd ++ [yd]) := (ra.move (fun b u n h => k4 b u (fun c => n (.inl (zch s1 c))) h) fun _ z => .inl z).append (.cons (ry.mono ge) .nil)
          exact r1.move (fun b u n h => by rw [upd_ne (fun (zz : b = D) => n (.inr zz))]; exact h) fun _ z => .inl z
  · rintro Hc ⟨kp, gs', acc, accd, hDl, ra, hl, e⟩
    rw [List.drop_eq_nil_of_le (by omega)] at e
    exact q D acc accd Hc hD0 ⟨fun b u c h => kp b u c (e1.keep b u c h), fun _ => gs'⟩ hDl ra e
/-- the family of a comprehension's blocks -/
abbrev Bk (ι : Type) := ι × Shared × Hp × Addr × List (Str × Addr) × List Addr
def bk {ι : Type} (X : ι → Cx) (scope : Scope) : Bk ι → Cx := fun j => (X j.1).blk j.2.1 j.2.2.1 scope (compEnvC scope j.2.2.2.2.1 j.2.2.2.1 (X j.1).env) j.2.2.2.2.2
theorem dn_lc {elt : Expr} {ifs : List Expr} {scope : Scope} {own : List (Str × Nat)} {is : List Nat} (hc : ∀ i, (X i).calm = true) (hN : ∀ i, (X i).N.Nodup) (hi : DI o K X tg iter iv) (ok : ∀ i, BlkOk (X i).N (X i).env.scope scope own)
    (hg : DG K (bk X scope) tg gv is) (ht : DTs K (bk X scope) ifs tv) (he : DE true K (bk X scope) elt ev) (hv : ∀ i, i ∈ is → i ∈ own.map (·.2)) (hs : ∀ i, ∀ x, foldedSetIterable iter (X i).env x = pure x := by intro _ _; rfl) :
    DN K X (.ListComp elt [⟨tg, iter, ifs, 0⟩] scope pos) (dLcN iv gv tv ev (own.map (·.2))) := by
  obtain ⟨wi, pi, vi⟩ := hi
  obtain ⟨g, pg, vg⟩ := hg
  obtain ⟨tt, pt, vt⟩ := ht
  obtain ⟨te, pe, ve⟩ := he
  exact ⟨_, fun i => pe_lc (hc i) (hN i) (pi i) (ok i) (fun s H C cl fp => pg (i, s, H, C, cl, fp)) (fun s H C cl fp => pt (i, s, H, C, cl, fp)) (fun s H C cl fp => pe (i, s, H, C, cl, fp)) (hs i), vn_lc vi vg hv vt ve⟩
theorem ve_n {te : TE} {nv : EvN} (v : VN K te nv) : VE z K te (fun δ Q => nv δ fun ds => Q (.lst ds)) := fun C σ δ H Q Qd k s e q => by
  subst k
  refine v C σ δ H _ _ rfl s e fun p xs ds H' n e1 hp r e => q _ _ H' e1 ?_ e
  have n1 : ¬ Zz z C δ p := s.al.na n
  have m : ∀ b, Zz z C δ b → Zd C δ b ∨ b = p := fun b h => .inl (by cases z; exact .inl h; exact h)
  have r2 := r.mono m
  exact .lst ⟨n1, hp⟩ r2.l r2.f
theorem de_n {nv : EvN} (h : DN K X e nv) : DE z K X e (fun δ Q => nv δ fun ds => Q (.lst ds)) := by
  obtain ⟨te, p, v⟩ := h
  exact ⟨te, p, ve_n v⟩
/-- [a, b, ..] as a new list -/
theorem dn_lst (h : DA true K X es et) : DN K X (.List es pos) (fun δ Q => et δ fun ds => ds.length ≤ sizeLine ∧ Q ds) := by
  obtain ⟨t, p, v⟩ := h
  refine ⟨_, fun i => pe_lst (p i), fun C σ δ H Q Qd k s e q => ?_⟩
  subst k
  refine v C σ δ H _ _ rfl s e fun xs ds H1 e1 r1 e => ⟨by rw [r1.l]; exact e.1, fun p hp => ?_⟩
  have n0 : H p = none := by
    cases x : H p with
    | none => rfl
    | some u =>
      by_cases c : ch C.S p
      · exact absurd (s.avs p (ch_sa c)) ((s.step e1).ava.na hp)
      · rw [e1.keep p u c x] at hp
        cases hp
  refine q p xs ds _ n0 (e1.trans (Stp.new hp)) upd_same (r1.move (fun b u _ h => same_new hp b u h) fun b zb => zb.imp id fun (zb : b = p) => by rw [zb]; exact hp) e.2
end
end Dl
set_option maxHeartbeats 1000000
namespace Dl
open PySem PySem.Spec PyProof.Rows L2 Lcn Sq
/-! ### statements -/
structure DEnds where
  nx : List Sl → Prop
  rt : Dt → Prop
  bk : List Sl → Prop := fun _ => False
  ct : List Sl → Prop := fun _ => False
structure EndsR (C : Ctx) (D : Ends) (Dd : DEnds) : Prop where
  nx : ∀ σ δ H, Sok C H σ δ → Dd.nx δ → D.nx σ H
  rt : ∀ v d H, Stp C.S C.H0 H → Rep C.K C.av H v d → (∀ g, g ∈ C.gh → Rep C.K C.av H g.1 g.2) → Dd.rt d → D.rt v H
  bk : ∀ σ δ H, Sok C H σ δ → Dd.bk δ → D.bk σ H
  ct : ∀ σ δ H, Sok C H σ δ → Dd.ct δ → D.ct σ H
abbrev EvS := DEnds → List Sl → Prop
def VS (K : PySem.W.Frag) (ts : TS) (sv : EvS) : Prop := ∀ (C : Ctx) (σ : L2.St) (δ : List Sl) (H : Hp) (D : Ends) (Dd : DEnds), C.K = K → Sok C H σ δ → sv Dd δ → EndsR C D Dd → ts D σ H
def DS {ι : Type} (K : PySem.W.Frag) (X : ι → Cx) (st : Stmt) (sv : EvS) : Prop := ∃ ts, (∀ i, PS (X i) st ts) ∧ VS K ts sv
def DSs {ι : Type} (K : PySem.W.Frag) (X : ι → Cx) (st : List Stmt) (sv : EvS) : Prop := ∃ ts, (∀ i, PSs (X i) st ts) ∧ VS K ts sv
section
variable {ι : Type} {K : PySem.W.Frag} {X : ι → Cx} {z o : Bool} {pos p2 pos' : Pos} {a b c e tg iter : Expr} {es : List Expr} {ea eb ec : EvE} {et : EvA} {iv : EvA} {gv : Dt → List Sl → (List Sl → Prop) → Prop} {tv : EvT} {ev : EvE} {nv : EvN} {st : Stmt} {rest body els : List Stmt} {sv sw : EvS}
def dSeq (sv sw : EvS) : EvS := fun D δ => sv { D with nx := sw D } δ
theorem dss_nil : DSs K X [] (fun D δ => D.nx δ) := ⟨_, fun _ => pss_nil, fun C σ δ H D Dd k s e q => q.nx σ δ H s e⟩
theorem dss_cons (h1 : DS K X st sv) (h2 : DSs K X rest sw) : DSs K X (st :: rest) (dSeq sv sw) := by
  obtain ⟨t, p, v⟩ := h1
  obtain ⟨t2, p2, v2⟩ := h2
  refine ⟨_, fun i => pss_cons (p i) (p2 i), fun C σ δ H D Dd k s e q => ?_⟩
  exact v C σ δ H _ _ k s e ⟨fun σ δ H s e => v2 C σ δ H D Dd k s e q, q.rt, q.bk, q.ct⟩
theorem dss_one (h1 : DS K X st sv) : DSs K X [st] sv := by
  obtain ⟨t, p, v⟩ := h1
  exact ⟨_, fun i => pss_one (p i), v⟩
/-- an own list is a thing like others from here on -/
def frz (i : Nat) (δ : List Sl) : List Sl := match δ[i]? with
  | some (.own _ (.l ds)) => δ.set i (.val (.lst ds))
  | _ => δ
theorem Sok.frz {C : Ctx} {H : Hp} {σ : L2.St} {δ : List Sl} (s : Sok C H σ δ) (i : Nat) : Sok C H σ (frz i δ) := by
  unfold Dl.frz
  split
  · rename_i h
    exact s.freeze h
  · exact s
theorem dss_frz (i : Nat) (h : DSs K X body sv) : DSs K X body (fun D δ => sv D (frz i δ)) := by
  obtain ⟨t, p, v⟩ := h
  exact ⟨t, p, fun C σ δ H D Dd k s e q => v C σ _ H D Dd k (s.frz i) e q⟩
theorem vs_asgV {te : TE} {i : Nat} (v : VE true K te ev) : VS K (tAsg te (gName i)) (fun D δ => ev δ fun d => D.nx (δ.set i (.val d))) := by
  intro C σ δ H D Dd k s e q
  subst k
  exact v C σ δ H _ _ rfl s e fun x d H1 e1 r e => q.nx _ _ H1 ((s.step e1).setV r) e
theorem vs_asgN {te : TE} {i : Nat} (v : VN K te nv) : VS K (tAsg te (gName i)) (fun D δ => nv δ fun ds => ∀ a, D.nx (δ.set i (.own a (.l ds)))) := by
  intro C σ δ H D Dd k s e q
  subst k
  exact v C σ δ H _ _ rfl s e fun p xs ds H1 n e1 hp r e => q.nx _ _ H1 (s.setO (xs := .lst xs) (ds := .l ds) n e1 hp r) (e p)
theorem ds_set {i : Nat} {x : Str} (hp : ∀ {te : TE} j, PE (X j) e te → PS (X j) (.Assign [.Name x pos'] e pos) (tAsg te (gName i))) (h : DE true K X e ev) : DS K X (.Assign [.Name x pos'] e pos) (fun D δ => ev δ fun d => D.nx (δ.set i (.val d))) := by
  obtain ⟨t, p, v⟩ := h
  exact ⟨_, fun j => hp j (p j), vs_asgV v⟩
theorem ds_own {i : Nat} {x : Str} (hp : ∀ {te : TE} j, PE (X j) e te → PS (X j) (.Assign [.Name x pos'] e pos) (tAsg te (gName i))) (h : DN K X e nv) : DS K X (.Assign [.Name x pos'] e pos) (fun D δ => nv δ fun ds => ∀ a, D.nx (δ.set i (.own a (.l ds)))) := by
  obtain ⟨t, p, v⟩ := h
  exact ⟨_, fun j => hp j (p j), vs_asgN v⟩
/-- name = [..] on one line -/
theorem ds_lcN {i : Nat} {y : Str} {py spos : Pos} {elt : Expr} {ifs : List Expr} {scope : Scope} {own : List (Str × Nat)} {is : List Nat} (hc : ∀ i, (X i).calm = true) (hN : ∀ i, (X i).N.Nodup) (hy : ∀ j, (X j).N[i]? = some y) (hyl : ∀ j, (X j).env.scope.names.lookup y = some .local)
    (hsw : ∀ j, swapsWith (.ListComp elt [⟨tg, iter, ifs, 0⟩] scope pos) (some (.Name y py)) spos.line (X j).env = pure true) (hi : DI o K X tg iter iv) (ok : ∀ i, BlkOk (X i).N (X i).env.scope scope own)
    (hg : DG K (bk X scope) tg gv is) (ht : DTs K (bk X scope) es tv) (he : DE true K (bk X scope) elt ev) (hv : ∀ i, i ∈ is → i ∈ own.map (·.2)) (hes : es = ifs) (hs : ∀ i, ∀ x, foldedSetIterable iter (X i).env x = pure x := by intro _ _; rfl) :
    ∃ te, (∀ j, PS (X j) (.Assign [.Name y py] (.ListComp elt [⟨tg, iter, ifs, 0⟩] scope pos) spos) (tAsg te (gName i))) ∧ VN K te (dLcN iv gv tv ev (own.map (·.2))) := by
  subst hes
  obtain ⟨wi, pi, vi⟩ := hi
  obtain ⟨g, pg, vg⟩ := hg
  obtain ⟨tt, pt, vt⟩ := ht
  obtain ⟨te, pe, ve⟩ := he
  exact ⟨_, fun i => ps_setLc (hc i) (hN i) (hy i) (hyl i) (hsw i) (pi i) (ok i) (fun s H C cl fp => pg (i, s, H, C, cl, fp)) (fun s H C cl fp => pt (i, s, H, C, cl, fp)) (fun s H C cl fp => pe (i, s, H, C, cl, fp)) (hs i), vn_lc vi vg hv vt ve⟩
theorem ds_ofN {i : Nat} (h : ∃ te, (∀ j, PS (X j) st (tAsg te (gName i))) ∧ VN K te nv) : DS K X st (fun D δ => nv δ fun ds => ∀ a, D.nx (δ.set i (.own a (.l ds)))) := by
  obtain ⟨t, p, v⟩ := h
  exact ⟨_, p, vs_asgN v⟩
theorem ds_ofV {i : Nat} (h : ∃ te, (∀ j, PS (X j) st (tAsg te (gName i))) ∧ VN K te nv) : DS K X st (fun D δ => nv δ fun ds => D.nx (δ.set i (.val (.lst ds)))) := by
  obtain ⟨t, p, v⟩ := h
  exact ⟨_, p, vs_asgV (ve_n v)⟩
theorem ds_asg {is : List Nat} (hp : ∀ {te : TE} {g : TG} j, PE (X j) e te → PG (X j) tg g → PS (X j) (.Assign [tg] e pos) (tAsg te g)) (h : DE true K X e ev) (hg : DG K X tg gv is) : DS K X (.Assign [tg] e pos) (fun D δ => ev δ fun d => gv d δ D.nx) := by
  obtain ⟨t, p, v⟩ := h
  obtain ⟨g, pg, vg⟩ := hg
  refine ⟨_, fun j => hp j (p j) (pg j), fun C σ δ H D Dd k s e q => ?_⟩
  subst k
  exact v C σ δ H _ _ rfl s e fun x d H1 e1 r e => vg C σ δ H1 x d _ _ rfl (s.step e1) r e fun σ' δ' s' _ _ _ e => q.nx _ _ _ s' e
theorem ds_par {i j : Nat} {x y : Str} {px py pt : Pos} {kt : Nat} {k2 : Nat} {pt2 : Pos} (hp : ∀ {ta : TA} l, PA (X l) [a, b] ta → PS (X l) (.Assign [.Tuple [.Name x px, .Name y py] kt pt] (.Tuple [a, b] k2 pt2) pos) (tPar i j ta)) (h : DA true K X [a, b] et) : DS K X (.Assign [.Tuple [.Name x px, .Name y py] kt pt] (.Tuple [a, b] k2 pt2) pos) (fun D δ => et δ fun ds => match ds with
    | [d, d'] => D.nx ((δ.set i (.val d)).set j (.val d'))
    | _ => False) := by
  obtain ⟨t, p, v⟩ := h
  refine ⟨_, fun l => hp l (p l), fun C σ δ H D Dd k s e q => ?_⟩
  subst k
  refine v C σ δ H _ _ rfl s e fun vs ds H1 e1 r e => ?_
  split at e
  · obtain ⟨u, w, rfl, r1, r2⟩ := repl2 r
    have s1 := (s.step e1).setV (i := i) r1
    exact ⟨u, w, rfl, q.nx _ _ H1 (s1.setV (r2.mono fun b zb => (zd_set zb).resolve_right fun z => z)) e⟩
  · exact e.elim
def dAug (i : Nat) (f : Int → Int → Int) (ea : EvE) : EvS := fun D δ => match δ[i]? with
  | some (.val (.int m)) => ea δ fun d => match d with
    | .int n => D.nx (δ.set i (.val (.int (f m n))))
    | _ => False
  | _ => False
theorem ds_aug {i : Nat} {x : Str} {op : Operator} {f : Int → Int → Int} (hp : ∀ {te : TE} j, PE (X j) e te → PS (X j) (.AugAssign (.Name x pos') op e pos) (tAug i te (ipI f))) (h : DE true K X e ev) : DS K X (.AugAssign (.Name x pos') op e pos) (dAug i f ev) := by
  obtain ⟨t, p, v⟩ := h
  refine ⟨_, fun j => hp j (p j), fun C σ δ H D Dd k s e q => ?_⟩
  subst k
  unfold dAug at e
  split at e
  · rename_i m h
    obtain ⟨w, h1, h2⟩ := s.sl i _ h
    refine ⟨w, h1, v C σ δ H _ _ rfl s e fun y d H1 e1 r e => ?_⟩
    split at e
    · exact ⟨m, _, h2.int_inv, r.int_inv, q.nx _ _ H1 ((s.step e1).setV (.int _)) e⟩
    · exact e.elim
  · exact e.elim
/-- own.append(e) -/
def dApp (i : Nat) (ea : EvE) : EvS := fun D δ => match δ[i]? with
  | some (.own a (.l ds)) => ea δ fun d => ds.length < sizeLine ∧ D.nx (δ.set i (.own a (.l (ds ++ [d]))))
  | _ => False
theorem ds_app {i : Nat} {x : Str} {px apos cpos : Pos} (hp : ∀ {te : TE} j, PE (X j) e te → PS (X j) (.Expr (.Call (.Attribute (.Name x px) "append" apos) [e] [] cpos) pos) (tDrop (tBM (X j).K "list" rAppend (tVar i) (tCons te tNil)))) (h : DE true K X e ev) (hK : ∀ i, (X i).K = K := by intro _; rfl) : DS K X (.Expr (.Call (.Attribute (.Name x px) "append" apos) [e] [] cpos) pos) (dApp i ev) := by
  obtain ⟨t, p, v⟩ := h
  refine ⟨tDrop (tBM K "list" rAppend (tVar i) (tCons t tNil)), fun j => hK j ▸ hp j (p j), fun C σ δ H D Dd k s e q => ?_⟩
  subst k
  unfold dApp at e
  split at e
  · rename_i a ds h
    obtain ⟨h1, _, h3, xs, h5, h6⟩ := s.lstAt h
    refine ⟨.ref a, h1, .inl ⟨rfl, xs, SqL.of h5⟩, v C σ δ H _ _ rfl s e fun y d H1 e1 r e => ?_⟩
    have s1 := s.step e1
    obtain ⟨_, _, _, ys, h7, h8⟩ := s1.lstAt h
    exact ⟨a, ys, y, rfl, rfl, h7, by rw [h8.l]; exact e.1, q.nx _ _ _ (s1.upO (ys := .lst (ys ++ [y])) (es := .l (ds ++ [d])) h (h8.append (.cons r .nil))) e.2⟩
  · exact e.elim
/-- own[e] = e2 -/
def dPut (i : Nat) (eb ea : EvE) : EvS := fun D δ => ea δ fun d => match δ[i]? with
  | some (.own a (.l ds)) => eb δ fun y => match y with
    | .int k => ∃ j, ixN ds.length k = some j ∧ D.nx (δ.set i (.own a (.l (ds.set j d))))
    | _ => False
  | _ => False
theorem ds_put {i : Nat} {x : Str} {px tpos : Pos} (hp : ∀ {te tb : TE} j, PE (X j) e te → PE (X j) b tb → PS (X j) (.Assign [.Subscript (.Name x px) b tpos] e pos) (tAsg te (gSub (tVar i) tb rSetL))) (h : DE true K X e ea) (hb : DE true K X b eb) : DS K X (.Assign [.Subscript (.Name x px) b tpos] e pos) (dPut i eb ea) := by
  obtain ⟨t, p, v⟩ := h
  obtain ⟨t2, p2, v2⟩ := hb
  refine ⟨_, fun j => hp j (p j) (p2 j), fun C σ δ H D Dd k s e q => ?_⟩
  subst k
  refine v C σ δ H _ _ rfl s e fun y d H1 e1 r e => ?_
  split at e
  · rename_i a ds h
    have s1 := s.step e1
    obtain ⟨h1, _, _, xs, h5, h6⟩ := s1.lstAt h
    refine ⟨.ref a, h1, v2 C σ δ H1 _ _ rfl s1 e fun w d2 H2 e2 r2 e => ?_⟩
    split at e
    · rename_i kk
      obtain ⟨j, hj, e⟩ := e
      have s2 := s1.step e2
      obtain ⟨_, _, _, ys, h7, h8⟩ := s2.lstAt h
      exact ⟨a, ys, kk, j, rfl, r2.int_inv, h7, by rw [h8.l]; exact hj, q.nx _ _ _ (s2.upO (ys := .lst (ys.set j y)) (es := .l (ds.set j d)) h (h8.set (rep_step s1 e2 r) j)) e⟩
    · exact e.elim
  · exact e.elim
def dIf (tv : EvT) (sv sw : EvS) : EvS := fun D δ => tv δ fun b => if b = true then sv D δ else sw D δ
theorem ds_if (hc : DT K X c tv) (h1 : DSs K X body sv) (h2 : DSs K X els sw) : DS K X (.If c body els pos) (dIf tv sv sw) := by
  obtain ⟨t, p, v⟩ := hc
  obtain ⟨t1, p1, v1⟩ := h1
  obtain ⟨t2, p2, v2⟩ := h2
  refine ⟨_, fun i => ps_if (p i) (p1 i) (p2 i), fun C σ δ H D Dd k s e q => ?_⟩
  refine v C σ δ H _ _ k s e fun b H1 e1 e => ?_
  cases b
  · exact v2 C σ δ H1 D Dd k (s.step e1) e q
  · exact v1 C σ δ H1 D Dd k (s.step e1) e q
theorem ds_ret (h : DE false K X e ev) : DS K X (.Return (some e) pos) (fun D δ => ev δ D.rt) := by
  obtain ⟨t, p, v⟩ := h
  refine ⟨_, fun i => ps_ret (p i), fun C σ δ H D Dd k s e q => ?_⟩
  subst k
  exact v C σ δ H _ _ rfl s e fun x d H1 e1 r e => q.rt x d H1 (s.st.trans e1) r (fun g m => ((s.step e1).gh g m).mono fun b z => .inl z) e
theorem ds_retN : DS K X (.Return none pos) (fun D δ => D.rt .non) := ⟨_, fun i => ps_retN, fun C σ δ H D Dd k s e q => q.rt .non .non H s.st .non (fun g m => (s.gh g m).mono fun b z => .inl z) e⟩
theorem ds_expr (h : DE false K X e ev) (hs : ∀ i, swapsWith e none pos.line (X i).env = pure false := by intro _; rfl) : DS K X (.Expr e pos) (fun D δ => ev δ fun _ => D.nx δ) := by
  obtain ⟨t, p, v⟩ := h
  refine ⟨_, fun i => ps_expr (p i) (hs i), fun C σ δ H D Dd k s e q => ?_⟩
  exact v C σ δ H _ _ k s e fun x d H1 e1 r e => q.nx _ _ H1 (s.step e1) e
theorem ds_pass : DS K X (.Pass pos) (fun D δ => D.nx δ) := ⟨_, fun i => ps_pass, fun C σ δ H D Dd k s e q => q.nx _ _ H s e⟩
theorem ds_break : DS K X (.Break pos) (fun D δ => D.bk δ) := ⟨_, fun i => ps_break, fun C σ δ H D Dd k s e q => q.bk _ _ H s e⟩
theorem ds_continue : DS K X (.Continue pos) (fun D δ => D.ct δ) := ⟨_, fun i => ps_continue, fun C σ δ H D Dd k s e q => q.ct _ _ H s e⟩
theorem ds_never : DS K X st (fun _ _ => False) := ⟨_, fun i => ps_never, fun C σ δ H D Dd k s e q => e.elim⟩
/-! ### loops -/
def dForL (gv : Dt → List Sl → (List Sl → Prop) → Prop) (bv : EvS) (D : DEnds) : List Dt → List Sl → Prop
  | [], δ => D.nx δ
  | d :: r, δ => gv d δ fun δ2 => bv { nx := dForL gv bv D r, rt := D.rt, bk := D.nx, ct := dForL gv bv D r } δ2
def dFor (iv : EvA) (gv : Dt → List Sl → (List Sl → Prop) → Prop) (bv : EvS) : EvS := fun D δ => iv δ fun ds => dForL gv bv D ds δ
theorem ds_for {is : List Nat} (hc : ∀ i, (X i).calm = true) (hi : DI false K X tg iter iv) (hg : DG K X tg gv is) (hb : DSs K X body sv) (hpo : ∀ i, PassesOwn (model (X i).prog (X i).w) (X i).A (X i).env (X i).xe) (hs : ∀ i, ∀ x, foldedSetIterable iter (X i).env x = pure x := by intro _ _; rfl) : DS K X (.For tg iter body [] pos) (dFor iv gv sv) := by
  obtain ⟨wi, pi, vi⟩ := hi
  obtain ⟨g, pg, vg⟩ := hg
  obtain ⟨tb, pb, vb⟩ := hb
  refine ⟨_, fun i => ps_for (hpo i) (hc i) (pi i) (pg i) (pb i) (hs i), fun C σ δ H D Dd k s e q => ?_⟩
  subst k
  refine vi C σ δ H _ _ rfl s e fun J n G Y ds H1 base gs w hn e1 hb0 hbk hgs it e => ?_
  have hb1 := hb0 rfl
  have s1 : Sok { C with gh := gs ++ C.gh } H1 σ δ := (s.step e1).ghost hgs
  refine for_it w (fun i σ H => ∃ δ, Sok { C with gh := gs ++ C.gh } H σ δ ∧ dForL gv sv Dd (ds.drop i) δ) ⟨δ, s1, by rw [List.drop_zero]; exact e⟩ (fun i σ H _ ⟨δ, s, _⟩ => it.g _ H s.alz (hb1 H) s.unghost.2) (fun i x σ2 H2 H3 hi ⟨δ2, s2, e⟩ y => ?_) (fun σ2 H2 ⟨δ2, s2, e⟩ => ?_)
  · have hid : i < ds.length := by omega
    rw [List.drop_eq_getElem_cons hid] at e
    obtain ⟨sm, rx⟩ := it.y i ds[i] _ H2 x H3 (List.getElem?_eq_getElem hid) s2.alz (hb1 H2) s2.unghost.2 y
    have s3 := s2.step (Stp.of sm)
    refine vg { C with gh := gs ++ C.gh } σ2 δ2 H3 x ds[i] _ _ rfl s3 rx e fun σ4 δ4 s4 _ _ _ e => ?_
    exact vb { C with gh := gs ++ C.gh } σ4 δ4 H3 _ _ rfl s4 e ⟨fun σ δ H s e => ⟨δ, s, e⟩, fun v d H e r gh => q.rt v d H e r fun g m => gh g (List.mem_append_right _ m), fun σ δ H s e => q.nx σ δ H s.unghost.1 e, fun σ δ H s e => ⟨δ, s, e⟩⟩
  · rw [List.drop_eq_nil_of_le (by omega)] at e
    exact q.nx σ2 δ2 H2 s2.unghost.1 e
def dWhile (tv : EvT) (bv : EvS) : EvS := fun D δ => ∃ W : Nat → List Sl → Prop, (∃ m, W m δ) ∧ ∀ m δ, W m δ → tv δ fun b => if b = true then bv { nx := fun δ' => ∃ m', m' < m ∧ W m' δ', rt := D.rt, bk := D.nx, ct := fun δ' => ∃ m', m' < m ∧ W m' δ' } δ else D.nx δ
theorem ds_while (hc : DT K X c tv) (hb : DSs K X body sv) (hpo : ∀ i, PassesOwn (model (X i).prog (X i).w) (X i).A (X i).env (X i).xe) : DS K X (.While c body [] pos) (dWhile tv sv) := by
  obtain ⟨t, p, v⟩ := hc
  obtain ⟨tb, pb, vb⟩ := hb
  refine ⟨_, fun i => ps_while (hpo i) (p i) (pb i), fun C σ δ H D Dd k s e q => ?_⟩
  obtain ⟨W, ⟨m0, w0⟩, e⟩ := e
  refine ⟨fun m σ H => ∃ δ, Sok C H σ δ ∧ W m δ, ⟨m0, δ, s, w0⟩, ?_⟩
  rintro m σ H ⟨δ, s, w⟩
  refine v C σ δ H _ _ k s (e m δ w) fun b H1 e1 e => ?_
  cases b
  · exact q.nx σ δ H1 (s.step e1) e
  · refine ⟨fun σ' H' => ∃ m', m' < m ∧ ∃ δ', Sok C H' σ' δ' ∧ W m' δ', fun σ' H' ⟨m', hm, δ', s', w'⟩ => ⟨m', hm, δ', s', w'⟩, ?_⟩
    exact vb C σ δ H1 _ _ k (s.step e1) e ⟨fun σ δ H s ⟨m', hm, w'⟩ => ⟨m', hm, δ, s, w'⟩, q.rt, q.nx, fun σ δ H s ⟨m', hm, w'⟩ => ⟨m', hm, δ, s, w'⟩⟩
end
/-! ### defs: promises over data -/
def ArgOk (S : Sc) (K : PySem.W.Frag) (av : Addr → Prop) (H : Hp) (v : V) : Sl → Prop
  | .val d => Rep K av H v d
  | .src => ∃ z, S = some z ∧ v = .ref z.1
  | _ => False
structure ArgsOk (S : Sc) (K : PySem.W.Frag) (av : Addr → Prop) (H : Hp) (vs : List V) (δ : List Sl) : Prop where
  l : vs.length = δ.length
  f : ∀ (i : Nat) (v : V) (s : Sl), vs[i]? = some v → δ[i]? = some s → ArgOk S K av H v s
abbrev Spc := List Sl → (Dt → Prop) → Prop
def dsp (K : PySem.W.Frag) (n : Nat) (sp : Spc) : Sp := fun vs H Q _ => ∃ (S : Sc) (av : Addr → Prop) (δ : List Sl) (Qd : Dt → Prop), (∀ b, sa S b → av b) ∧ Al av H ∧ Gs S H ∧ ArgsOk S K av H vs δ ∧ δ.length = n ∧ sp δ Qd ∧ ∀ v d H', Stp S H H' → Rep K av H' v d → Qd d → Q v H'
theorem start_at {N : List Str} {vs : List V} {i : Nat} : i < vs.length → (L2.start N vs)[i]? = (vs[i]?).map some := fun h => by
  unfold L2.start
  rw [List.getElem?_append_left (by simpa using h), List.getElem?_map]
/-- the state at a def's entry -/
def st0 (N : List Str) (δ : List Sl) : List Sl := δ ++ List.replicate (N.length - δ.length) .any
theorem sok_start {K : PySem.W.Frag} {S : Sc} {av : Addr → Prop} {H : Hp} {N : List Str} {vs : List V} {δ : List Sl} (h1 : ∀ b, sa S b → av b) (h2 : Al av H) (h3 : Gs S H) (a : ArgsOk S K av H vs δ) : Sok ⟨K, S, av, H, []⟩ H (L2.start N vs) (st0 N δ) := by
  have noo : ∀ (i : Nat) (a' : Addr) (ds : Oc), (st0 N δ)[i]? ≠ some (.own a' ds) := fun i a' ds h => by
    unfold st0 at h
    rcases Nat.lt_or_ge i δ.length with lt | ge
    · rw [List.getElem?_append_left lt] at h
      have hv : vs[i]? = some (vs[i]'(by rw [a.l]; exact lt)) := List.getElem?_eq_getElem _
      exact a.f i _ _ hv h
    · rw [List.getElem?_append_right ge, List.getElem?_replicate] at h
      split at h
      · cases h
      · cases h
  have hz : ∀ b, Zd ⟨K, S, av, H, []⟩ (st0 N δ) b → av b := fun b z => z.elim id fun ⟨s, m, e⟩ => by
    cases s with
    | own a' ds =>
      obtain ⟨i, hi⟩ := List.mem_iff_getElem?.mp m
      exact absurd hi (noo i a' ds)
    | _ => exact e.elim
  refine ⟨?_, fun i s h => ?_, fun i j a' ds es h => absurd h (noo i a' ds), h3, Stp.refl H, h1, h2, fun p m => nomatch m⟩
  · unfold L2.start st0
    rw [List.length_append, List.length_append, List.length_map, List.length_replicate, List.length_replicate, a.l]
  · have h' := h
    unfold st0 at h
    rcases Nat.lt_or_ge i δ.length with lt | ge
    · rw [List.getElem?_append_left lt] at h
      have lv : i < vs.length := by rw [a.l]; exact lt
      have hv : vs[i]? = some vs[i] := List.getElem?_eq_getElem lv
      have q := a.f i _ s hv h
      rw [start_at lv, hv]
      cases s with
      | any => exact q.elim
      | val d => exact ⟨_, rfl, Rep.mono (av := av) q hz⟩
      | own a' ds => exact q.elim
      | src =>
        obtain ⟨z, e1, e2⟩ := q
        exact ⟨z, e1, by rw [Option.map_some, e2]⟩
    · rw [List.getElem?_append_right ge, List.getElem?_replicate] at h
      split at h
      · cases h
        trivial
      · cases h
section
variable {P : Program} {w : World} {K : PySem.W.Frag} {mg : Str → Option Value} {base : Heap}
theorem fn_d {x qual : Str} {params : Arguments} {body : List Stmt} {scope : Scope} {dvs : List V} {kws : List (Str × V)} {f : Addr} {fd : FuncData} {N ps : List Str} {k : Nat} {sp : Spc} {sv : EvS} (F : FunD K x qual params body scope dvs kws f fd) (S : FnScope N ps scope)
    (hbody : ∀ (cdv : Value) (A : Around) (outer : List Env) (s : Shared) (H : Hp) (E : XK), Room k (A.deeper (PyProof.Rows.envOfC qual scope s.heap.objs.size f cdv)) → DSs K (fun _ : Unit => (cxOf CX0 P w K mg base N qual scope f cdv A outer s H E).nox) body sv)
    (hsp : ∀ (δ : List Sl) (Qd : Dt → Prop), δ.length = ps.length → sp δ Qd → sv { nx := fun _ => Qd .non, rt := Qd } (st0 N δ)) : FnOk P w K mg base CX0 (k + 1) f fd ps (dsp K ps.length sp) := by
  refine F.ok S (fun vs H Q E h => ?_) fun cdv A outer s H vs Q E hr h => ?_
  · obtain ⟨S, av, δ, Qd, _, _, _, a, l, _⟩ := h
    rw [a.l, l]
  · obtain ⟨S, av, δ, Qd, h1, h2, h3, a, l, hs, q⟩ := h
    obtain ⟨ts, p, v⟩ := hbody cdv A outer s H E hr
    refine ⟨ts, (p ()).nox, v ⟨K, S, av, H, []⟩ _ _ H _ _ rfl (sok_start h1 h2 h3 a) (hsp δ Qd l hs) ⟨fun σ δ H' s e => q .non .non H' s.st .non e, fun x d H' e r _ qd => q x d H' e r qd, fun _ _ _ _ e => e.elim, fun _ _ _ _ e => e.elim⟩⟩
end
/-! ### calls of defs -/
abbrev EvL := List Sl → (Sl → Prop) → Prop
abbrev EvLs := List Sl → (List Sl → Prop) → Prop
def VLs (z : Bool) (K : PySem.W.Frag) (te : TA) (ev : EvLs) : Prop := ∀ (C : Ctx) (σ : L2.St) (δ : List Sl) (H : Hp) (Q : List V → Hp → Prop) (Qd : List Sl → Prop), C.K = K → Sok C H σ δ → ev δ Qd → (∀ vs ss H', Stp C.S H H' → ArgsOk C.S K (Zz z C δ) H' vs ss → Qd ss → Q vs H') → te σ H Q
def DLs {ι : Type} (z : Bool) (K : PySem.W.Frag) (X : ι → Cx) (es : List Expr) (ev : EvLs) : Prop := ∃ te, (∀ i, PA (X i) es te) ∧ VLs z K te ev
section
variable {ι : Type} {K : PySem.W.Frag} {X : ι → Cx} {z : Bool} {pos : Pos} {e : Expr} {es : List Expr} {ea : EvE} {et : EvLs}
theorem args_cons {S : Sc} {av : Addr → Prop} {H : Hp} {v : V} {s : Sl} {vs : List V} {ss : List Sl} (h : ArgOk S K av H v s) (t : ArgsOk S K av H vs ss) : ArgsOk S K av H (v :: vs) (s :: ss) := ⟨by rw [List.length_cons, List.length_cons, t.l], fun i x u h1 h2 => by
  cases i with
  | zero => cases h1; cases h2; exact h
  | succ j => exact t.f j x u h1 h2⟩
theorem dl_nil : DLs z K X [] (fun _ Q => Q []) := ⟨_, fun _ => pa_nil, fun C σ δ H Q Qd k s e q => q [] [] H (Stp.refl H) ⟨rfl, fun i v s h => by cases i <;> cases h⟩ e⟩
theorem dl_val (ha : DE z K X e ea) (hr : DLs z K X es et) (hs : ∀ i, starEach (e :: es) (X i).env = (false, eval e (X i).env) :: starEach es (X i).env := by intro _; rfl) : DLs z K X (e :: es) (fun δ Q => ea δ fun d => et δ fun ss => Q (.val d :: ss)) := by
  obtain ⟨t, p, v⟩ := ha
  obtain ⟨t2, p2, v2⟩ := hr
  refine ⟨_, fun i => pa_cons (p i) (p2 i) (hs i), fun C σ δ H Q Qd k s e q => ?_⟩
  subst k
  refine v C σ δ H _ _ rfl s e fun x d H1 e1 r1 e => ?_
  refine v2 C σ δ H1 _ _ rfl (s.step e1) e fun vs ds H2 e2 r2 e => q _ _ H2 (e1.trans e2) (args_cons (s := .val d) (rep_st (s.step e1) e2 r1) r2) e
def dSrcA (i : Nat) (et : EvLs) : EvLs := fun δ Q => match δ[i]? with
  | some .src => et δ fun ss => Q (.src :: ss)
  | _ => False
theorem dl_src {i : Nat} {x : Str} {p3 : Pos} (p : ∀ j, PE (X j) (.Name x p3) (tVar i)) (hr : DLs z K X es et) (hs : ∀ i, starEach (.Name x p3 :: es) (X i).env = (false, eval (.Name x p3) (X i).env) :: starEach es (X i).env := by intro _; rfl) : DLs z K X (.Name x p3 :: es) (dSrcA i et) := by
  obtain ⟨t2, p2, v2⟩ := hr
  refine ⟨_, fun j => pa_cons (p j) (p2 j) (hs j), fun C σ δ H Q Qd k s e q => ?_⟩
  subst k
  unfold dSrcA at e
  split at e
  · rename_i h
    obtain ⟨z, h1, h2⟩ := s.sl i _ h
    refine ⟨.ref z.1, h2, v2 C σ δ H _ _ rfl s e fun vs ds H2 e2 r2 e => q _ _ H2 e2 (args_cons (s := .src) ⟨z, h1, rfl⟩ r2) e⟩
  · exact e.elim
theorem de_call {x : Str} {p : Pos} {n : Nat} {sp : Spc} (hp : ∀ {t : TA} i, PA (X i) (e :: es) t → PE (X i) (.Call (.Name x p) (e :: es) [] pos) (tCall (dsp K n sp) [] E0 t)) (ha : DLs z K X (e :: es) et) : DE z K X (.Call (.Name x p) (e :: es) [] pos) (fun δ Q => et δ fun ss => ss.length = n ∧ sp ss Q) := by
  obtain ⟨t, pa, v⟩ := ha
  refine ⟨_, fun i => hp i (pa i), fun C σ δ H Q Qd k s e q => ?_⟩
  subst k
  refine v C σ δ H _ _ rfl s e fun vs ss H1 e1 r e => ?_
  have s1 := s.step e1
  refine ⟨C.S, Zz z C δ, ss, Qd, fun b hb => ?_, s1.al, s1.g, ?_, e.1, e.2, fun v d H2 e2 r2 qd => q v d H2 (e1.trans e2) r2 qd⟩
  · cases z
    · exact s.avs b hb
    · exact .inl (s.avs b hb)
  · rw [List.append_nil]
    exact r
end
end Dl
set_option maxHeartbeats 4000000
/-! zip(x, y), each a list or a tuple -/
namespace Zm
open PySem PySem.Spec PyProof.Rows L2 Sq
/-- k: a list; else a tuple -/
def sqK (k : Bool) (K : PySem.W.Frag) (H : Hp) (a : Addr) (xs : List V) : Prop := match k with
  | true => SqL K H a xs
  | false => SqT K H a xs
def itK (k : Bool) (h : Heap) (it l : Addr) (i : Nat) : Prop := match k with
  | true => h.IsListIter it l i
  | false => h.IsTupleIter it l i
def isK (k : Bool) (h : Heap) (l : Addr) (its : Array Value) : Prop := match k with
  | true => h.IsList l its
  | false => h.IsTuple l its
theorem itK.at' {k : Bool} {h h' : Heap} {it l : Addr} {i : Nat} (x : itK k h it l i) (e : ∀ o, h.get? it = some o → h'.get? it = some o) : itK k h' it l i := by
  cases k
  · exact Heap.IsTupleIter.at x e
  · exact Heap.IsListIter.at x e
theorem itK.obj {k : Bool} {h : Heap} {it l : Addr} {i : Nat} (x : itK k h it l i) : ∃ o, h.get? it = some o ∧ ∀ v, o.data ≠ .cell v := by
  cases k
  · obtain ⟨o, e, _, d⟩ := x
    exact ⟨o, e, fun v q => by rw [d] at q; cases q⟩
  · obtain ⟨o, e, _, d⟩ := x
    exact ⟨o, e, fun v q => by rw [d] at q; cases q⟩
theorem isK.lt {k : Bool} {h : Heap} {l : Addr} {its : Array Value} (x : isK k h l its) : l < h.objs.size := by
  cases k
  · obtain ⟨o, e, _⟩ := x
    exact Heap.lt_size e
  · obtain ⟨o, e, _⟩ := x
    exact Heap.lt_size e
theorem drawK {prog : Program} {w : World} {A : Around} (hh : A.handled = none) (k : Bool) (it l : Addr) (hne : l ≠ it) (its : Array Value) :
    PySem.Draws prog w A it [it, l] its.size (fun i v => its[i]? = some v) (fun i h => itK k h it l i ∧ isK k h l its) := by
  cases k
  · exact PySem.Draws.tuple hh it l hne its
  · exact PySem.Draws.list hh it l hne its
theorem seqK {X : Cx} {pins : List (Addr × Obj)} {σ : L2.St} {H : Hp} {s : Shared} {k : Bool} {a : Addr} {xs : List V} (I : Inv X pins σ H s) (h : sqK k X.K H a xs) : ∃ its : List Value, Vals xs its ∧ isK k s.heap a its.toArray := by
  cases k
  · obtain ⟨its, r, p, _⟩ := I.tuple h
    exact ⟨its, r, p⟩
  · obtain ⟨its, r, p, _⟩ := I.list h
    exact ⟨its, r, p.isList⟩
theorem injK {X : Cx} {pins : List (Addr × Obj)} {σ : L2.St} {H : Hp} {s : Shared} {k : Bool} {a : Addr} {xs ys : List V} (I : Inv X pins σ H s) (h : sqK k X.K H a xs) (h' : sqK k X.K H a ys) : xs = ys := by
  cases k
  · exact I.tuple_inj h h'
  · exact I.list_inj h h'
/-- what is at a and b, side by side in new pairs -/
def Itm (K : PySem.W.Frag) (j k : Bool) (a b : Addr) : It :=
  ⟨fun i H => ∃ (xs ys : List V), sqK j K H a xs ∧ sqK k K H b ys ∧ i < xs.length ∧ i < ys.length,
    fun i H v H' => ∃ T x y, v = .ref T ∧ H T = none ∧ H' = upd H T (.tup [x, y]) ∧ (∀ xs, sqK j K H a xs → xs[i]? = some x) ∧ ∀ ys, sqK k K H b ys → ys[i]? = some y,
    fun i H => ∃ xs ys : List V, sqK j K H a xs ∧ sqK k K H b ys ∧ i ≤ xs.length ∧ i ≤ ys.length ∧ (i = xs.length ∨ i = ys.length)⟩
def Ap (z TI TO i1 i2 : Addr) : Prop := TI ≠ z ∧ TO ≠ z ∧ TI ≠ TO ∧ TI ≠ i1 ∧ TI ≠ i2 ∧ i1 ≠ z ∧ i2 ≠ z ∧ i1 ≠ TO ∧ i2 ≠ TO ∧ i1 ≠ i2
section
variable {P : Program} {w : World} {K : PySem.W.Frag} {elts : List Expr} {kk : Nat} {tpos : Pos} {j k : Bool} {a b z TI TO i1 i2 : Addr}
def Tn (j k : Bool) (a b z TI TO i1 i2 : Addr) (i : Nat) (h : Heap) : Prop := IsZip h z TI TO .none ∧ IsTupOf2 h TI (.ref i1) (.ref i2) ∧ (∃ x y, IsTupOf2 h TO x y) ∧ itK j h i1 a i ∧ itK k h i2 b i
theorem sepOf (D : Ap z TI TO i1 i2) {l1 l2 : Addr} (a1 : l1 ∉ [z, TI, TO, i1, i2]) (a2 : l2 ∉ [z, TI, TO, i1, i2]) : ZipSep2 z TI TO i1 i2 [i1, l1] [i2, l2] := by
  obtain ⟨d1, d2, d3, d4, d5, d6, d7, d8, d9, d10⟩ := D
  simp only [List.mem_cons, List.not_mem_nil, or_false, not_or] at a1 a2
  obtain ⟨b1, b2, b3, b4, b5⟩ := a1
  obtain ⟨c1, c2, c3, c4, c5⟩ := a2
  refine ⟨d1, d2, d3, d4, by simp, ?_, ?_, d5, by simp, ?_, ?_, ?_, ?_⟩ <;> simp only [List.mem_cons, List.not_mem_nil, or_false, not_or]
  · exact ⟨Ne.symm d6, Ne.symm b1⟩
  · exact ⟨Ne.symm d8, Ne.symm b3⟩
  · exact ⟨Ne.symm d7, Ne.symm c1⟩
  · exact ⟨Ne.symm d9, Ne.symm c3⟩
  · exact ⟨d10, Ne.symm c4⟩
  · exact ⟨Ne.symm d10, Ne.symm b5⟩
/-- a tracked or written container is none of the iterator's objects -/
theorem notFp {X : Cx} {pins : List (Addr × Obj)} {σ : L2.St} {H : Hp} {s : Shared} {a : Addr} {xs : List V} (I : Inv X pins σ H s) (h : sqK k X.K H a xs) {fp : List Addr} (hf : ∀ c ∈ fp, FpOk X pins H c) : a ∉ fp := fun m => by
  obtain ⟨n0, _, _, young, _⟩ := hf a m
  have old : ∀ o, X.K.lookup a = some o → False := fun o e => by
    have e1 : X.base.get? a = some o := I.mod.kin a o e
    rcases young with y | y
    · exact I.ok.noex a o e1 y
    · exact absurd (Nat.lt_of_lt_of_le (Heap.lt_size e1) (Nat.le_trans I.ok.bsz y)) (Nat.lt_irrefl _)
  cases k
  · rcases h with (h | ⟨o, h⟩) | ⟨o, _, _, h, _⟩
    · rw [n0] at h; cases h
    · rw [n0] at h; cases h
    · exact old o h
  · rcases h with (h | ⟨o, h⟩) | ⟨o, _, _, h, _⟩
    · rw [n0] at h; cases h
    · rw [n0] at h; cases h
    · exact old o h
theorem turnM (D : Ap z TI TO i1 i2) : Turn P w K (.Tuple elts kk tpos) (Itm K j k a b) [z, TI, TO, i1, i2] z (Tn j k a b z TI TO i1 i2) where
  mem := by simp
  obj := fun i h st c hc => by
    obtain ⟨hz, hTI, ⟨x, y, hTO⟩, h1, h2⟩ := st
    simp only [List.mem_cons, List.not_mem_nil, or_false] at hc
    rcases hc with rfl | rfl | rfl | rfl | rfl
    · exact ⟨_, hz, fun v q => nomatch q⟩
    · exact ⟨_, hTI, fun v q => nomatch q⟩
    · exact ⟨_, hTO, fun v q => nomatch q⟩
    · exact h1.obj
    · exact h2.obj
  keep := fun i h h' st e => by
    obtain ⟨hz, hTI, ⟨x, y, hTO⟩, h1, h2⟩ := st
    exact ⟨e _ (by simp) _ hz, e _ (by simp) _ hTI, ⟨x, y, e _ (by simp) _ hTO⟩, h1.at' fun o q => e _ (by simp) o q, h2.at' fun o q => e _ (by simp) o q⟩
  item := by
    intro X hP hw hK hc i pins s σ H E I hf st hg
    subst hP hw hK
    obtain ⟨hz, hTI, ⟨x0, y0, hTO⟩, h1, h2⟩ := st
    obtain ⟨xs, ys, hqx, hqy, lx, ly⟩ := hg
    obtain ⟨its, rv, p1⟩ := seqK I hqx
    obtain ⟨its2, rv2, p2⟩ := seqK I hqy
    have l1 := rv.length
    have l2 := rv2.length
    have n1 := notFp I hqx hf
    have n2 := notFp I hqy hf
    have D' := D
    obtain ⟨d1, d2, d3, d4, d5, d6, d7, d8, d9, d10⟩ := D
    have hh : X.A.in1.handled = none := I.ok.hd hc
    have hzl : z < s.heap.objs.size := Heap.lt_size hz
    have ne1 : a ≠ i1 := fun e => n1 (by rw [e]; simp)
    have ne2 : b ≠ i2 := fun e => n2 (by rw [e]; simp)
    refine wpAny_pyNext_zipD2_item (sepOf D' n1 n2) (drawK hh j i1 a ne1 its.toArray) (drawK hh k i2 b ne2 its2.toArray) hz hTI hTO ⟨h1, p1⟩ ⟨h2, p2⟩ (by simp; omega) (by simp; omega) fun u u2 h' tk hu hu2 z' TO' s1' s2' hT hsz hk => ?_
    refine ⟨_, rfl, wpAny_letOwnedTupleGo_zip (s := { s with heap := h', toks := tk }) z' fun h'' z'' sb => ?_⟩
    have hx : xs[i]? = some xs[i] := List.getElem?_eq_getElem lx
    have hy : ys[i]? = some ys[i] := List.getElem?_eq_getElem ly
    obtain ⟨v1, e1, r1⟩ := rv.get hx
    obtain ⟨v2, e2, r2⟩ := rv2.get hy
    have q1 : v1 = u := by
      have : its[i]? = some u := by simpa using hu
      rw [e1] at this
      exact Option.some.inj this
    have q2 : v2 = u2 := by
      have : its2[i]? = some u2 := by simpa using hu2
      rw [e2] at this
      exact Option.some.inj this
    subst q1 q2
    have hT2 : h''.get? s.heap.objs.size = some { cls := .type "tuple", data := .seq #[v1, v2] } := (sb.2 _ (Nat.ne_of_gt hzl)).trans hT
    have made : ObjOk X.prog X.w (upd H s.heap.objs.size (.tup [xs[i], ys[i]])) h'' s.heap.objs.size (.tup [xs[i], ys[i]]) := ⟨by show 2 ≤ sizeLine; decide, [v1, v2], .cons r1 (.cons r2 .nil), ⟨_, hT2, rfl, _, rfl⟩⟩
    have stays : ∀ c o, c ∉ [z, TI, TO, i1, i2] → s.heap.get? c = some o → h''.get? c = some o := fun c o m e => by
      simp only [List.mem_cons, List.not_mem_nil, or_false, not_or] at m
      obtain ⟨m1, _, m3, m4, m5⟩ := m
      exact (sb.2 c m1).trans (hk c o m1 m3 m4 m5 e)
    have I1 := I.turnedNew (t' := tk) (ch := [z, TI, TO, i1, i2]) stays hf (Nat.le_refl _) made
    refine ⟨.ref s.heap.objs.size, _, I1, rfl, ⟨_, _, _, rfl, I.hok.fresh (Nat.le_refl _), rfl, fun l hl => ?_, fun l hl => ?_⟩, ⟨z'', (sb.2 _ d1).trans (hk _ _ d1 d3 d4 d5 hTI), ⟨v1, v2, (sb.2 _ d2).trans TO'⟩, s1'.1.at' fun o q => (sb.2 _ d6).trans q, s2'.1.at' fun o q => (sb.2 _ d7).trans q⟩, fun c hcm => ?_⟩
    · rw [injK I hl hqx]
      exact hx
    · rw [injK I hl hqy]
      exact hy
    · have lt : c < s.heap.objs.size := by
        have hcm' := hcm
        simp only [List.mem_cons, List.not_mem_nil, or_false] at hcm'
        rcases hcm' with q | q | q | q | q
        · rw [q]; exact hzl
        · rw [q]; exact Heap.lt_size hTI
        · rw [q]; exact Heap.lt_size hTO
        · rw [q]; obtain ⟨_, e, _⟩ := h1.obj; exact Heap.lt_size e
        · rw [q]; obtain ⟨_, e, _⟩ := h2.obj; exact Heap.lt_size e
      rw [upd_ne (Nat.ne_of_lt lt)]
      exact (hf c hcm).1
  done := by
    intro X hP hw hK hc i pins s σ H E I hf st hg
    subst hP hw hK
    obtain ⟨hz, hTI, ⟨x0, y0, hTO⟩, h1, h2⟩ := st
    obtain ⟨xs, ys, hqx, hqy, lx, ly, le⟩ := hg
    obtain ⟨its, rv, p1⟩ := seqK I hqx
    obtain ⟨its2, rv2, p2⟩ := seqK I hqy
    have l1 := rv.length
    have l2 := rv2.length
    have n1 := notFp I hqx hf
    have n2 := notFp I hqy hf
    have hh : X.A.in1.handled = none := I.ok.hd hc
    have ne1 : a ≠ i1 := fun e => n1 (by rw [e]; simp)
    have ne2 : b ≠ i2 := fun e => n2 (by rw [e]; simp)
    refine wpAny_pyNext_zipD2_end (sepOf D n1 n2) (drawK hh j i1 a ne1 its.toArray) (drawK hh k i2 b ne2 its2.toArray) hz hTI hTO ⟨h1, p1⟩ ⟨h2, p2⟩ (by simp; omega) (by simp; omega) (by simp; omega) fun h' tk hk => ⟨rfl, I.turnedL (t' := tk) (ch := [z, TI, TO, i1, i2]) (fun c o m e => ?_) hf⟩
    simp only [List.mem_cons, List.not_mem_nil, or_false, not_or] at m
    obtain ⟨m1, _, m3, m4, m5⟩ := m
    exact hk c o m1 m3 m4 m5 e
  self := fun A i s Q E st h => wpAny_pyIter_zip st.1 h
end
def iZipM (K : PySem.W.Frag) (ta : TA) : TI := fun σ H R => ta σ H fun vs H1 => ∃ a b j k xs ys, vs = [.ref a, .ref b] ∧ sqK j K H1 a xs ∧ sqK k K H1 b ys ∧ R (Itm K j k a b) H1
theorem beginK (k : Bool) (l : Addr) (its : Array Value) : ∃ o, Begins (.ref l) o (fun h => isK k h l its) ∧ ∀ h it, h.get? it = some o → itK k h it l 0 := by
  cases k
  · exact ⟨_, begins_tuple l its, fun h it e => ⟨_, e, rfl, rfl⟩⟩
  · exact ⟨_, begins_list l its, fun h it e => ⟨_, e, rfl, rfl⟩⟩
theorem pi_zipM {X : Cx} {e e2 : Expr} {ta : TA} {p pos tpos : Pos} {elts : List Expr} {kk : Nat} (hg : Gl X "zip") (hm : X.mg "zip" = none) (ha : PA X [e, e2] ta)
    (hs : starEach [e, e2] X.env = (false, eval e X.env) :: starEach [e2] X.env := by rfl) (hpl : (backTo pos (starEach [e2] X.env)).any (·.1) = false := by rfl) :
    PI X (.Tuple elts kk tpos) (.Call (.Name "zip" p) [e, e2] [] pos) (iZipM X.K ta) := by
  refine ⟨fun pins s σ H R I h => ?_⟩
  refine Call_ (ld_blt I hg hm PyProof.Rows.boot_zip (PyProof.Rows.callWith_type1 (thn (ha.run pos pins s σ H _ I h) fun us s1 ⟨vs, H1, I1, r1, q1⟩ => ?_) hs hpl))
  obtain ⟨a, b, j, k, xs, ys, rfl, hx, hy, q⟩ := q1
  cases r1 with
  | cons r rr =>
    cases rr with
    | cons r' rr =>
      cases rr
      cases r
      cases r'
      obtain ⟨its, _, p1⟩ := seqK I1 hx
      obtain ⟨its2, _, p2⟩ := seqK I1 hy
      obtain ⟨o1, B1, g1⟩ := beginK j a its.toArray
      obtain ⟨o2, B2, g2⟩ := beginK k b its2.toArray
      have N : ∀ n, FpOk X pins H1 (s1.heap.objs.size + n) := fun n => I1.fpOk (Nat.le_add_right _ _) (I1.hok.fresh (Nat.le_add_right _ _))
      refine zip_begins2 B1 B2 p1 p2 fun h' hz hTI hTO e1 e2 hsz hk => wpAny_pyIter_zip hz ?_
      have I2 : Inv X pins σ H1 { s1 with heap := h' } := I1.kept (t' := s1.toks) hk
      have ap : Ap (s1.heap.objs.size + 4) (s1.heap.objs.size + 2) (s1.heap.objs.size + 3) s1.heap.objs.size (s1.heap.objs.size + 1) := by
        unfold Ap
        refine ⟨?_, ?_, ?_, ?_, ?_, ?_, ?_, ?_, ?_, ?_⟩ <;> (intro z; have z' : (_ : Nat) = _ := z; omega)
      refine ⟨s1.heap.objs.size + 4, [s1.heap.objs.size + 4, s1.heap.objs.size + 2, s1.heap.objs.size + 3, s1.heap.objs.size, s1.heap.objs.size + 1], _, _, H1, rfl, I2, turnM (j := j) (k := k) (a := a) (b := b) ap, ⟨hz, hTI, ⟨_, _, hTO⟩, g1 _ _ e1, g2 _ _ e2⟩, fun c m => ?_, q⟩
      simp only [List.mem_cons, List.not_mem_nil, or_false] at m
      rcases m with rfl | rfl | rfl | rfl | rfl
      · exact N 4
      · exact N 2
      · exact N 3
      · exact N 0
      · exact N 1
theorem pi_zipMK {X : Cx} {K : PySem.W.Frag} (hK : X.K = K) {e e2 : Expr} {ta : TA} {p pos tpos : Pos} {elts : List Expr} {kk : Nat} (hg : Gl X "zip") (hm : X.mg "zip" = none) (ha : PA X [e, e2] ta)
    (hs : starEach [e, e2] X.env = (false, eval e X.env) :: starEach [e2] X.env := by rfl) (hpl : (backTo pos (starEach [e2] X.env)).any (·.1) = false := by rfl) :
    PI X (.Tuple elts kk tpos) (.Call (.Name "zip" p) [e, e2] [] pos) (iZipM K ta) := hK ▸ pi_zipM hg hm ha hs hpl
end Zm
set_option maxHeartbeats 1000000
namespace Dl
open PySem PySem.Spec PyProof.Rows L2 Lcn Sq
theorem ru64 {k : Nat} {A : Around} (hr : Room k A) : A.units + 64 < cLine := by have := hr.un; omega
theorem ru65 {k : Nat} {A : Around} (hr : Room k A) : A.units + 65 < cLine := by have := hr.un; omega
section
variable {ι : Type} {K : PySem.W.Frag} {X : ι → Cx} {z o : Bool} {pos p2 : Pos} {a b c e tg iter : Expr} {es : List Expr} {ea eb ec : EvE} {et : EvA}
/-- the things of a list or a tuple -/
def itemsD : Dt → Option (List Dt)
  | .lst ds => some ds
  | .tup ds => some ds
  | _ => none
theorem rep_items {av : Addr → Prop} {H : Hp} {v : V} {d : Dt} {ds : List Dt} (r : Rep K av H v d) (h : itemsD d = some ds) : ∃ k a xs, v = .ref a ∧ Zm.sqK k K H a xs ∧ RepL K av H xs ds ∧ (k = true ↔ d = .lst ds) := by
  cases d with
  | lst es =>
    cases h
    obtain ⟨a, xs, rfl, hx, lx⟩ := r.lst_inv
    exact ⟨true, a, xs, rfl, hx.sq, lx, by simp⟩
  | tup es =>
    cases h
    obtain ⟨a, xs, rfl, hx, lx⟩ := r.tup_inv
    exact ⟨false, a, xs, rfl, hx.sq, lx, by simp⟩
  | _ => cases h
theorem rep_itemsAt {av : Addr → Prop} {H : Hp} {a : Addr} {d : Dt} {ds : List Dt} {k : Bool} (r : Rep K av H (.ref a) d) (h : itemsD d = some ds) (hk : k = true ↔ d = .lst ds) : ∃ xs, Zm.sqK k K H a xs ∧ RepL K av H xs ds := by
  obtain ⟨k', a', xs, e, h1, h2, h3⟩ := rep_items r h
  cases e
  have : k = k' := by
    cases k <;> cases k' <;> simp_all
  subst this
  exact ⟨xs, h1, h2⟩
def pairD (xs ys : List Dt) : List Dt := (xs.zip ys).map fun p => .tup [p.1, p.2]
def ivZip (et : EvA) : EvA := fun δ Q => et δ fun ds => match ds with
  | [x, y] => ∃ xs ys, itemsD x = some xs ∧ itemsD y = some ys ∧ Q (pairD xs ys)
  | _ => False
theorem walkM {j k : Bool} {a b : Addr} {m n : Nat} : Walk (Zm.Itm K j k a b) (min m n) (fun H => ∃ xs ys, xs.length = m ∧ ys.length = n ∧ Zm.sqK j K H a xs ∧ Zm.sqK k K H b ys) (fun i H v H' => ∃ T x y, v = .ref T ∧ H T = none ∧ H' = upd H T (.tup [x, y]) ∧ (∀ xs, Zm.sqK j K H a xs → xs[i]? = some x) ∧ ∀ ys, Zm.sqK k K H b ys → ys[i]? = some y) :=
  ⟨fun i H hi ⟨xs, ys, l1, l2, h1, h2⟩ => ⟨xs, ys, h1, h2, by omega, by omega⟩, fun H ⟨xs, ys, l1, l2, h1, h2⟩ => ⟨xs, ys, h1, h2, by omega, by omega, by omega⟩, fun _ _ _ _ _ _ y => y⟩
theorem di_zip {elts : List Expr} {kk : Nat} {tpos p : Pos} (hg : ∀ i, Gl (X i) "zip") (hm : ∀ i, (X i).mg "zip" = none) (ha : DA true K X [a, b] et) (hs : ∀ i, starEach [a, b] (X i).env = (false, eval a (X i).env) :: starEach [b] (X i).env := by intro _; rfl) (hpl : ∀ i, (backTo pos (starEach [b] (X i).env)).any (·.1) = false := by intro _; rfl) (hK : ∀ i, (X i).K = K := by intro _; rfl) :
    DI o K X (.Tuple elts kk tpos) (.Call (.Name "zip" p) [a, b] [] pos) (ivZip et) := by
  obtain ⟨t, pa, v⟩ := ha
  refine ⟨_, fun i => Zm.pi_zipMK (hK i) (hg i) (hm i) (pa i) (hs i) (hpl i), fun C σ δ H R Qd k s e q => ?_⟩
  subst k
  refine v C σ δ H _ _ rfl s e fun vs ds H1 e1 r e => ?_
  split at e
  · rename_i x y
    obtain ⟨us, ws, hx, hy, e⟩ := e
    obtain ⟨vx, vy, rfl, rx, ry⟩ := repl2 r
    obtain ⟨j, a1, xs, rfl, g1, l1, k1⟩ := rep_items rx hx
    obtain ⟨k, a2, ys, rfl, g2, l2, k2⟩ := rep_items ry hy
    refine ⟨a1, a2, j, k, xs, ys, rfl, g1, g2, q _ _ _ _ (pairD us ws) H1 (fun _ => True) [(.ref a1, x), (.ref a2, y)] (walkM (m := us.length) (n := ws.length)) (by simp [pairD]) e1 (fun _ _ => trivial) (fun _ _ => trivial) (fun g m => ?_) ⟨fun av H al _ h => ?_, fun i d av H x' H' hd al _ h y' => ?_⟩ e⟩
    · rcases List.mem_cons.mp m with rfl | m
      · exact rx
      · rw [List.mem_singleton] at m
        rw [m]
        exact ry
    · obtain ⟨xs', g1', l1'⟩ := rep_itemsAt (h (.ref a1, x) (by simp)) hx k1
      obtain ⟨ys', g2', l2'⟩ := rep_itemsAt (h (.ref a2, y) (by simp)) hy k2
      exact ⟨xs', ys', l1'.l, l2'.l, g1', g2'⟩
    · obtain ⟨xs', g1', l1'⟩ := rep_itemsAt (h (.ref a1, x) (by simp)) hx k1
      obtain ⟨ys', g2', l2'⟩ := rep_itemsAt (h (.ref a2, y) (by simp)) hy k2
      obtain ⟨T, p, q', rfl, hT, rfl, e1', e2'⟩ := y'
      obtain ⟨d1, d2, hd1, hd2, rfl⟩ := pair_get hd
      exact ⟨same_new hT, rep_newT al hT (.cons (l1'.f i p d1 (e1' xs' g1') hd1) (.cons (l2'.f i q' d2 (e2' ys' g2') hd2) .nil))⟩
  · exact e.elim
/-- list(range(..)), tuple(range(..)) -/
def dRg1 (g : List Dt → Dt) (ea : EvE) : EvE := fun δ Q => ea δ fun d => match d with
  | .int n => -(2 ^ 62) ≤ n ∧ n < 2 ^ 62 ∧ n.toNat ≤ sizeLine ∧ Q (g (rngD 0 n.toNat))
  | _ => False
def dRg2 (g : List Dt → Dt) (ea eb : EvE) : EvE := fun δ Q => ea δ fun d => eb δ fun d' => match d, d' with
  | .int m, .int n => (-(2 ^ 62) ≤ m ∧ m < 2 ^ 62 ∧ -(2 ^ 62) ≤ n ∧ n < 2 ^ 62 ∧ (n - m).toNat ≤ sizeLine) ∧ Q (g (rngD m (n - m).toNat))
  | _, _ => False
end
end Dl
set_option maxHeartbeats 1000000
/-! reasoning over data -/
namespace Dl
open PySem PySem.Spec PyProof.Rows L2 Lcn Sq
theorem big1000 : (1000 : Nat) < sizeLine := by decide
theorem k1000 {n : Nat} (h : n < 1000) : n < sizeLine := Nat.lt_trans h big1000
theorem le1000 {n : Nat} (h : n ≤ 1000) : n ≤ sizeLine := Nat.le_trans h (Nat.le_of_lt big1000)
section
variable {α : Type} {gv : Dt → List Sl → (List Sl → Prop) → Prop} {tv : EvT} {ev : EvE} {vs : List Nat} {δ : List Sl} {Q : List Dt → Prop} {g : α → Dt}
/-- a comprehension whose turns are told -/
theorem lc_fm (p : α → Bool) (f : α → Dt) : ∀ (xs : List α) (acc : List Dt), (∀ x, x ∈ xs → ∀ (Q : Dt → Prop) (R : Prop), (p x = true → Q (f x)) → (p x = false → R) → gv (g x) (wipeS δ vs) fun δ2 => tv δ2 fun b => if b = true then ev δ2 Q else R) → Q (acc ++ (xs.filter p).map f) → dLc gv tv ev vs (xs.map g) acc δ Q
  | [], acc, _, q => by
    rw [List.filter_nil, List.map_nil, List.append_nil] at q
    exact q
  | x :: xs, acc, hs, q => by
    rw [List.map_cons]
    refine hs x (List.mem_cons_self ..) _ _ (fun e => ?_) (fun e => ?_)
    · refine lc_fm p f xs _ (fun y m => hs y (List.mem_cons_of_mem _ m)) ?_
      rw [List.filter_cons, if_pos e, List.map_cons] at q
      rw [List.append_assoc]
      exact q
    · refine lc_fm p f xs _ (fun y m => hs y (List.mem_cons_of_mem _ m)) ?_
      rw [List.filter_cons, if_neg (by rw [e]; exact Bool.false_ne_true)] at q
      exact q
theorem lc_map (f : α → Dt) (xs : List α) (hs : ∀ x, x ∈ xs → ∀ (Q : Dt → Prop), Q (f x) → gv (g x) (wipeS δ vs) fun δ2 => ev δ2 Q) (q : Q (xs.map f)) : dLc gv dYes ev vs (xs.map g) [] δ Q :=
  lc_fm (fun _ => true) f xs [] (fun x m Q R h _ => hs x m Q (h rfl)) (by rw [List.filter_eq_self.mpr fun _ _ => rfl]; exact q)
/-- a comprehension whose turns give some thing -/
theorem lc_some {β : Type} (h : β → Dt) (P : α → β → Prop) : ∀ (xs : List α) (acc : List Dt), (∀ x, x ∈ xs → ∀ (Q : Dt → Prop), (∀ z, P x z → Q (h z)) → gv (g x) (wipeS δ vs) fun δ2 => ev δ2 Q) → (∀ zs : List β, zs.length = xs.length → (∀ (i : Nat) (x : α) (z : β), xs[i]? = some x → zs[i]? = some z → P x z) → Q (acc ++ zs.map h)) → dLc gv dYes ev vs (xs.map g) acc δ Q
  | [], acc, _, q => by
    have := q [] rfl (fun i x z h => by cases i <;> cases h)
    rw [List.map_nil, List.append_nil] at this
    exact this
  | x :: xs, acc, hs, q => by
    rw [List.map_cons]
    refine hs x (List.mem_cons_self ..) _ fun z pz => ?_
    refine lc_some h P xs _ (fun y m => hs y (List.mem_cons_of_mem _ m)) fun zs l f => ?_
    have := q (z :: zs) (by rw [List.length_cons, List.length_cons, l]) (fun i y u h1 h2 => by
      cases i with
      | zero => cases h1; cases h2; exact pz
      | succ j => exact f j y u h1 h2)
    rw [List.map_cons] at this
    rw [List.append_assoc]
    exact this
/-- .. each of one kind -/
theorem lc_all {β : Type} (h : β → Dt) (P : β → Prop) (xs : List α) (hs : ∀ x, x ∈ xs → ∀ (Q : Dt → Prop), (∀ z, P z → Q (h z)) → gv (g x) (wipeS δ vs) fun δ2 => ev δ2 Q) (q : ∀ zs : List β, zs.length = xs.length → (∀ z, z ∈ zs → P z) → Q (zs.map h)) : dLc gv dYes ev vs (xs.map g) [] δ Q :=
  lc_some h (fun _ z => P z) xs [] hs fun zs l f => q zs l fun z m => by
    obtain ⟨i, hi⟩ := List.mem_iff_getElem?.mp m
    have : i < xs.length := by
      have := (List.getElem?_eq_some_iff.mp hi).1
      omega
    exact f i xs[i] z (List.getElem?_eq_getElem this) hi
/-! loops -/
variable {bv : EvS} {D : DEnds}
theorem for_inv {ds : List Dt} (I : Nat → List Sl → Prop) (h0 : I 0 δ) (hs : ∀ (i : Nat) (d : Dt) (δ : List Sl) (N : List Sl → Prop), ds[i]? = some d → I i δ → (∀ δ', I (i + 1) δ' → N δ') → gv d δ fun δ2 => bv { nx := N, rt := D.rt, bk := D.nx, ct := N } δ2) (hd : ∀ δ, I ds.length δ → D.nx δ) : dForL gv bv D ds δ := by
  have key : ∀ (r pre : List Dt) (δ : List Sl), pre ++ r = ds → I pre.length δ → dForL gv bv D r δ := by
    intro r
    induction r with
    | nil =>
      intro pre δ e h
      rw [List.append_nil] at e
      rw [← e] at hd
      exact hd δ h
    | cons d r ih =>
      intro pre δ e h
      refine hs pre.length d δ _ ?_ h fun δ' h' => ih (pre ++ [d]) δ' (by rw [List.append_assoc]; exact e) (by rw [List.length_append]; exact h')
      rw [← e, List.getElem?_append_right (Nat.le_refl _), Nat.sub_self]
      rfl
  exact key ds [] δ rfl h0
end
section
variable {α : Type} {gv : Dt → List Sl → (List Sl → Prop) → Prop} {bv : EvS} {D : DEnds} {g : α → Dt}
/-- a loop that leaves the def at the first thing of a kind -/
theorem for_find (I : List Sl → Prop) (p : α → Bool) (r : α → Dt) : ∀ (xs : List α) (δ : List Sl), I δ →
    (∀ x, x ∈ xs → ∀ (δ : List Sl) (N : List Sl → Prop), I δ → (p x = true → D.rt (r x)) → (p x = false → ∀ δ', I δ' → N δ') → gv (g x) δ fun δ2 => bv { nx := N, rt := D.rt, bk := D.nx, ct := N } δ2) →
    (∀ x, xs.find? p = some x → D.rt (r x)) → (xs.find? p = none → ∀ δ, I δ → D.nx δ) → dForL gv bv D (xs.map g) δ
  | [], δ, h, _, _, q => q rfl δ h
  | x :: xs, δ, h, hs, q1, q2 => by
    rw [List.map_cons]
    refine hs x (List.mem_cons_self ..) δ _ h (fun e => q1 x (by rw [List.find?_cons, e])) fun e δ' h' => ?_
    refine for_find I p r xs δ' h' (fun y m => hs y (List.mem_cons_of_mem _ m)) (fun y ey => q1 y ?_) fun en => q2 ?_
    · rw [List.find?_cons, e]
      exact ey
    · rw [List.find?_cons, e]
      exact en
/-- .. at the first thing that gives one -/
theorem for_some {β : Type} (I : List Sl → Prop) (p : α → Option β) (r : β → Dt) : ∀ (xs : List α) (δ : List Sl), I δ →
    (∀ x, x ∈ xs → ∀ (δ : List Sl) (N : List Sl → Prop), I δ → (∀ y, p x = some y → D.rt (r y)) → (p x = none → ∀ δ', I δ' → N δ') → gv (g x) δ fun δ2 => bv { nx := N, rt := D.rt, bk := D.nx, ct := N } δ2) →
    (∀ y, xs.findSome? p = some y → D.rt (r y)) → (xs.findSome? p = none → ∀ δ, I δ → D.nx δ) → dForL gv bv D (xs.map g) δ
  | [], δ, h, _, _, q => q rfl δ h
  | x :: xs, δ, h, hs, q1, q2 => by
    rw [List.map_cons]
    refine hs x (List.mem_cons_self ..) δ _ h (fun y e => q1 y (by rw [List.findSome?_cons, e])) fun e δ' h' => ?_
    refine for_some I p r xs δ' h' (fun y m => hs y (List.mem_cons_of_mem _ m)) (fun y ey => q1 y ?_) fun en => q2 ?_
    · rw [List.findSome?_cons, e]
      exact ey
    · rw [List.findSome?_cons, e]
      exact en
end
theorem rngD_get {lo : Int} {n i : Nat} {d : Dt} (h : (rngD lo n)[i]? = some d) : i < n ∧ d = .int (lo + (i : Int)) := by
  unfold rngD at h
  rw [List.getElem?_map] at h
  obtain ⟨j, h1, h2⟩ := Option.map_eq_some_iff.mp h
  have hi : i < (List.range n).length := (List.getElem?_eq_some_iff.mp h1).1
  have : j = i := by
    have := (List.getElem?_eq_some_iff.mp h1).2
    simpa using this.symm
  subst this
  exact ⟨by simpa using hi, h2.symm⟩
theorem rngD_len {lo : Int} {n : Nat} : (rngD lo n).length = n := by simp [rngD]
theorem atI_map {α β : Type} {f : α → β} {xs : List α} {i : Int} {x : α} (h : atI xs i = some x) : atI (xs.map f) i = some (f x) := by
  unfold atI at h ⊢
  rw [List.length_map]
  cases e : ixN xs.length i with
  | none => rw [e] at h; cases h
  | some j =>
    rw [e] at h
    have h : xs[j]? = some x := h
    show (xs.map f)[j]? = some (f x)
    rw [List.getElem?_map, h]
    rfl
theorem atI_lt {α : Type} {xs : List α} {i : Int} (h0 : 0 ≤ i) (h1 : i < xs.length) : atI xs i = some (xs[i.toNat]'(by omega)) := by
  obtain ⟨j, rfl⟩ : ∃ j : Nat, i = (j : Int) := ⟨i.toNat, by omega⟩
  exact atI_nat (by
    have : (j : Int).toNat = j := by omega
    simp [this])
theorem pairD_map {α β : Type} {f : α → Dt} {g : β → Dt} (xs : List α) (ys : List β) : pairD (xs.map f) (ys.map g) = (xs.zip ys).map fun p => .tup [f p.1, g p.2] := by
  unfold pairD
  rw [List.zip_map, List.map_map]
  rfl
/-! equality of plain data -/
mutual
theorem eqv_same : ∀ d : Dt, okD d = true → eqD d d = true
  | d, h => SeqAt.eqv_refl (py d) (lay_py d h)
end
end Dl
set_option maxHeartbeats 1000000
/-! own dicts -/
namespace Dl
open PySem PySem.Spec PyProof.Rows L2 Lcn Sq
def kyD : Dt → Option Key
  | .int i => some (.inl i)
  | .str s => some (.inr s)
  | _ => none
def kysD : List Dt → Option (List Key)
  | [] => some []
  | d :: r => (kyD d).bind fun k => (kysD r).map fun ks => k :: ks
section
variable {κ : Type} [DecidableEq κ]
def valD (es : List (κ × Dt)) (k : κ) : Option Dt := (es.find? fun e => decide (e.1 = k)).map (·.2)
def putD (es : List (κ × Dt)) (k : κ) (d : Dt) : List (κ × Dt) := if (es.any fun e => decide (e.1 = k)) = true then es.map (fun e => if e.1 = k then (e.1, d) else e) else es ++ [(k, d)]
variable {K : PySem.W.Frag} {av : Addr → Prop} {H : Hp}
/-- entries one by one -/
def RepE (K : PySem.W.Frag) (av : Addr → Prop) (H : Hp) (kvs : List (κ × V)) (es : List (κ × Dt)) : Prop := kvs.map Prod.fst = es.map Prod.fst ∧ RepL K av H (kvs.map Prod.snd) (es.map Prod.snd)
theorem repE_cons {p : κ × V} {e : κ × Dt} {kvs : List (κ × V)} {es : List (κ × Dt)} (h : RepE K av H (p :: kvs) (e :: es)) : p.1 = e.1 ∧ Rep K av H p.2 e.2 ∧ RepE K av H kvs es := by
  obtain ⟨h1, h2⟩ := h
  rw [List.map_cons, List.map_cons] at h1 h2
  injection h1 with h1 h3
  exact ⟨h1, h2.head.1, h3, h2.head.2⟩
theorem repE_mk {p : κ × V} {e : κ × Dt} {kvs : List (κ × V)} {es : List (κ × Dt)} (h : p.1 = e.1) (r : Rep K av H p.2 e.2) (t : RepE K av H kvs es) : RepE K av H (p :: kvs) (e :: es) :=
  ⟨by rw [List.map_cons, List.map_cons, h, t.1], by rw [List.map_cons, List.map_cons]; exact .cons r t.2⟩
theorem repE_nil : RepE K av H ([] : List (κ × V)) [] := ⟨rfl, .nil⟩
theorem repE_val (k : κ) : ∀ {kvs : List (κ × V)} {es : List (κ × Dt)}, RepE K av H kvs es → (valD es k = none ∧ valV kvs k = none) ∨ ∃ d v, valD es k = some d ∧ valV kvs k = some v ∧ Rep K av H v d
  | [], [], _ => .inl ⟨rfl, rfl⟩
  | [], _ :: _, h => by have := h.1; simp at this
  | _ :: _, [], h => by have := h.1; simp at this
  | p :: kvs, e :: es, h => by
    obtain ⟨h1, h2, h3⟩ := repE_cons h
    by_cases he : e.1 = k
    · refine .inr ⟨e.2, p.2, ?_, ?_, h2⟩
      · simp [valD, List.find?_cons, he]
      · simp [valV, List.find?_cons, h1, he]
    · rcases repE_val k h3 with ⟨a, b⟩ | ⟨d, v, a, b, c⟩
      · refine .inl ⟨?_, ?_⟩
        · simpa [valD, List.find?_cons, he] using a
        · simpa [valV, List.find?_cons, h1, he] using b
      · refine .inr ⟨d, v, ?_, ?_, c⟩
        · simpa [valD, List.find?_cons, he] using a
        · simpa [valV, List.find?_cons, h1, he] using b
theorem repE_any (k : κ) : ∀ {kvs : List (κ × V)} {es : List (κ × Dt)}, RepE K av H kvs es → (kvs.any fun e => decide (e.1 = k)) = es.any fun e => decide (e.1 = k)
  | [], [], _ => rfl
  | [], _ :: _, h => by have := h.1; simp at this
  | _ :: _, [], h => by have := h.1; simp at this
  | p :: kvs, e :: es, h => by
    obtain ⟨h1, h2, h3⟩ := repE_cons h
    rw [List.any_cons, List.any_cons, repE_any k h3, h1]
theorem repE_map (k : κ) {v : V} {d : Dt} (r : Rep K av H v d) : ∀ {kvs : List (κ × V)} {es : List (κ × Dt)}, RepE K av H kvs es → RepE K av H (kvs.map fun e => if e.1 = k then (e.1, v) else e) (es.map fun e => if e.1 = k then (e.1, d) else e)
  | [], [], h => h
  | [], _ :: _, h => by have := h.1; simp at this
  | _ :: _, [], h => by have := h.1; simp at this
  | p :: kvs, e :: es, h => by
    obtain ⟨h1, h2, h3⟩ := repE_cons h
    rw [List.map_cons, List.map_cons]
    refine repE_mk ?_ ?_ (repE_map k r h3)
    · rw [h1]
      split <;> simp [h1]
    · rw [h1]
      split
      · exact r
      · exact h2
theorem repE_snoc {k : κ} {v : V} {d : Dt} (r : Rep K av H v d) {kvs : List (κ × V)} {es : List (κ × Dt)} (h : RepE K av H kvs es) : RepE K av H (kvs ++ [(k, v)]) (es ++ [(k, d)]) := by
  refine ⟨by simp [h.1], ?_⟩
  rw [List.map_append, List.map_append]
  exact h.2.append (.cons r .nil)
theorem repE_put {k : κ} {v : V} {d : Dt} (r : Rep K av H v d) {kvs : List (κ × V)} {es : List (κ × Dt)} (h : RepE K av H kvs es) : RepE K av H (putK kvs k v) (putD es k d) := by
  unfold putK putD
  rw [repE_any k h]
  split
  · exact repE_map k r h
  · exact repE_snoc r h
theorem repE_len {kvs : List (κ × V)} {es : List (κ × Dt)} (h : RepE K av H kvs es) : kvs.length = es.length := by
  have := congrArg List.length h.1
  simpa using this
theorem putD_new {es : List (κ × Dt)} {k : κ} {d : Dt} (h : ∀ e, e ∈ es → e.1 ≠ k) : putD es k d = es ++ [(k, d)] := by
  unfold putD
  rw [if_neg]
  intro z
  obtain ⟨e, m, q⟩ := List.any_eq_true.mp z
  exact h e m (of_decide_eq_true q)
theorem valD_none {es : List (κ × Dt)} {k : κ} : valD es k = none ↔ ∀ e, e ∈ es → e.1 ≠ k := by
  unfold valD
  rw [Option.map_eq_none_iff, List.find?_eq_none]
  simp
end
/-- a look into an own dict; a store -/
def lookO : Oc → Dt → Option (Option Dt)
  | .t es, .tup ks => (kysD ks).map (valD es)
  | .k es, d => (kyD d).map (valD es)
  | _, _ => none
def putO : Oc → Dt → Dt → Option Oc
  | .t es, .tup ks, d => (kysD ks).map fun k => .t (putD es k d)
  | .k es, y, d => (kyD y).map fun k => .k (putD es k d)
  | _, _, _ => none
def lenO : Oc → Nat
  | .t es => es.length
  | .k es => es.length
  | .l ds => ds.length
section
variable {K : PySem.W.Frag} {av : Addr → Prop} {H : Hp}
theorem rep_ky {v : V} {d : Dt} {k : Key} (r : Rep K av H v d) (h : kyD d = some k) : v = kV k := by
  cases r with
  | int i => cases h; rfl
  | str s => cases h; rfl
  | _ => cases h
theorem rep_kys : ∀ {xs : List V} {ds : List Dt} {k : List Key}, RepL K av H xs ds → kysD ds = some k → xs = k.map kV
  | [], [], k, _, h => by cases h; rfl
  | [], _ :: _, _, r, _ => by have := r.l; simp at this
  | _ :: _, [], _, r, _ => by have := r.l; simp at this
  | x :: xs, d :: ds, k, r, h => by
    unfold kysD at h
    cases hk : kyD d with
    | none => rw [hk] at h; cases h
    | some k0 =>
      rw [hk] at h
      cases hr : kysD ds with
      | none => rw [hr] at h; cases h
      | some kr =>
        rw [hr] at h
        cases h
        rw [List.map_cons, ← rep_ky r.head.1 hk, ← rep_kys r.head.2 hr]
/-- what a look finds -/
def Fnd (K : PySem.W.Frag) (av : Addr → Prop) (H : Hp) (o : Option V) : Option Dt → Prop
  | none => o = none
  | some d => ∃ v, o = some v ∧ Rep K av H v d
theorem look_ok {a : Addr} {u : HO} {c : Oc} {y : V} {dy : Dt} {r : Option Dt} (hu : H a = some u) (hc : ORep K av H u c) (hy : Rep K av H y dy) (h : lookO c dy = some r) : ∃ o, DGet H a y o ∧ Fnd K av H o r := by
  cases c with
  | l ds => cases dy <;> cases h
  | t es =>
    obtain ⟨kvs, rfl, e1, e2⟩ := hc.dt
    cases dy with
    | tup ks =>
      obtain ⟨b, xs, rfl, hb, lx⟩ := hy.tup_inv
      have h : (kysD ks).map (valD es) = some r := h
      cases hk : kysD ks with
      | none => rw [hk] at h; cases h
      | some k =>
        rw [hk] at h
        cases h
        have hb2 := hb.2
        rw [rep_kys lx hk] at hb2
        refine ⟨_, DGet.t hu hb2, ?_⟩
        rcases repE_val k (⟨e1, e2⟩ : RepE K av H kvs es) with ⟨p, q⟩ | ⟨d, v, p, q, r⟩
        · rw [p, q]
          exact rfl
        · rw [p, q]
          exact ⟨v, rfl, r⟩
    | _ => cases h
  | k es =>
    obtain ⟨kvs, rfl, e1, e2⟩ := hc.dk
    have h' : (kyD dy).map (valD es) = some r := by cases dy <;> exact h
    cases hk : kyD dy with
    | none => rw [hk] at h'; cases h'
    | some k =>
      rw [hk] at h'
      cases h'
      rw [rep_ky hy hk]
      refine ⟨_, DGet.k hu, ?_⟩
      rcases repE_val k (⟨e1, e2⟩ : RepE K av H kvs es) with ⟨p, q⟩ | ⟨d, v, p, q, r⟩
      · rw [p, q]
        exact rfl
      · rw [p, q]
        exact ⟨v, rfl, r⟩
theorem put_ok {a : Addr} {u : HO} {c c' : Oc} {y v : V} {dy d : Dt} (hu : H a = some u) (hc : ORep K av H u c) (hy : Rep K av H y dy) (hv : Rep K av H v d) (h : putO c dy d = some c') (hl : lenO c < sizeLine) : ∃ u', DPut H a y v (upd H a u') ∧ ORep K av H u' c' := by
  cases c with
  | l ds => cases dy <;> cases h
  | t es =>
    obtain ⟨kvs, rfl, e1, e2⟩ := hc.dt
    cases dy with
    | tup ks =>
      obtain ⟨b, xs, rfl, hb, lx⟩ := hy.tup_inv
      have h : ((kysD ks).map fun k => Oc.t (putD es k d)) = some c' := h
      cases hk : kysD ks with
      | none => rw [hk] at h; cases h
      | some k =>
        rw [hk] at h
        cases h
        have hb2 := hb.2
        rw [rep_kys lx hk] at hb2
        exact ⟨_, DPut.t hu hb2 (by rw [repE_len (⟨e1, e2⟩ : RepE K av H kvs es)]; exact hl), repE_put hv (⟨e1, e2⟩ : RepE K av H kvs es)⟩
    | _ => cases h
  | k es =>
    obtain ⟨kvs, rfl, e1, e2⟩ := hc.dk
    have h' : (kyD dy).map (fun k => Oc.k (putD es k d)) = some c' := by cases dy <;> exact h
    cases hk : kyD dy with
    | none => rw [hk] at h'; cases h'
    | some k =>
      rw [hk] at h'
      cases h'
      rw [rep_ky hy hk]
      exact ⟨_, DPut.k hu (by rw [repE_len (⟨e1, e2⟩ : RepE K av H kvs es)]; exact hl), repE_put hv (⟨e1, e2⟩ : RepE K av H kvs es)⟩
end
section
variable {ι : Type} {K : PySem.W.Frag} {X : ι → Cx} {z : Bool} {pos pos' p2 : Pos} {a b c e f : Expr} {ea eb : EvE}
theorem Sok.ownAt {C : Ctx} {H : Hp} {σ : L2.St} {δ : List Sl} (s : Sok C H σ δ) {i : Nat} {a : Addr} {c : Oc} (h : δ[i]? = some (.own a c)) : σ[i]? = some (some (.ref a)) ∧ ∃ u, H a = some u ∧ ORep C.K (Zd C δ) H u c := by
  obtain ⟨h1, _, _, u, h5, h6⟩ := s.sl i _ h
  exact ⟨h1, u, h5, h6⟩
/-- name = {} -/
theorem ds_dnew {i : Nat} {x : Str} (t : Bool) (hp : ∀ {te : TE} j, PE (X j) e te → PS (X j) (.Assign [.Name x pos'] e pos) (tAsg te (gName i))) (he : ∀ j, PE (X j) e (if t = true then tDNewT else tDNewK)) : DS K X (.Assign [.Name x pos'] e pos) (fun D δ => ∀ a, D.nx (δ.set i (.own a (if t = true then .t [] else .k [])))) := by
  refine ⟨_, fun j => hp j (he j), fun C σ δ H D Dd k s e q => ?_⟩
  subst k
  cases t
  · exact fun p hp => q.nx _ _ _ (s.setO (xs := .dK []) (ds := .k []) hp (Stp.new hp) upd_same ⟨rfl, .nil⟩) (e p)
  · exact fun p hp => q.nx _ _ _ (s.setO (xs := .dT []) (ds := .t []) hp (Stp.new hp) upd_same ⟨rfl, .nil⟩) (e p)
def dDIn (neg : Bool) (i : Nat) (ea : EvE) : EvE := fun δ Q => ea δ fun y => match δ[i]? with
  | some (.own _ c) => ∃ r, lookO c y = some r ∧ Q (.bl (if neg then !r.isSome else r.isSome))
  | _ => False
theorem fnd_some {av : Addr → Prop} {H : Hp} {o : Option V} {r : Option Dt} (h : Fnd K av H o r) : o.isSome = r.isSome := by
  cases r with
  | none => rw [show o = none from h]; rfl
  | some d =>
    obtain ⟨v, rfl, _⟩ := h
    rfl
theorem ve_din {ty : TE} {i : Nat} (v : VE true K ty ea) : VE z K (tDIn ty (tVar i)) (dDIn false i ea) := by
  intro C σ δ H Q Qd k s e q
  subst k
  refine v C σ δ H _ _ rfl s e fun y dy H1 e1 r1 e => ?_
  split at e
  · rename_i a c h
    obtain ⟨r, hr, e⟩ := e
    obtain ⟨h1, u, h5, h6⟩ := (s.step e1).ownAt h
    obtain ⟨o, g, fn⟩ := look_ok h5 h6 r1 hr
    exact ⟨.ref a, h1, a, o, rfl, g, q _ _ H1 e1 (.bl _) (by rw [fnd_some fn]; exact e)⟩
  · exact e.elim
theorem ve_dnotin {ty : TE} {i : Nat} (v : VE true K ty ea) : VE z K (tDNotIn ty (tVar i)) (dDIn true i ea) := by
  intro C σ δ H Q Qd k s e q
  subst k
  refine v C σ δ H _ _ rfl s e fun y dy H1 e1 r1 e => ?_
  split at e
  · rename_i a c h
    obtain ⟨r, hr, e⟩ := e
    obtain ⟨h1, u, h5, h6⟩ := (s.step e1).ownAt h
    obtain ⟨o, g, fn⟩ := look_ok h5 h6 r1 hr
    exact ⟨.ref a, h1, a, o, rfl, g, q _ _ H1 e1 (.bl _) (by rw [fnd_some fn]; exact e)⟩
  · exact e.elim
theorem dt_din {i : Nat} {x : Str} (p : ∀ j, PE (X j) (.Name x p2) (tVar i)) (ha : DE true K X a ea) (hu : ∀ j, (X j).A.units + 1 < cLine) : DT K X (.Compare a [.In] [.Name x p2] pos) (dTst (dDIn false i ea)) := by
  obtain ⟨t, pa, v⟩ := ha
  exact ⟨_, fun j => pt_cmp (pc_din (hu j) (pa j) (p j)) (by rfl), vt_b (ve_din (z := false) v)⟩
theorem dt_dnotin {i : Nat} {x : Str} (p : ∀ j, PE (X j) (.Name x p2) (tVar i)) (ha : DE true K X a ea) (hu : ∀ j, (X j).A.units + 1 < cLine) : DT K X (.Compare a [.NotIn] [.Name x p2] pos) (dTst (dDIn true i ea)) := by
  obtain ⟨t, pa, v⟩ := ha
  exact ⟨_, fun j => pt_cmp (pc_dnotin (hu j) (pa j) (p j)) (by rfl), vt_b (ve_dnotin (z := false) v)⟩
theorem de_din {i : Nat} {x : Str} (p : ∀ j, PE (X j) (.Name x p2) (tVar i)) (ha : DE true K X a ea) (hu : ∀ j, (X j).A.units + 1 < cLine) : DE z K X (.Compare a [.In] [.Name x p2] pos) (dDIn false i ea) := by
  obtain ⟨t, pa, v⟩ := ha
  exact ⟨_, fun j => pe_cmp (pc_din (hu j) (pa j) (p j)) (by rfl), ve_din v⟩
theorem de_dnotin {i : Nat} {x : Str} (p : ∀ j, PE (X j) (.Name x p2) (tVar i)) (ha : DE true K X a ea) (hu : ∀ j, (X j).A.units + 1 < cLine) : DE z K X (.Compare a [.NotIn] [.Name x p2] pos) (dDIn true i ea) := by
  obtain ⟨t, pa, v⟩ := ha
  exact ⟨_, fun j => pe_cmp (pc_dnotin (hu j) (pa j) (p j)) (by rfl), ve_dnotin v⟩
/-- d[y] -/
def dDGet (i : Nat) (ea : EvE) : EvE := fun δ Q => match δ[i]? with
  | some (.own _ c) => ea δ fun y => ∃ d, lookO c y = some (some d) ∧ Q d
  | _ => False
theorem de_dget {i : Nat} {x : Str} (p : ∀ j, PE (X j) (.Name x p2) (tVar i)) (ha : DE true K X a ea) (hs : NoSl a) (hu : ∀ j, (X j).A.units + 1 < cLine) : DE true K X (.Subscript (.Name x p2) a pos) (dDGet i ea) := by
  obtain ⟨t, pa, v⟩ := ha
  refine ⟨_, fun j => pe_dget (hu j) (p j) (pa j) hs, fun C σ δ H Q Qd k s e q => ?_⟩
  subst k
  unfold dDGet at e
  split at e
  · rename_i a c h
    refine ⟨.ref a, (s.ownAt h).1, v C σ δ H _ _ rfl s e fun y dy H1 e1 r1 e => ?_⟩
    obtain ⟨d, hr, e⟩ := e
    obtain ⟨h1, u, h5, h6⟩ := (s.step e1).ownAt h
    obtain ⟨o, g, w, rfl, rw'⟩ := look_ok h5 h6 r1 hr
    exact ⟨a, w, rfl, g, q _ _ H1 e1 rw' e⟩
  · exact e.elim
/-- d[y] = v -/
def dDPut (i : Nat) (eb ea : EvE) : EvS := fun D δ => ea δ fun d => match δ[i]? with
  | some (.own a c) => eb δ fun y => ∃ c', putO c y d = some c' ∧ lenO c < sizeLine ∧ D.nx (δ.set i (.own a c'))
  | _ => False
theorem ds_dput {i : Nat} {x : Str} (p : ∀ j, PE (X j) (.Name x p2) (tVar i)) (hv : DE true K X e ea) (hb : DE true K X b eb) (hu : ∀ j, (X j).A.units + 1 < cLine) (hs : ∀ j, swapsWith e (some (.Subscript (.Name x p2) b pos')) pos.line (X j).env = pure false := by intro _; rfl) : DS K X (.Assign [.Subscript (.Name x p2) b pos'] e pos) (dDPut i eb ea) := by
  obtain ⟨t, pa, v⟩ := hv
  obtain ⟨t2, pb, v2⟩ := hb
  refine ⟨_, fun j => ps_dput (hu j) (p j) (pb j) (pa j) (hs j), fun C σ δ H D Dd k s e q => ?_⟩
  subst k
  refine v C σ δ H _ _ rfl s e fun w d H1 e1 r1 e => ?_
  split at e
  · rename_i a c h
    have s1 := s.step e1
    refine ⟨.ref a, (s1.ownAt h).1, v2 C σ δ H1 _ _ rfl s1 e fun y dy H2 e2 r2 e => ?_⟩
    obtain ⟨c', hc, hl, e⟩ := e
    have s2 := s1.step e2
    obtain ⟨h1, u, h5, h6⟩ := s2.ownAt h
    obtain ⟨u', dp, rp⟩ := put_ok h5 h6 r2 (rep_step s1 e2 r1) hc hl
    exact ⟨a, _, rfl, dp, q.nx _ _ _ (s2.upO h rp) e⟩
  · exact e.elim
/-- d.get(y, x) -/
def dDGet2 (i : Nat) (ea eb : EvE) : EvE := fun δ Q => match δ[i]? with
  | some (.own _ c) => ea δ fun y => eb δ fun w => ∃ r, lookO c y = some r ∧ Q (r.getD w)
  | _ => False
end
end Dl
set_option maxHeartbeats 1000000
/-! max(x, default=i), of ints; a range by steps -/
namespace Dl
open PySem PySem.Spec PyProof.Rows L2 Lcn Sq
def maxOr (ns : List Int) (i : Int) : Int := match ns with
  | [] => i
  | n :: r => r.foldl max n
def rMaxDef (K : PySem.W.Frag) : List V → List V → Hp → VK → Prop := fun vs zs H Q => ∃ a k ns i, vs = [.ref a] ∧ Zm.sqK k K H a (ns.map V.int) ∧ zs = [.int i] ∧ Q (.int (maxOr ns i)) H
theorem dp_ints {K : PySem.W.Frag} {H : Hp} : ∀ ns : List Int, DpAll K H (ns.map V.int) (ns.map PyData.int)
  | [] => .nil
  | n :: ns => .cons (.int n) (dp_ints ns)
theorem alike_ints (ns : List Int) : PySem.W.AlikeAll (ns.map PyData.int) := by
  refine ⟨fun x hx y hy => ?_, fun x hx => ?_⟩
  · obtain ⟨i, _, rfl⟩ := List.mem_map.mp hx
    obtain ⟨j, _, rfl⟩ := List.mem_map.mp hy
    rfl
  · obtain ⟨i, _, rfl⟩ := List.mem_map.mp hx
    exact fun z => nomatch z
theorem depth_ints : ∀ ns : List Int, PyData.depthAll (ns.map PyData.int) = 0
  | [] => by simp [PyData.depthAll]
  | n :: ns => by
    rw [List.map_cons, PyData.depthAll, depth_ints ns]
    simp [PyData.depth]
theorem max_fin {h' : Heap} {ns : List Int} {its : List Value} {n : Int} {r : List Int} {i : Nat} {v : Value} {bs : List Addr} (e : ns = n :: r) (rv : Vals (ns.map V.int) its) (hv : its.toArray[i]? = some v) (hr : Reads h' v (PySem.W.maxD (.int n) (r.map .int)) bs) : RelV (.int (maxOr ns 0)) v := by
  rw [PySem.W.maxD_ints] at hr
  have hv' : its[i]? = some v := by simpa using hv
  have : ∃ k t, v = .int k t := by
    have hi : i < its.length := (List.getElem?_eq_some_iff.mp hv').1
    have hl := rv.length
    have hx : (ns.map V.int)[i]? = some (V.int (ns[i]'(by rw [List.length_map] at hl; omega))) := by
      have : i < ns.length := by rw [List.length_map] at hl; omega
      simp [List.getElem?_map, this]
    obtain ⟨u, e1, r1⟩ := rv.get hx
    rw [hv'] at e1
    cases e1
    obtain ⟨t, rfl⟩ := r1
    exact ⟨_, t, rfl⟩
  obtain ⟨k, t, rfl⟩ := this
  cases hr
  subst e
  exact ⟨t, rfl⟩
theorem cr_maxDef {X : Cx} {K : PySem.W.Frag} (hc : X.calm = true) (hK : X.K = K) (hu : X.A.units + 1 < cLine) : CallRK X (.builtin "max") ["default"] (rMaxDef K) := by
  intro pins s σ H xs zs us ws Q I rx rz h
  subst hK
  obtain ⟨a, k, ns, i, rfl, hq, rfl, q⟩ := h
  rw [Vals.ref1 rx]
  cases rz with
  | cons r1 r2 =>
    cases r2
    obtain ⟨t, rfl⟩ := r1
    have fin : ∀ h' tk v, (∀ b o, s.heap.get? b = some o → h'.get? b = some o) → RelV (.int (maxOr ns i)) v → EP X pins σ Q v { s with heap := h', toks := tk } := fun h' tk v k r => ⟨_, H, I.kept (t' := tk) k, r, q⟩
    have same : ∀ y ys, ns.map PyData.int = y :: ys → ∃ n r, ns = n :: r ∧ y = .int n ∧ ys = r.map .int := fun y ys e => by
      cases ns with
      | nil => cases e
      | cons n r =>
        cases e
        exact ⟨n, r, rfl, rfl, rfl⟩
    have mo : ∀ n r, ns = n :: r → maxOr ns i = maxOr ns 0 := fun n r e => by rw [e]; rfl
    cases k
    · obtain ⟨its, rv, p, _⟩ := I.tuple hq
      obtain ⟨as, hr⟩ := Dp.readsAll I (ns.map .int) (ns.map V.int) its (dp_ints ns) rv
      refine PySem.W.max_tuple_default (vs := its.toArray) (xs := ns.map .int) (I.ok.hd hc) p hr (alike_ints ns) (by rw [depth_ints]; omega) (fun e h' tk k => fin h' tk _ k ?_) (fun y ys j v h' tk bs e hv hr k => fin h' tk v k ?_)
      · cases ns with
        | nil => exact ⟨t, rfl⟩
        | cons => cases e
      · obtain ⟨n, r, e1, rfl, rfl⟩ := same y ys e
        rw [mo n r e1]
        exact max_fin e1 rv hv hr
    · obtain ⟨its, rv, p, _⟩ := I.list hq
      obtain ⟨as, hr⟩ := Dp.readsAll I (ns.map .int) (ns.map V.int) its (dp_ints ns) rv
      refine PySem.W.max_list_default (vs := its.toArray) (xs := ns.map .int) (I.ok.hd hc) p.isList hr (alike_ints ns) (by rw [depth_ints]; omega) (fun e h' tk k => fin h' tk _ k ?_) (fun y ys j v h' tk bs e hv hr k => fin h' tk v k ?_)
      · cases ns with
        | nil => exact ⟨t, rfl⟩
        | cons => cases e
      · obtain ⟨n, r, e1, rfl, rfl⟩ := same y ys e
        rw [mo n r e1]
        exact max_fin e1 rv hv hr
section
variable {ι : Type} {K : PySem.W.Frag} {X : ι → Cx} {z o : Bool} {pos p2 kpos : Pos} {a b c e tg iter : Expr} {es : List Expr} {ea eb ec : EvE} {et : EvA}
def dMaxDef (ea eb : EvE) : EvE := fun δ Q => ea δ fun x => eb δ fun y => ∃ ns i, itemsD x = some (ns.map .int) ∧ y = .int i ∧ Q (.int (maxOr ns i))
theorem de_maxDef {p : Pos} {nm : Option Str} (ha : DE z K X a ea) (hb : DE z K X b eb) (hg : ∀ i, Gl (X i) "max") (hm : ∀ i, (X i).mg "max" = none) (hu : ∀ i, (X i).A.units + 1 < cLine) (hc : ∀ i, (X i).calm = true := by intro _; rfl) (hK : ∀ i, (X i).K = K := by intro _; rfl)
    (hs : ∀ i, starEach [a] (X i).env = (false, eval a (X i).env) :: starEach [] (X i).env := by intro _; rfl) (he : ∀ i, backTo pos (starEach [a] (X i).env) = (false, eval a (X i).env) :: backTo pos (starEach [] (X i).env) := by intro _; rfl) (hpl : ∀ i, (backTo pos (starEach [a] (X i).env)).any (·.1) = false := by intro _; rfl)
    (hall : ∀ i, (backToKw pos (keywordEach [⟨nm, b, kpos⟩] (X i).env)).all (·.1.isSome) = true := by intro _; rfl) (hnone : ∀ i, (backToKw pos (keywordEach [⟨nm, b, kpos⟩] (X i).env)).any (·.1.isNone) = false := by intro _; rfl) (hks : ∀ i, (backToKw pos (keywordEach [⟨nm, b, kpos⟩] (X i).env)).filterMap (·.1) = [("default" : Str)] := by intro _; rfl) :
    DE z K X (.Call (.Name "max" p) [a] [⟨nm, b, kpos⟩] pos) (dMaxDef ea eb) := by
  obtain ⟨ta, pa, va⟩ := ha
  obtain ⟨tb, pb, vb⟩ := hb
  refine ⟨_, fun i => pe_callBK (cr_maxDef (hc i) (hK i) (hu i)) (hg i) (hm i) (by decide +kernel) (pa_cons (pa i) pa_nil (hs i)) (pk_cons (pb i) pk_nil) (he := he i) (hpl := hpl i) (hall := hall i) (hnone := hnone i) (hks := hks i), fun C σ δ H Q Qd k s e q => ?_⟩
  subst k
  refine va C σ δ H _ _ rfl s e fun x dx H1 e1 r1 e => ?_
  refine vb C σ δ H1 _ _ rfl (s.step e1) e fun y dy H2 e2 r2 e => ?_
  obtain ⟨ns, i, hx, rfl, e⟩ := e
  obtain ⟨kk, a', xs, rfl, g1, l1, k1⟩ := rep_items (rep_st (s.step e1) e2 r1) hx
  rw [repl_ints l1] at g1
  exact ⟨a', kk, ns, i, rfl, g1, by rw [r2.int_inv], q _ _ H2 (e1.trans e2) (.int _) e⟩
/-- range(i, j, c) -/
def rngC (lo c : Int) (n : Nat) : List Dt := (List.range n).map fun (i : Nat) => Dt.int (lo + (i : Int) * c)
def ivR3 (et : EvA) : EvA := fun δ Q => et δ fun ds => match ds with
  | [.int i, .int j, .int c] => ∃ n, RgC i j c n ∧ Q (rngC i c n)
  | _ => False
theorem di_range3 {p : Pos} (hg : ∀ i, Gl (X i) "range") (hm : ∀ i, (X i).mg "range" = none) (ha : DA false K X [a, b, c] et) (hs : ∀ i, starEach [a, b, c] (X i).env = (false, eval a (X i).env) :: starEach [b, c] (X i).env := by intro _; rfl) (hpl : ∀ i, (backTo pos (starEach [b, c] (X i).env)).any (·.1) = false := by intro _; rfl) : DI o K X tg (.Call (.Name "range" p) [a, b, c] [] pos) (ivR3 et) := by
  obtain ⟨t, pa, v⟩ := ha
  refine ⟨_, fun i => pi_range3 (hg i) (hm i) (pa i) (hs i) (hpl i), fun C σ δ H R Qd k s e q => ?_⟩
  refine v C σ δ H _ _ k s e fun vs ds H1 e1 r e => ?_
  split at e
  · rename_i i j c
    obtain ⟨n, hr, e⟩ := e
    have hl := r.l
    match vs, hl, r with
    | [x, y, w], _, r =>
      refine ⟨i, j, c, n, by rw [r.head.1.int_inv, r.head.2.head.1.int_inv, r.head.2.head.2.head.1.int_inv], hr, q _ _ _ _ (rngC i c n) H1 (fun _ => True) [] walk_rangeC (by simp [rngC]) e1 (fun _ _ => trivial) (fun _ _ => trivial) (fun g m => nomatch m) ⟨fun _ _ _ _ _ => trivial, fun l d av H x H' hd _ _ _ y => ?_⟩ e⟩
      have e2 : H' = H ∧ x = .int (i + (l : Int) * c) := y
      obtain ⟨rfl, rfl⟩ := e2
      unfold rngC at hd
      rw [List.getElem?_map] at hd
      obtain ⟨j', h1, h2⟩ := Option.map_eq_some_iff.mp hd
      have : j' = l := by
        have := (List.getElem?_eq_some_iff.mp h1).2
        simpa using this.symm
      subst this
      subst h2
      exact ⟨Same.refl _, .int _⟩
  · exact e.elim
end
end Dl
set_option maxHeartbeats 1000000
/-! generators over data -/
namespace Dl
open PySem PySem.Spec PyProof.Rows L2 Lcn Sq
structure DGEnds where
  nx : List Dt → List Sl → Prop
  rt : List Dt → Dt → Prop
  bk : List Dt → List Sl → Prop := fun _ _ => False
  ct : List Dt → List Sl → Prop := fun _ _ => False
structure GEndsR (C : Ctx) (D : GEnds) (Dd : DGEnds) : Prop where
  nx : ∀ ys yd σ δ H, Sok C H σ δ → RepL C.K (Zd C δ) H ys yd → Dd.nx yd δ → D.nx ys σ H
  rt : ∀ ys yd v d H, Stp C.S C.H0 H → Rep C.K C.av H v d → RepL C.K C.av H ys yd → Dd.rt yd d → D.rt ys v H
  bk : ∀ ys yd σ δ H, Sok C H σ δ → RepL C.K (Zd C δ) H ys yd → Dd.bk yd δ → D.bk ys σ H
  ct : ∀ ys yd σ δ H, Sok C H σ δ → RepL C.K (Zd C δ) H ys yd → Dd.ct yd δ → D.ct ys σ H
abbrev EvG := DGEnds → List Dt → List Sl → Prop
def VGn (K : PySem.W.Frag) (t : TGn) (ev : EvG) : Prop := ∀ (C : Ctx) (σ : L2.St) (δ : List Sl) (H : Hp) (ys : List V) (yd : List Dt) (D : GEnds) (Dd : DGEnds), C.K = K → Sok C H σ δ → RepL C.K (Zd C δ) H ys yd → ev Dd yd δ → GEndsR C D Dd → t D ys σ H
def DGn {ι : Type} (K : PySem.W.Frag) (X : ι → Cx) (st : Stmt) (ev : EvG) : Prop := ∃ t, (∀ i, GS (X i) st t) ∧ VGn K t ev
def DGns {ι : Type} (K : PySem.W.Frag) (X : ι → Cx) (st : List Stmt) (ev : EvG) : Prop := ∃ t, (∀ i, GSs (X i) st t) ∧ VGn K t ev
theorem ghost_repl {K : PySem.W.Frag} {av : Addr → Prop} {H : Hp} {ys : List V} {yd : List Dt} (l : ys.length = yd.length) (h : ∀ g, g ∈ ys.zip yd → Rep K av H g.1 g.2) : RepL K av H ys yd := ⟨l, fun i x d h1 h2 => h (x, d) (List.mem_iff_getElem?.mpr ⟨i, by rw [List.getElem?_zip_eq_some]; exact ⟨h1, h2⟩⟩)⟩
section
variable {ι : Type} {K : PySem.W.Frag} {X : ι → Cx} {z o : Bool} {pos p2 yp : Pos} {c e : Expr} {es : List Expr} {ea : EvE} {tv : EvT} {st : Stmt} {rest body : List Stmt} {sv : EvS} {gv gw : EvG}
theorem dgn_plain (h : DS K X st sv) : DGn K X st (fun D yd δ => sv { nx := D.nx yd, rt := D.rt yd, bk := D.bk yd, ct := D.ct yd } δ) := by
  obtain ⟨t, p, v⟩ := h
  refine ⟨_, fun i => gs_ps (p i), fun C σ δ H ys yd D Dd k s r e q => ?_⟩
  have l := r.l
  have s2 : Sok { C with gh := ys.zip yd ++ C.gh } H σ δ := s.ghost (repl_ghost (C := C) r)
  refine v { C with gh := ys.zip yd ++ C.gh } σ δ H _ _ k s2 e ⟨fun σ δ H s e => ?_, fun v d H st r gh e => ?_, fun σ δ H s e => ?_, fun σ δ H s e => ?_⟩
  · exact q.nx ys yd σ δ H s.unghost.1 (ghost_repl l s.unghost.2) e
  · exact q.rt ys yd v d H st r (ghost_repl l fun g m => gh g (List.mem_append_left _ m)) e
  · exact q.bk ys yd σ δ H s.unghost.1 (ghost_repl l s.unghost.2) e
  · exact q.ct ys yd σ δ H s.unghost.1 (ghost_repl l s.unghost.2) e
theorem dgns_nil : DGns K X [] (fun D yd δ => D.nx yd δ) := ⟨_, fun _ => gss_nil, fun C σ δ H ys yd D Dd k s r e q => q.nx ys yd σ δ H s r e⟩
def dgSeq (gv gw : EvG) : EvG := fun D yd δ => gv { D with nx := gw D } yd δ
theorem dgns_cons (h1 : DGn K X st gv) (h2 : DGns K X rest gw) : DGns K X (st :: rest) (dgSeq gv gw) := by
  obtain ⟨t, p, v⟩ := h1
  obtain ⟨t2, p2, v2⟩ := h2
  refine ⟨_, fun i => gss_cons (p i) (p2 i), fun C σ δ H ys yd D Dd k s r e q => ?_⟩
  exact v C σ δ H ys yd _ _ k s r e ⟨fun ys yd σ δ H s r e => v2 C σ δ H ys yd D Dd k s r e q, q.rt, q.bk, q.ct⟩
theorem dgn_yield (h : DE true K X e ea) (hco : ∀ i, (X i).env.scope.isCoroutine = false := by intro _; rfl) (hi : ∀ i, interactive (X i).env = false := by intro _; rfl) : DGn K X (.Expr (.Yield (some e) yp) pos) (fun D yd δ => yd.length < sizeLine ∧ ea δ fun d => D.nx (yd ++ [d]) δ) := by
  obtain ⟨t, p, v⟩ := h
  refine ⟨_, fun i => gs_yield (p i) (hco i) (hi i), fun C σ δ H ys yd D Dd k s r e q => ⟨by rw [r.l]; exact e.1, ?_⟩⟩
  subst k
  refine v C σ δ H _ _ rfl s e.2 fun x d H1 e1 rx e => q.nx _ _ σ δ H1 (s.step e1) (RepL.append ?_ (.cons rx .nil)) e
  exact ⟨r.l, fun i x d h1 h2 => rep_step s e1 (r.f i x d h1 h2)⟩
def dgWhile (tv : EvT) (gv : EvG) : EvG := fun D yd δ => ∃ W : Nat → List Dt → List Sl → Prop, (∃ m, W m yd δ) ∧ ∀ m yd δ, W m yd δ → tv δ fun b => if b = true then gv { nx := fun yd' δ' => ∃ m', m' < m ∧ W m' yd' δ', rt := D.rt, bk := D.nx, ct := fun yd' δ' => ∃ m', m' < m ∧ W m' yd' δ' } yd δ else D.nx yd δ
theorem dgn_while (hc : DT K X c tv) (hb : DGns K X body gv) (hpo : ∀ i, PassesOwn (model (X i).prog (X i).w) (X i).A (X i).env (X i).xe) : DGn K X (.While c body [] pos) (dgWhile tv gv) := by
  obtain ⟨t, p, v⟩ := hc
  obtain ⟨tb, pb, vb⟩ := hb
  refine ⟨_, fun i => gs_while (hpo i) (p i) (pb i), fun C σ δ H ys yd D Dd k s r e q => ?_⟩
  subst k
  obtain ⟨W, ⟨m0, w0⟩, e⟩ := e
  refine ⟨fun m ys σ H => ∃ yd δ, Sok C H σ δ ∧ RepL C.K (Zd C δ) H ys yd ∧ W m yd δ, ⟨m0, yd, δ, s, r, w0⟩, ?_⟩
  rintro m ys σ H ⟨yd, δ, s, r, w⟩
  refine v C σ δ H _ _ rfl s (e m yd δ w) fun b H1 e1 e => ?_
  have r1 : RepL C.K (Zd C δ) H1 ys yd := ⟨r.l, fun i x d h1 h2 => rep_step s e1 (r.f i x d h1 h2)⟩
  cases b
  · exact q.nx ys yd σ δ H1 (s.step e1) r1 e
  · refine ⟨fun ys' σ' H' => ∃ m', m' < m ∧ ∃ yd' δ', Sok C H' σ' δ' ∧ RepL C.K (Zd C δ') H' ys' yd' ∧ W m' yd' δ', fun ys' σ' H' ⟨m', hm, yd', δ', s', r', w'⟩ => ⟨m', hm, yd', δ', s', r', w'⟩, ?_⟩
    exact vb C σ δ H1 ys yd _ _ rfl (s.step e1) r1 e ⟨fun ys yd σ δ H s r ⟨m', hm, w'⟩ => ⟨m', hm, yd, δ, s, r, w'⟩, q.rt, q.nx, fun ys yd σ δ H s r ⟨m', hm, w'⟩ => ⟨m', hm, yd, δ, s, r, w'⟩⟩
end
abbrev SpcG := List Sl → (List Dt → Prop) → Prop
def dspG (K : PySem.W.Frag) (n : Nat) (sp : SpcG) : SpG := fun vs H Q _ => ∃ (S : Sc) (av : Addr → Prop) (δ : List Sl) (Qd : List Dt → Prop), (∀ b, sa S b → av b) ∧ Al av H ∧ Gs S H ∧ ArgsOk S K av H vs δ ∧ δ.length = n ∧ sp δ Qd ∧ ∀ ys yd H', Stp S H H' → RepL K av H' ys yd → Qd yd → Q ys H'
section
variable {P : Program} {w : World} {K : PySem.W.Frag} {mg : Str → Option Value} {base : Heap}
theorem gfn_d {x qual : Str} {params : Arguments} {body : List Stmt} {scope : Scope} {dvs : List V} {kws : List (Str × V)} {f : Addr} {fd : FuncData} {N ps : List Str} {k : Nat} {sp : SpcG} {sv : EvG} (F : FunD K x qual params body scope dvs kws f fd) (S : GScope N ps scope)
    (hbody : ∀ (cdv : Value) (A : Around) (outer : List Env) (s : Shared) (H : Hp) (E : XK) (pn : List (Addr × Obj)), Room k (A.deeper (PyProof.Rows.envOfC qual scope s.heap.objs.size f cdv)) → DGns K (fun _ : Unit => gcxOf P w K mg base N qual scope f cdv A outer s H E pn) body sv)
    (hsp : ∀ (δ : List Sl) (Qd : List Dt → Prop), δ.length = ps.length → sp δ Qd → sv { nx := fun yd _ => Qd yd, rt := fun yd d => d = .non ∧ Qd yd } [] (st0 N δ)) : GFn P w K mg base (k + 1) f fd ps (dspG K ps.length sp) := by
  obtain ⟨oc, od, dV, kV, doc, pm, an, cdv, ct, osl, rfl, lk, hcd, _, _⟩ := F.ex
  refine gfn_of lk hcd S (fun vs H Q E h => ?_) fun A outer s H vs Q E pn hr h => ?_
  · obtain ⟨S, av, δ, Qd, _, _, _, a, l, _⟩ := h
    rw [a.l, l]
  · obtain ⟨S, av, δ, Qd, h1, h2, h3, a, l, hs, q⟩ := h
    obtain ⟨ts, p, v⟩ := hbody cdv A outer s H E pn hr
    refine ⟨ts, p (), v ⟨K, S, av, H, []⟩ _ _ H [] [] _ _ rfl (sok_start h1 h2 h3 a) .nil (hsp δ Qd l hs) ⟨fun ys yd σ δ H' s r e => q ys yd H' s.st (r.mono fun b z => .inl z) e, fun ys yd v d H' e rv r e2 => ?_, fun _ _ _ _ _ _ _ e => e.elim, fun _ _ _ _ _ _ _ e => e.elim⟩⟩
    obtain ⟨rfl, e2⟩ := e2
    exact ⟨rv.non_inv, q ys yd H' e r e2⟩
end
section
variable {ι : Type} {K : PySem.W.Frag} {X : ι → Cx} {z : Bool} {pos pos2 : Pos} {e : Expr} {es : List Expr} {et : EvLs}
theorem none_back {C : Ctx} {H H' : Hp} {σ : L2.St} {δ : List Sl} (s : Sok C H σ δ) (e : Stp C.S H H') {p : Addr} (n : H' p = none) : H p = none := by
  cases x : H p with
  | none => rfl
  | some u =>
    by_cases c : ch C.S p
    · exact absurd (s.avs p (ch_sa c)) ((s.step e).ava.na n)
    · rw [e.keep p u c x] at n
      cases n
/-- list(g(..)), g a generator -/
theorem dn_listG {x nm : Str} {p p3 : Pos} {n : Nat} {sp : SpcG} (hp : ∀ {t : TA} i, PA (X i) (e :: es) t → PE (X i) (.Call (.Name nm p3) [.Call (.Name x p) (e :: es) [] pos] [] pos2) (tListG (tCallG (dspG K n sp) [] (fun _ _ _ => False) t))) (ha : DLs true K X (e :: es) et) : DN K X (.Call (.Name nm p3) [.Call (.Name x p) (e :: es) [] pos] [] pos2) (fun δ Q => et δ fun ss => ss.length = n ∧ sp ss Q) := by
  obtain ⟨t, pa, v⟩ := ha
  refine ⟨_, fun i => hp i (pa i), fun C σ δ H Q Qd k s e q => ?_⟩
  subst k
  refine v C σ δ H _ _ rfl s e fun vs ss H1 e1 r e => ?_
  have s1 := s.step e1
  refine ⟨C.S, Zd C δ, ss, Qd, fun b hb => .inl (s.avs b hb), s1.alz, s1.g, ?_, e.1, e.2, fun ys yd H2 e2 r2 qd pp hp2 => ?_⟩
  · rw [List.append_nil]
    exact r
  · have e12 := e1.trans e2
    exact q pp ys yd _ (none_back s e12 hp2) (e12.trans (Stp.new hp2)) upd_same (r2.move (fun b u _ h => same_new hp2 b u h) fun b zb => zb.imp id fun (zb : b = pp) => by rw [zb]; exact hp2) qd
theorem noStop0 {K : PySem.W.Frag} : NoStop K (fun _ _ _ => False) := fun _ _ _ h => h.elim
theorem passesF {X : Cx} : Passes (L2.CX X.prog X.w) X (fun _ _ _ => False) := fun _ _ _ _ _ _ _ c => by
  obtain ⟨_, _, _, _, _, _, _, _, _, _, _, _, h⟩ := c
  exact h.elim
end
end Dl
set_option maxHeartbeats 4000000
/-! t * 0, t * 1: the other ways of a tuple taken so many times -/
namespace Tm
open PySem PySem.Spec PyProof.Rows L2
/-- taken once: itself -/
theorem once_tuple (l : Addr) (its : Array Value) (n : Nat) (dd : Option Addr) (sl : Array (Option Value)) (u : Tok) :
    Meets (Builtin.«tuple.__mul__» ⟨[.ref l, .int 1 u], []⟩) (fun _ R s => s.heap.get? l = some { cls := .type "tuple", dict := dd, data := .seq its n, slots := sl } ∧ R (.ok (.ret (Value.ref l))) s) :=
  .of_wp fun prog w A R s h => by
    obtain ⟨hp, g, d, tk, os⟩ := s
    obtain ⟨hl, h⟩ := h
    have f1 := AutoSeq1.idx_int
    have hs : (its.isEmpty || (1 : Int) == 1) = true := by simp
    wp_walk using wpAny_loadPart' hl
    repeat (first
      | (refine wpAny_ite_false (by decide) ?_; wp_walk using wpAny_loadPart' hl)
      | (refine wpAny_ite_true hs ?_; wp_walk using wpAny_loadPart' hl))
    exact ⟨_, rfl, h⟩
/-- taken no time: a new empty one -/
theorem none_tuple (l : Addr) (its : Array Value) (n : Nat) (dd : Option Addr) (sl : Array (Option Value)) (u : Tok) (hi : its.isEmpty = false) :
    Meets (Builtin.«tuple.__mul__» ⟨[.ref l, .int 0 u], []⟩) (fun _ R s => s.heap.get? l = some { cls := .type "tuple", dict := dd, data := .seq its n, slots := sl } ∧ R (.ok (.ret (Value.ref s.heap.objs.size))) { s with heap := s.heap.push { cls := Value.type "tuple", data := Data.seq #[] }, toks := s.toks }) :=
  .of_wp fun prog w A R s h => by
    obtain ⟨hp, g, d, tk, os⟩ := s
    obtain ⟨hl, h⟩ := h
    have f1 := AutoSeq1.idx_int
    have hs : (its.isEmpty || (0 : Int) == 1) = false := by rw [hi]; rfl
    wp_walk using wpAny_loadPart' hl
    exact ⟨_, rfl, h⟩
/-- once, or no time: rR -/
def rFew (K : PySem.W.Frag) : R2 := fun x y H Q => ∃ l xs, x = .ref l ∧ SqT K H l xs ∧ ((y = .int 1 ∧ Q (.ref l) H) ∨ (y = .int 0 ∧ xs ≠ [] ∧ ∀ p, H p = none → Q (.ref p) (upd H p (.tup []))))
theorem road {X : Cx} {s : Shared} {l : Addr} {its : Array Value} {n : Nat} {dd : Option Addr} {sl : Array (Option Value)} {k : Int} {t : Tok} {Q : Value → Shared → Prop}
    (ho : s.heap.get? l = some { cls := .type "tuple", dict := dd, data := .seq its n, slots := sl })
    (hw : wpAny (model X.prog X.w) X.A (call (.builtin "tuple.__mul__") [.ref l, .int k t]) Q X.xe s) : wpAny (model X.prog X.w) X.A (binaryOp .Mult (.ref l) (.int k t)) Q X.xe s := by
  have ty : s.TypeIs (.ref l) "tuple" := ⟨_, ho, rfl⟩
  have nofill := noFill_tuple_mul
  refine wpAny_binaryOp_repeat_ref (T := "tuple") (by decide) ty (fun s' => typeIs_int s' k t) nofill F.fills_int_mul F.slot_int_rmul repeat_tuple F.slot_int_index.lookup ?_
  exact call_meets F.slot_int_rmul (typeIs_int s k t) F.entry_int_rmul (F.args_int_rmul_2 _ _) (int_rmul_tuple k t l its n dd sl) ⟨ho, rfl, ty, hw⟩
theorem op_few {X : Cx} : OpR X (binaryOp .Mult) (rFew X.K) := by
  intro pins s σ H x y v u Q I rx ry h
  obtain ⟨l, xs, rfl, hT, h⟩ := h
  cases rx
  obtain ⟨its, r, ⟨⟨cls, dd, data, sl⟩, ho, hc, n, hd⟩, hs⟩ := I.tuple hT
  dsimp only at hc hd
  subst hc hd
  rcases h with ⟨rfl, q⟩ | ⟨rfl, ne, q⟩
  · obtain ⟨t, rfl⟩ := ry
    refine road ho (call_meets F.slot_tuple_mul ⟨_, ho, rfl⟩ F.entry_tuple_mul (F.args_tuple_mul_2 _ _) (once_tuple l its.toArray n dd sl t) ⟨ho, ?_⟩)
    exact ⟨.ref l, H, I, rfl, q⟩
  · obtain ⟨t, rfl⟩ := ry
    have hi : its.toArray.isEmpty = false := by
      have hl := r.length
      cases its with
      | nil => exact absurd (List.eq_nil_of_length_eq_zero hl) ne
      | cons a b => rfl
    refine road ho (call_meets F.slot_tuple_mul ⟨_, ho, rfl⟩ F.entry_tuple_mul (F.args_tuple_mul_2 _ _) (none_tuple l its.toArray n dd sl t hi) ⟨ho, ?_⟩)
    refine ⟨.ref s.heap.objs.size, _, I.laid (t' := s.toks) (o := .tup []) (fun b ob q => Heap.get?_push_of_some _ q) (Nat.le_refl _) ?_, rfl, q _ (I.hok.fresh (Nat.le_refl _))⟩
    exact ⟨Nat.zero_le _, [], .nil, IsTup.new _ _⟩
end Tm
set_option maxHeartbeats 1000000
namespace Dl
open PySem PySem.Spec PyProof.Rows L2 Lcn Sq
section
variable {K : PySem.W.Frag} {X : Cx}
/-- a * b with tuples too -/
def dMulA (x y : Dt) (Q : Dt → Prop) : Prop := match x, y with
  | .int i, .int j => CMulW i j ∧ Q (.int (i * j))
  | .lst a, .int k => -(2 ^ 63) ≤ k ∧ k < 2 ^ 63 ∧ a.length * k.toNat ≤ sizeLine ∧ Q (.lst (List.replicate k.toNat a).flatten)
  | .tup a, .int k => a ≠ [] ∧ a.length ≤ 1000 ∧ 0 ≤ k ∧ k ≤ 1000 ∧ Q (.tup (List.replicate k.toNat a).flatten)
  | _, _ => False
def rMulA (K : PySem.W.Frag) : R2 := fun x y H Q => rMulAll x y H Q ∨ (Tm.rFew K x y H Q ∨ rRepT K x y H Q)
theorem op_mulA (hK : X.K = K) : OpR X (binaryOp .Mult) (rMulA K) := by
  subst hK
  exact op_mulAll.or (Tm.op_few.or op_repT)
theorem ro_mulA : ROk K (rMulA K) dMulA := by
  intro av H x y dx dy Q Qd al rx ry d q
  unfold dMulA at d
  split at d
  · exact .inl (ro_mul (K := K) av H x y _ _ Q Qd al rx ry d q)
  · exact .inl (ro_mul (K := K) av H x y _ _ Q Qd al rx ry d q)
  · rename_i a k
    obtain ⟨d1, d2, d3, d4, d⟩ := d
    have rx' := rx
    obtain ⟨p, xs, rfl, hx, lx⟩ := rx.tup_inv
    have ne : xs ≠ [] := fun e => d1 (by
      have := lx.l
      rw [e] at this
      exact List.eq_nil_of_length_eq_zero this.symm)
    have ey := ry.int_inv
    by_cases h0 : k = 0
    · subst h0
      exact .inr (.inl ⟨p, xs, rfl, hx.sq, .inr ⟨ey, ne, fun b hb => q _ _ _ (same_new hb) (rep_newT al hb .nil) d⟩⟩)
    · by_cases h1 : k = 1
      · subst h1
        refine .inr (.inl ⟨p, xs, rfl, hx.sq, .inl ⟨ey, q _ _ H (Same.refl H) rx' ?_⟩⟩)
        have e : (List.replicate (1 : Int).toNat a).flatten = a := by
          show (List.replicate 1 a).flatten = a
          simp
        rw [e] at d
        exact d
      · exact .inr (.inr ⟨p, k, xs, rfl, ey, hx.sq, ne, by omega, d4, by rw [lx.l]; exact d2, fun b hb => q _ _ _ (same_new hb) (rep_newT al hb (repl_flat lx _)) d⟩)
  · exact d.elim
end
section
variable {ι : Type} {K : PySem.W.Frag} {X : ι → Cx} {z o : Bool} {pos p2 apos cpos : Pos} {a b c e tg iter : Expr} {es : List Expr} {ea eb ec : EvE} {et : EvA}
theorem de_mulA (ha : DE z K X a ea) (hb : DE z K X b eb) (hK : ∀ i, (X i).K = K := by intro _; rfl) : DE z K X (.BinOp a .Mult b pos) (dOp dMulA ea eb) := de_op (fun i => op_mulA (hK i)) ro_mulA ha hb
/-- xs.index(y), xs a list, y in it -/
def dIndex (ea eb : EvE) : EvE := fun δ Q => ea δ fun x => match x with
  | .lst ds => eb δ fun y => shD (.lst ds) = true ∧ shD y = true ∧ ∃ j z, ds[j]? = some z ∧ eqD z y = true ∧ (∀ (m : Nat) (z' : Dt), m < j → ds[m]? = some z' → eqD z' y = false) ∧ Q (.int (j : Nat))
  | _ => False
theorem pyL_get : ∀ {ds : List Dt} {j : Nat}, (pyL ds)[j]? = (ds[j]?).map py
  | [], j => by simp [pyL]
  | d :: r, 0 => by simp [pyL]
  | d :: r, j + 1 => by
    rw [pyL, List.getElem?_cons_succ, List.getElem?_cons_succ]
    exact pyL_get
theorem de_index (hp : ∀ {to te : TE} i, PE (X i) a to → PE (X i) b te → PE (X i) (.Call (.Attribute a "index" apos) [b] [] cpos) (tBM (X i).K "list" (rIndexD (X i).K) to (tCons te tNil))) (ha : DE z K X a ea) (hb : DE z K X b eb) (hK : ∀ i, (X i).K = K := by intro _; rfl) : DE z K X (.Call (.Attribute a "index" apos) [b] [] cpos) (dIndex ea eb) := by
  obtain ⟨ta, pa, va⟩ := ha
  obtain ⟨tb, pb, vb⟩ := hb
  refine ⟨tBM K "list" (rIndexD K) ta (tCons tb tNil), fun i => hK i ▸ hp i (pa i) (pb i), fun C σ δ H Q Qd k s e q => ?_⟩
  subst k
  refine va C σ δ H _ _ rfl s e fun x dx H1 e1 r1 e => ?_
  split at e
  · rename_i ds
    have r1' := r1
    obtain ⟨p, xs, rfl, hx, lx⟩ := r1.lst_inv
    refine ⟨.inl ⟨rfl, xs, hx.sq⟩, vb C σ δ H1 _ _ rfl (s.step e1) e fun y dy H2 e2 r2 e => ?_⟩
    obtain ⟨s1, s2, j, zz, hj, hz, hn, e⟩ := e
    have d1 := dp_of _ _ (sh_py s1).2 (rep_st (s.step e1) e2 r1')
    have s1' := (sh_py s1).1
    rw [py] at d1 s1'
    refine ⟨p, y, py dy, pyL ds, j, py zz, rfl, rfl, d1, dp_of dy y (sh_py s2).2 r2, s1', (sh_py s2).1, by rw [pyL_get, hj]; rfl, hz, fun m z' hm hz' => ?_, q _ _ H2 (e1.trans e2) (.int _) e⟩
    rw [pyL_get] at hz'
    obtain ⟨w, hw, rfl⟩ := Option.map_eq_some_iff.mp hz'
    exact hn m w hm hw
  · exact e.elim
/-- list(x), as a new list -/
theorem dn_list {x : Str} {p : Pos} (ha : DE true K X e ea) (hg : ∀ i, Gl (X i) "list") (hm : ∀ i, (X i).mg "list" = none) (hK : ∀ i, (X i).K = K := by intro _; rfl)
    (he : ∀ i, starEach [e] (X i).env = (false, eval e (X i).env) :: starEach [] (X i).env := by intro _; rfl) : DN K X (.Call (.Name "list" p) [e] [] pos) (fun δ Q => ea δ fun d => ∃ ds, itemsD d = some ds ∧ Q ds) := by
  obtain ⟨t, pa, v⟩ := ha
  refine ⟨_, fun i => pe_callTy (cr_list (hK i)) (hg i) (hm i) (by decide +kernel) (pa_cons (pa i) pa_nil (he i)) (he := he i), fun C σ δ H Q Qd k s e q => ?_⟩
  subst k
  refine v C σ δ H _ _ rfl s e fun w d H1 e1 r1 e => ?_
  obtain ⟨ds, hd, e⟩ := e
  obtain ⟨kk, a', xs, rfl, g, l, _⟩ := rep_items r1 hd
  refine ⟨a', xs, rfl, by cases kk; exact .inr g; exact .inl g, fun p hp => ?_⟩
  exact q p xs ds _ (none_back s e1 hp) (e1.trans (Stp.new hp)) upd_same (l.move (fun b u _ h => same_new hp b u h) fun b zb => zb.imp id fun (zb : b = p) => by rw [zb]; exact hp) e
/-- a + b of lists, as a new list -/
theorem dn_add (ha : DE true K X a ea) (hb : DE true K X b eb) : DN K X (.BinOp a .Add b pos) (fun δ Q => ea δ fun x => eb δ fun y => ∃ xs ys, x = .lst xs ∧ y = .lst ys ∧ xs.length + ys.length ≤ sizeLine ∧ Q (xs ++ ys)) := by
  obtain ⟨ta, pa, va⟩ := ha
  obtain ⟨tb, pb, vb⟩ := hb
  refine ⟨_, fun i => pe_op op_cat (pa i) (pb i), fun C σ δ H Q Qd k s e q => ?_⟩
  subst k
  refine va C σ δ H _ _ rfl s e fun x dx H1 e1 r1 e => ?_
  refine vb C σ δ H1 _ _ rfl (s.step e1) e fun y dy H2 e2 r2 e => ?_
  obtain ⟨us, ws, rfl, rfl, hl, e⟩ := e
  obtain ⟨l, xs, rfl, hx, lx⟩ := (rep_st (z := true) (s.step e1) e2 r1).lst_inv
  obtain ⟨m, ys, rfl, hy, ly⟩ := r2.lst_inv
  refine ⟨l, m, xs, ys, rfl, rfl, hx.2, hy.2, by rw [lx.l, ly.l]; exact hl, fun p hp => ?_⟩
  have e12 := e1.trans e2
  exact q p _ _ _ (none_back s e12 hp) (e12.trans (Stp.new hp)) upd_same ((lx.append ly).move (fun b u _ h => same_new hp b u h) fun b zb => zb.imp id fun (zb : b = p) => by rw [zb]; exact hp) e
/-- list(range(..)), tuple(range(..)) -/
theorem rg_repl {av : Addr → Prop} {H : Hp} (m n : Int) : RepL K av H (rgV m n) (rngD m (n - m).toNat) := by
  refine ⟨by rw [rgV_length, rngD_len], fun i x d h1 h2 => ?_⟩
  obtain ⟨hi, rfl⟩ := rngD_get h2
  unfold rgV at h1
  rw [List.getElem?_map] at h1
  obtain ⟨j, e1, rfl⟩ := Option.map_eq_some_iff.mp h1
  have : j = i := by
    have := (List.getElem?_eq_some_iff.mp e1).2
    simpa using this.symm
  subst this
  exact .int _
def dRgL (l : Bool) (ea eb : EvE) : EvE := fun δ Q => ea δ fun d => eb δ fun d' => match d, d' with
  | .int m, .int n => RgOk m n ∧ Q (if l = true then .lst (rngD m (n - m).toNat) else .tup (rngD m (n - m).toNat))
  | _, _ => False
theorem ve_rg {te : L2.St → Hp → (Int → Int → Hp → Prop) → Prop} {ev : List Sl → (Int → Int → Prop) → Prop} (v : ∀ (C : Ctx) (σ : L2.St) (δ : List Sl) (H : Hp) (Q : Int → Int → Hp → Prop) (Qd : Int → Int → Prop), C.K = K → Sok C H σ δ → ev δ Qd → (∀ m n H', Stp C.S H H' → Qd m n → Q m n H') → te σ H Q) :
    VE z K (tLstRg te) (fun δ Q => ev δ fun m n => RgOk m n ∧ Q (.lst (rngD m (n - m).toNat))) ∧ VE z K (tTupRg te) (fun δ Q => ev δ fun m n => RgOk m n ∧ Q (.tup (rngD m (n - m).toNat))) := by
  constructor
  · intro C σ δ H Q Qd k s e q
    exact v C σ δ H _ _ k s e fun m n H1 e1 e => ⟨e.1, fun p hp => q _ _ _ (e1.trans (Stp.new hp)) (rep_newL (s.step e1).al hp (rg_repl m n)) e.2⟩
  · intro C σ δ H Q Qd k s e q
    exact v C σ δ H _ _ k s e fun m n H1 e1 e => ⟨e.1, fun p hp => q _ _ _ (e1.trans (Stp.new hp)) (rep_newT (s.step e1).al hp (rg_repl m n)) e.2⟩
def dR1 (ea : EvE) : List Sl → (Int → Int → Prop) → Prop := fun δ Q => ea δ fun d => match d with
  | .int n => Q 0 n
  | _ => False
def dR2 (ea eb : EvE) : List Sl → (Int → Int → Prop) → Prop := fun δ Q => ea δ fun d => eb δ fun d' => match d, d' with
  | .int m, .int n => Q m n
  | _, _ => False
theorem vr1 {ta : TE} (v : VE false K ta ea) : ∀ (C : Ctx) (σ : L2.St) (δ : List Sl) (H : Hp) (Q : Int → Int → Hp → Prop) (Qd : Int → Int → Prop), C.K = K → Sok C H σ δ → dR1 ea δ Qd → (∀ m n H', Stp C.S H H' → Qd m n → Q m n H') → tRg1 ta σ H Q := by
  intro C σ δ H Q Qd k s e q
  refine v C σ δ H _ _ k s e fun x d H1 e1 r e => ?_
  split at e
  · exact ⟨_, r.int_inv, q _ _ H1 e1 e⟩
  · exact e.elim
theorem vr2 {ta tb : TE} (v : VE false K ta ea) (v2 : VE false K tb eb) : ∀ (C : Ctx) (σ : L2.St) (δ : List Sl) (H : Hp) (Q : Int → Int → Hp → Prop) (Qd : Int → Int → Prop), C.K = K → Sok C H σ δ → dR2 ea eb δ Qd → (∀ m n H', Stp C.S H H' → Qd m n → Q m n H') → tRg2 ta tb σ H Q := by
  intro C σ δ H Q Qd k s e q
  refine v C σ δ H _ _ k s e fun x d H1 e1 r e => ?_
  refine v2 C σ δ H1 _ _ k (s.step e1) e fun x' d' H2 e2 r2 e => ?_
  split at e
  · exact ⟨_, _, r.int_inv, r2.int_inv, q _ _ H2 (e1.trans e2) e⟩
  · exact e.elim
section
variable (hc : ∀ i, (X i).calm = true) {p p3 pos3 : Pos} (hg : ∀ i, Gl (X i) "range") (hm : ∀ i, (X i).mg "range" = none)
theorem de_list1Rg (hg2 : ∀ i, Gl (X i) "list") (hm2 : ∀ i, (X i).mg "list" = none) (hg : ∀ i, Gl (X i) "range") (hm : ∀ i, (X i).mg "range" = none) (ha : DE false K X a ea) (hc : ∀ i, (X i).calm = true := by intro _; rfl) (n1 : ∀ i, starEach [a] (X i).env = (false, eval a (X i).env) :: starEach [] (X i).env := by intro _; rfl) (n2 : ∀ i, starEach [.Call (.Name "range" p3) [a] [] pos3] (X i).env = (false, eval (.Call (.Name "range" p3) [a] [] pos3) (X i).env) :: starEach [] (X i).env := by intro _; rfl) : DE z K X (.Call (.Name "list" p) [.Call (.Name "range" p3) [a] [] pos3] [] pos) (fun δ Q => dR1 ea δ fun m n => RgOk m n ∧ Q (.lst (rngD m (n - m).toNat))) := by
  obtain ⟨t, pa, v⟩ := ha
  exact ⟨_, fun i => pe_listRg (hc i) (hg2 i) (hm2 i) (prg_1 (hg i) (hm i) (pa i) (n1 i)) (n2 i), (ve_rg (vr1 v)).1⟩
theorem de_tuple1Rg (hg2 : ∀ i, Gl (X i) "tuple") (hm2 : ∀ i, (X i).mg "tuple" = none) (hg : ∀ i, Gl (X i) "range") (hm : ∀ i, (X i).mg "range" = none) (ha : DE false K X a ea) (hc : ∀ i, (X i).calm = true := by intro _; rfl) (n1 : ∀ i, starEach [a] (X i).env = (false, eval a (X i).env) :: starEach [] (X i).env := by intro _; rfl) (n2 : ∀ i, starEach [.Call (.Name "range" p3) [a] [] pos3] (X i).env = (false, eval (.Call (.Name "range" p3) [a] [] pos3) (X i).env) :: starEach [] (X i).env := by intro _; rfl) : DE z K X (.Call (.Name "tuple" p) [.Call (.Name "range" p3) [a] [] pos3] [] pos) (fun δ Q => dR1 ea δ fun m n => RgOk m n ∧ Q (.tup (rngD m (n - m).toNat))) := by
  obtain ⟨t, pa, v⟩ := ha
  exact ⟨_, fun i => pe_tupRg (hc i) (hg2 i) (hm2 i) (prg_1 (hg i) (hm i) (pa i) (n1 i)) (n2 i), (ve_rg (vr1 v)).2⟩
theorem de_list2Rg (hg2 : ∀ i, Gl (X i) "list") (hm2 : ∀ i, (X i).mg "list" = none) (hg : ∀ i, Gl (X i) "range") (hm : ∀ i, (X i).mg "range" = none) (ha : DE false K X a ea) (hb : DE false K X b eb) (hc : ∀ i, (X i).calm = true := by intro _; rfl) (n1 : ∀ i, starEach [a, b] (X i).env = (false, eval a (X i).env) :: starEach [b] (X i).env := by intro _; rfl) (n3 : ∀ i, starEach [b] (X i).env = (false, eval b (X i).env) :: starEach [] (X i).env := by intro _; rfl) (n4 : ∀ i, (backTo pos3 (starEach [b] (X i).env)).any (·.1) = false := by intro _; rfl) (n2 : ∀ i, starEach [.Call (.Name "range" p3) [a, b] [] pos3] (X i).env = (false, eval (.Call (.Name "range" p3) [a, b] [] pos3) (X i).env) :: starEach [] (X i).env := by intro _; rfl) : DE z K X (.Call (.Name "list" p) [.Call (.Name "range" p3) [a, b] [] pos3] [] pos) (fun δ Q => dR2 ea eb δ fun m n => RgOk m n ∧ Q (.lst (rngD m (n - m).toNat))) := by
  obtain ⟨t, pa, v⟩ := ha
  obtain ⟨t2, pb, v2⟩ := hb
  exact ⟨_, fun i => pe_listRg (hc i) (hg2 i) (hm2 i) (prg_2 (hg i) (hm i) (pa i) (pb i) (n1 i) (n3 i) (n4 i)) (n2 i), (ve_rg (vr2 v v2)).1⟩
end
end
end Dl
namespace Dl
theorem ru1 {k : Nat} {A : PySem.Around} (hr : L2.Room k A) : A.units + 1 < PySem.cLine := by have := hr.un; omega
end Dl
set_option maxHeartbeats 1000000
/-! ints, tuples and lists of ints: equality, shape -/
namespace Dl
open PySem PySem.Spec PyProof.Rows L2 Lcn Sq
abbrev iT (ns : List Int) : Dt := .tup (ns.map .int)
abbrev iL (ns : List Int) : Dt := .lst (ns.map .int)
theorem pyL_map {α : Type} (f : α → Dt) : ∀ xs : List α, pyL (xs.map f) = xs.map fun x => py (f x)
  | [] => by simp [pyL]
  | x :: r => by rw [List.map_cons, pyL, pyL_map f r, List.map_cons]
theorem okL_all {ds : List Dt} (h : ∀ d, d ∈ ds → okD d = true) : okL ds = true := by
  induction ds with
  | nil => rfl
  | cons d r ih =>
    rw [okL, h d (List.mem_cons_self ..), ih fun e m => h e (List.mem_cons_of_mem _ m)]
    rfl
theorem dep_all {ds : List Dt} {n : Nat} (h : ∀ d, d ∈ ds → (py d).depth ≤ n) : PyData.depthAll (pyL ds) ≤ n := by
  induction ds with
  | nil => simp [pyL, PyData.depthAll]
  | cons d r ih =>
    rw [pyL, PyData.depthAll]
    exact Nat.max_le.mpr ⟨h d (List.mem_cons_self ..), ih fun e m => h e (List.mem_cons_of_mem _ m)⟩
/-- fit for ==, n deep -/
def Fit (n : Nat) (d : Dt) : Prop := okD d = true ∧ (py d).depth ≤ n
theorem Fit.sh {n : Nat} {d : Dt} (h : Fit n d) (hn : n ≤ 64) : shD d = true := by
  unfold shD
  rw [h.1, decide_eq_true (Nat.le_trans h.2 hn)]
  rfl
theorem fit_int (n : Nat) (i : Int) : Fit n (.int i) := ⟨rfl, by simp [py, PyData.depth]⟩
theorem fit_bl (n : Nat) (i : Bool) : Fit n (.bl i) := ⟨rfl, by simp [py, PyData.depth]⟩
theorem fit_non (n : Nat) : Fit n .non := ⟨rfl, by simp [py, PyData.depth]⟩
theorem fit_tup {n : Nat} {ds : List Dt} (h : ∀ d, d ∈ ds → Fit n d) : Fit (n + 1) (.tup ds) := ⟨by rw [okD]; exact okL_all fun d m => (h d m).1, by rw [py, PyData.depth]; exact Nat.succ_le_succ (dep_all fun d m => (h d m).2)⟩
theorem fit_lst {n : Nat} {ds : List Dt} (h : ∀ d, d ∈ ds → Fit n d) : Fit (n + 1) (.lst ds) := ⟨by rw [okD]; exact okL_all fun d m => (h d m).1, by rw [py, PyData.depth]; exact Nat.succ_le_succ (dep_all fun d m => (h d m).2)⟩
theorem fit_iT (ns : List Int) : Fit 1 (iT ns) := fit_tup (n := 0) fun d m => by
  obtain ⟨i, _, rfl⟩ := List.mem_map.mp m
  exact fit_int 0 i
theorem fit_iL (ns : List Int) : Fit 1 (iL ns) := fit_lst (n := 0) fun d m => by
  obtain ⟨i, _, rfl⟩ := List.mem_map.mp m
  exact fit_int 0 i
theorem Fit.up {n m : Nat} {d : Dt} (h : Fit n d) (e : n ≤ m) : Fit m d := ⟨h.1, Nat.le_trans h.2 e⟩
theorem fit_map {α : Type} {n : Nat} {f : α → Dt} (h : ∀ x, Fit n (f x)) (xs : List α) : ∀ d, d ∈ xs.map f → Fit n d := fun d m => by
  obtain ⟨x, _, rfl⟩ := List.mem_map.mp m
  exact h x
/-! f tells things apart: == of f x and f y is that of x and y -/
def Sep {α : Type} [DecidableEq α] (f : α → Dt) : Prop := ∀ x y, eqD (f x) (f y) = decide (x = y)
section
variable {α β : Type} [DecidableEq α] [DecidableEq β]
theorem sep_int : Sep Dt.int := fun x y => by
  unfold eqD
  simp only [py, PyData.eqv]
  exact Bool.beq_eq_decide_eq x y
theorem eqvA_map {f : α → Dt} (h : Sep f) : ∀ xs ys : List α, PyData.eqvAll (pyL (xs.map f)) (pyL (ys.map f)) = decide (xs = ys)
  | [], [] => by simp [pyL, PyData.eqvAll]
  | [], y :: r => by simp [pyL, PyData.eqvAll]
  | x :: r, [] => by simp [pyL, PyData.eqvAll]
  | x :: xs, y :: ys => by
    rw [List.map_cons, List.map_cons, pyL, pyL, PyData.eqvAll, eqvA_map h xs ys]
    have := h x y
    unfold eqD at this
    rw [this]
    by_cases e : x = y
    · subst e
      by_cases e2 : xs = ys
      · subst e2
        simp
      · simp [e2]
    · simp [e]
theorem sep_tup {f : α → Dt} (h : Sep f) : Sep fun xs : List α => Dt.tup (xs.map f) := fun xs ys => by
  unfold eqD
  rw [py, py, PyData.eqv]
  exact eqvA_map h xs ys
theorem sep_lst {f : α → Dt} (h : Sep f) : Sep fun xs : List α => Dt.lst (xs.map f) := fun xs ys => by
  unfold eqD
  rw [py, py, PyData.eqv]
  exact eqvA_map h xs ys
theorem sep_iT : Sep iT := sep_tup sep_int
theorem sep_iL : Sep iL := sep_lst sep_int
/-- a couple -/
theorem sep_two {f : α → Dt} {g : β → Dt} (hf : Sep f) (hg : Sep g) : Sep fun p : α × β => Dt.tup [f p.1, g p.2] := fun p q => by
  have h1 := hf p.1 q.1
  have h2 := hg p.2 q.2
  unfold eqD at h1 h2 ⊢
  simp only [py, pyL, PyData.eqv, PyData.eqvAll]
  rw [h1, h2, Bool.and_true]
  rw [Bool.eq_iff_iff]
  simp [Prod.ext_iff]
theorem anyEq_map {f : α → Dt} (h : Sep f) (x : α) : ∀ xs : List α, anyEq (f x) (xs.map f) = decide (x ∈ xs)
  | [] => rfl
  | y :: r => by
    have ih := anyEq_map h x r
    unfold anyEq at ih ⊢
    rw [List.map_cons, List.any_cons, ih, h y x]
    rw [Bool.eq_iff_iff]
    simp only [Bool.or_eq_true, decide_eq_true_eq, List.mem_cons]
    constructor
    · rintro (a | a)
      · exact .inl a.symm
      · exact .inr a
    · rintro (a | a)
      · exact .inl a.symm
      · exact .inr a
end
theorem dIn_map {α : Type} [DecidableEq α] {f : α → Dt} (h : Sep f) {n : Nat} (hf : ∀ x, Fit n (f x)) (hn : n + 1 ≤ 64) {x : α} {xs : List α} {neg : Bool} {Q : Dt → Prop} (q : Q (.bl (if neg then !decide (x ∈ xs) else decide (x ∈ xs)))) : dIn neg (f x) (.lst (xs.map f)) Q := by
  unfold dIn
  refine ⟨(hf x).sh (by omega), (fit_lst (fit_map hf xs)).sh hn, ?_⟩
  rw [anyEq_map h]
  exact q
theorem dEq_sep {α : Type} [DecidableEq α] {f : α → Dt} (h : Sep f) {n : Nat} (hf : ∀ x, Fit n (f x)) (hn : n ≤ 64) {x y : α} {neg : Bool} {Q : Dt → Prop} (q : Q (.bl (if neg then !decide (x = y) else decide (x = y)))) : dEq neg (f x) (f y) Q := by
  unfold dEq
  refine ⟨(hf x).sh hn, (hf y).sh hn, ?_⟩
  rw [h x y]
  exact q
theorem ix_map {α : Type} {f : α → Dt} {xs : List α} {i : Int} {x : α} {Q : Dt → Prop} (h : atI xs i = some x) (q : Q (f x)) : dIx (.lst (xs.map f)) (.int i) Q := ⟨_, atI_map h, q⟩
theorem ixT_map {α : Type} {f : α → Dt} {xs : List α} {i : Int} {x : α} {Q : Dt → Prop} (h : atI xs i = some x) (q : Q (f x)) : dIx (.tup (xs.map f)) (.int i) Q := ⟨_, atI_map h, q⟩
theorem cutD_map {α : Type} {f : α → Dt} (xs : List α) (lo hi : Option Int) : cutD (xs.map f) lo hi = ((xs.drop (HT.sIx xs.length 0 lo)).take (HT.sIx xs.length xs.length hi - HT.sIx xs.length 0 lo)).map f := by
  unfold cutD
  rw [List.length_map, ← List.map_drop, ← List.map_take]
theorem cutD_pre {α : Type} {f : α → Dt} (xs : List α) (n : Nat) : cutD (xs.map f) none (some (n : Int)) = (xs.take n).map f := by
  rw [cutD_map, HT.sIx_none, HT.sIx_nat, List.drop_zero, Nat.sub_zero]
  congr 1
  rcases Nat.le_total n xs.length with h | h
  · rw [Nat.min_eq_left h]
  · rw [Nat.min_eq_right h, List.take_of_length_le h, List.take_of_length_le (Nat.le_refl _)]
theorem rngD_map {lo : Int} {n : Nat} : rngD lo n = ((List.range n).map fun (i : Nat) => lo + (i : Int)).map Dt.int := by
  unfold rngD
  rw [List.map_map]
  rfl
/-- bounds of draws, ranges -/
theorem b62 {i : Int} (h0 : -1000000 ≤ i) (h1 : i ≤ 1000000) : -(2 ^ 62) ≤ i ∧ i < 2 ^ 62 := by
  have : (2 : Int) ^ 62 = 4611686018427387904 := by decide
  omega
end Dl
set_option maxHeartbeats 4000000
namespace My
open PySem L2
def topS (i : Nat) : Stmt := PySem.Challenge.pw_pressedwords_k22_whole_lengths_and_class.main.body.getD i (.Pass ⟨0, 0, 0, 0⟩)
abbrev s_deed_after : Stmt := topS 1
abbrev s_power_of : Stmt := topS 2
abbrev s_form_value : Stmt := topS 4
abbrev s_form_sum : Stmt := topS 5
abbrev s_form_gap : Stmt := topS 6
abbrev s_length_choices : Stmt := topS 7
abbrev s_class_rows : Stmt := topS 8
abbrev s_least_class_row : Stmt := topS 9
abbrev s_next_class_row : Stmt := topS 10
abbrev s_class_from : Stmt := topS 11
abbrev s__law_source : Stmt := topS 13
abbrev s__law_take : Stmt := topS 14
abbrev s__law_after : Stmt := topS 15
abbrev s__law_power : Stmt := topS 16
abbrev s__law_value : Stmt := topS 17
abbrev s__law_lengths_right : Stmt := topS 18
abbrev s__law_form : Stmt := topS 19
abbrev s__law_forms : Stmt := topS 20
abbrev s__law_all_rows : Stmt := topS 21
abbrev s__law_sums_right : Stmt := topS 22
abbrev s_law : Stmt := topS 23
/-- a def of the module, where it stands -/
structure Dn (K : PySem.W.Frag) (mg : Str → Option Value) (x : Str) (st : Stmt) (ps : List Str) where
  f : Addr
  fd : FuncData
  F : FunD K x x (defArgs st) (defBody st) (defScope st) [] [] f fd
  m : mg x = some (.ref f)
  b : Binds K fd ps []
/-- the built-in names that the module leaves alone -/
structure TB (mg : Str → Option Value) : Prop where
  len : mg "len" = none
  int : mg "int" = none
  bool : mg "bool" = none
  list_ : mg "list" = none
  tuple_ : mg "tuple" = none
  isinstance : mg "isinstance" = none
  all_ : mg "all" = none
  range : mg "range" = none
  min_ : mg "min" = none
  enumerate : mg "enumerate" = none
  zip : mg "zip" = none
  any_ : mg "any" = none
  sum_ : mg "sum" = none
  max_ : mg "max" = none
  sorted : mg "sorted" = none
  dict : mg "dict" = none
  repr : mg "repr" = none
section
variable {P : Program} {w : World} {K : PySem.W.Frag} {mg : Str → Option Value} {base : Heap}
theorem ok0 {x qual : Str} {params : Arguments} {body : List Stmt} {scope : Scope} {dvs : List V} {kws : List (Str × V)} {f : Addr} {fd : FuncData} {N ps : List Str} {k : Nat} {sp : Sp} (F : FunD K x qual params body scope dvs kws f fd) (S : FnScope N ps scope) (len : ∀ vs H Q E, sp vs H Q E → vs.length = ps.length)
    (hbody : ∀ (cdv : Value) (A : Around) (outer : List Env) (s : Shared) (H : Hp) (vs : List V) (Q : VK) (E : XK), Room k (A.deeper (PyProof.Rows.envOfC qual scope s.heap.objs.size f cdv)) → sp vs H Q E →
      ∃ t, PSs (cxOf CX0 P w K mg base N qual scope f cdv A outer s H E).nox body t ∧ t { nx := fun _ H' => Q .non H', rt := Q } (start N vs) H) : FnOk P w K mg base CX0 (k + 1) f fd ps sp := by
  refine F.ok S len fun cdv A outer s H vs Q E hr hsp => ?_
  obtain ⟨t, h, q⟩ := hbody cdv A outer s H vs Q E hr hsp
  exact ⟨t, h.nox, q⟩
end
end My
/-! class rows: the mathematics -/
namespace M22
open Dl
variable {α : Type} [DecidableEq α]
/-- what is taken for the place behind row -/
def taken (row : List Int) (fr : List α) : List Int := ((row.zip fr).filter fun p => decide (some p.2 = fr[row.length]?)).map (·.1)
def cands (least : Int) (row : List Int) : List Int := (List.range ((maxOr row (-1) + 2 - least).toNat)).map fun (i : Nat) => least + (i : Int)
def cfrom (least : Int) (row : List Int) (fr : List α) : Option Int := (cands least row).find? fun e => !(taken row fr).contains e
/-- filled up, n places more -/
def lrow (fr : List α) : Nat → List Int → List Int
  | 0, row => row
  | n + 1, row => lrow fr n (row ++ [(cfrom 0 row fr).getD 0])
def downs (n : Nat) : List Nat := (List.range n).map fun i => n - 1 - i
def nrow (row : List Int) (fr : List α) : Option (List Int) := (downs row.length).findSome? fun a => (cfrom ((row[a]?).getD 0 + 1) (row.take a) fr).map fun e => lrow fr (fr.length - (a + 1)) (row.take a ++ [e])
/-- at most m rows, from row on -/
def crows (fr : List α) : Nat → Option (List Int) → List (List Int)
  | 0, _ => []
  | _ + 1, none => []
  | m + 1, some row => row :: crows fr m (nrow row fr)
def first (fr : List α) : List Int := lrow fr fr.length []
/-! only what is equal matters -/
section
variable {β : Type} [DecidableEq β] {φ : α → β}
theorem taken_map {row : List Int} {fr : List α} (inj : ∀ x y, x ∈ fr → y ∈ fr → φ x = φ y → x = y) : taken row (fr.map φ) = taken row fr := by
  unfold taken
  rw [List.zip_map_right, List.filter_map, List.map_map]
  have e : (fun p : Int × α => p.1) = (Prod.fst ∘ Prod.map id φ) := by
    funext p
    rfl
  show List.map (Prod.fst ∘ Prod.map id φ) _ = List.map (fun p : Int × α => p.1) _
  rw [← e]
  congr 1
  refine List.filter_congr fun p m => ?_
  show decide (some (φ p.2) = (fr.map φ)[row.length]?) = decide (some p.2 = fr[row.length]?)
  rw [List.getElem?_map]
  have hp : p.2 ∈ fr := (List.of_mem_zip m).2
  cases h : fr[row.length]? with
  | none => simp
  | some y =>
    have hy : y ∈ fr := List.mem_of_getElem? h
    simp only [Option.map_some, Option.some.injEq, decide_eq_decide]
    exact ⟨inj _ _ hp hy, fun e => by rw [e]⟩
theorem cfrom_map {least : Int} {row : List Int} {fr : List α} (inj : ∀ x y, x ∈ fr → y ∈ fr → φ x = φ y → x = y) : cfrom least row (fr.map φ) = cfrom least row fr := by
  unfold cfrom
  rw [taken_map inj]
theorem lrow_map {fr : List α} (inj : ∀ x y, x ∈ fr → y ∈ fr → φ x = φ y → x = y) : ∀ (n : Nat) (row : List Int), lrow (fr.map φ) n row = lrow fr n row
  | 0, _ => rfl
  | n + 1, row => by
    unfold lrow
    rw [cfrom_map inj, lrow_map inj n]
theorem nrow_map {row : List Int} {fr : List α} (inj : ∀ x y, x ∈ fr → y ∈ fr → φ x = φ y → x = y) : nrow row (fr.map φ) = nrow row fr := by
  unfold nrow
  congr 1
  funext a
  rw [cfrom_map inj, List.length_map]
  congr 1
  funext e
  exact lrow_map inj _ _
theorem crows_map {fr : List α} (inj : ∀ x y, x ∈ fr → y ∈ fr → φ x = φ y → x = y) : ∀ (m : Nat) (o : Option (List Int)), crows (fr.map φ) m o = crows fr m o
  | 0, _ => rfl
  | _ + 1, none => rfl
  | m + 1, some row => by
    unfold crows
    rw [nrow_map inj, crows_map inj m]
theorem first_map {fr : List α} (inj : ∀ x y, x ∈ fr → y ∈ fr → φ x = φ y → x = y) : first (fr.map φ) = first fr := by
  unfold first
  rw [lrow_map inj, List.length_map]
end
/-! all rows -/
def digits (n : Nat) : Nat → Nat → List Int
  | 0, _ => []
  | k + 1, p => digits n k (p / n) ++ [((p % n : Nat) : Int)]
def rgs (row : List Int) : Bool := (List.range row.length).all fun k => !decide (row.getD k 0 > maxOr (-1 :: row.take k) (-1) + 1)
def bad (row : List Int) (fr : List α) : Nat := ((List.range fr.length).map fun k => ((List.range k).filter fun i => decide (row.getD i 0 = row.getD k 0 ∧ fr[i]? = fr[k]?)).length).sum
def allR (n : Nat) : List (List Int) := ((List.range (n ^ n)).map (digits n n)).filter rgs
def due (fr : List α) : List (List Int) := (allR fr.length).filter fun row => bad row fr == 0
theorem bad_map {β : Type} [DecidableEq β] {φ : α → β} {row : List Int} {fr : List α} (inj : ∀ x y, x ∈ fr → y ∈ fr → φ x = φ y → x = y) : bad row (fr.map φ) = bad row fr := by
  unfold bad
  rw [List.length_map]
  congr 1
  refine List.map_congr_left fun k hk => ?_
  congr 1
  refine List.filter_congr fun i hi => ?_
  rw [List.mem_range] at hk hi
  have hi' : i < fr.length := Nat.lt_trans hi hk
  rw [List.getElem?_map, List.getElem?_map, List.getElem?_eq_getElem hk, List.getElem?_eq_getElem hi']
  simp only [Option.map_some, Option.some.injEq, decide_eq_decide]
  constructor
  · rintro ⟨a, b⟩
    exact ⟨a, inj _ _ (List.getElem_mem _) (List.getElem_mem _) b⟩
  · rintro ⟨a, b⟩
    exact ⟨a, by rw [b]⟩
theorem due_map {β : Type} [DecidableEq β] {φ : α → β} {fr : List α} (inj : ∀ x y, x ∈ fr → y ∈ fr → φ x = φ y → x = y) : due (fr.map φ) = due fr := by
  unfold due
  rw [List.length_map]
  exact List.filter_congr fun row _ => by rw [bad_map inj]
/-- the shape of equals: each by its first place -/
def shape (fr : List α) : List Nat := fr.map fun x => fr.idxOf x
theorem shape_inj {fr : List α} : ∀ x y, x ∈ fr → y ∈ fr → fr.idxOf x = fr.idxOf y → x = y := fun x y hx hy e => by
  have h1 := List.getElem_idxOf (List.idxOf_lt_length_of_mem hx)
  have h2 := List.getElem_idxOf (List.idxOf_lt_length_of_mem hy)
  rw [← h1, ← h2]
  simp only [e]
/-- the shapes of length n: place i is at most i -/
def shapes : Nat → List (List Nat)
  | 0 => [[]]
  | n + 1 => (shapes n).flatMap fun s => (List.range (n + 1)).map fun i => s ++ [i]
theorem idxOf_at : ∀ (fr : List α) (n : Nat) (h : n < fr.length), fr.idxOf fr[n] ≤ n
  | x :: r, 0, _ => by simp
  | x :: r, n + 1, h => by
    rw [List.getElem_cons_succ, List.idxOf_cons]
    have hr : n < r.length := by simpa using h
    have := idxOf_at r n hr
    cases (x == r[n]) <;> simp
    omega
theorem shape_take {fr : List α} {n : Nat} (h : n ≤ fr.length) : (shape fr).take n ∈ shapes n := by
  induction n with
  | zero => simp [shapes]
  | succ n ih =>
    have hn : n < fr.length := h
    have hl : n < (shape fr).length := by simpa [shape] using hn
    rw [List.take_succ_eq_append_getElem hl]
    unfold shapes
    rw [List.mem_flatMap]
    refine ⟨_, ih (Nat.le_of_lt hn), List.mem_map.mpr ⟨(shape fr)[n], ?_, rfl⟩⟩
    rw [List.mem_range]
    have : (shape fr)[n] = fr.idxOf fr[n] := by simp [shape]
    rw [this]
    exact Nat.lt_succ_of_le (idxOf_at fr n hn)
/-- each shape is told by its first places -/
def canon (s : List Nat) : Bool := s.all fun i => decide (s[i]? = some i)
theorem shape_canon (fr : List α) : canon (shape fr) = true := by
  refine List.all_eq_true.mpr fun i hi => decide_eq_true ?_
  unfold shape at hi ⊢
  obtain ⟨x, hx, rfl⟩ := List.mem_map.mp hi
  have h := List.idxOf_lt_length_of_mem hx
  rw [List.getElem?_map, List.getElem?_eq_getElem h, List.getElem_idxOf h]
  rfl
theorem shape_mem {fr : List α} {n : Nat} (h : fr.length = n) : shape fr ∈ (shapes n).filter canon := by
  rw [List.mem_filter]
  refine ⟨?_, shape_canon fr⟩
  have := shape_take (fr := fr) (n := n) (Nat.le_of_eq h.symm)
  rwa [List.take_of_length_le (by simp [shape, h])] at this
def lit0 : List (List Int) := [[]]
theorem all0 : allR 0 = lit0 := by decide +kernel
theorem chk0 : ((shapes 0).filter canon).all (fun s => crows s 60 (some (first s)) == (lit0.filter fun row => bad row s == 0) && decide ((lit0.filter fun row => bad row s == 0).length < 60)) = true := by decide +kernel
def lit1 : List (List Int) := [[0]]
theorem all1 : allR 1 = lit1 := by decide +kernel
theorem chk1 : ((shapes 1).filter canon).all (fun s => crows s 60 (some (first s)) == (lit1.filter fun row => bad row s == 0) && decide ((lit1.filter fun row => bad row s == 0).length < 60)) = true := by decide +kernel
def lit2 : List (List Int) := [[0,0],[0,1]]
theorem all2 : allR 2 = lit2 := by decide +kernel
theorem chk2 : ((shapes 2).filter canon).all (fun s => crows s 60 (some (first s)) == (lit2.filter fun row => bad row s == 0) && decide ((lit2.filter fun row => bad row s == 0).length < 60)) = true := by decide +kernel
def lit3 : List (List Int) := [[0,0,0],[0,0,1],[0,1,0],[0,1,1],[0,1,2]]
theorem all3 : allR 3 = lit3 := by decide +kernel
theorem chk3 : ((shapes 3).filter canon).all (fun s => crows s 60 (some (first s)) == (lit3.filter fun row => bad row s == 0) && decide ((lit3.filter fun row => bad row s == 0).length < 60)) = true := by decide +kernel
def lit4 : List (List Int) := [[0,0,0,0],[0,0,0,1],[0,0,1,0],[0,0,1,1],[0,0,1,2],[0,1,0,0],[0,1,0,1],[0,1,0,2],[0,1,1,0],[0,1,1,1],[0,1,1,2],[0,1,2,0],[0,1,2,1],[0,1,2,2],[0,1,2,3]]
theorem all4 : allR 4 = lit4 := by decide +kernel
theorem chk4 : ((shapes 4).filter canon).all (fun s => crows s 60 (some (first s)) == (lit4.filter fun row => bad row s == 0) && decide ((lit4.filter fun row => bad row s == 0).length < 60)) = true := by decide +kernel
def lit5 : List (List Int) := [[0,0,0,0,0],[0,0,0,0,1],[0,0,0,1,0],[0,0,0,1,1],[0,0,0,1,2],[0,0,1,0,0],[0,0,1,0,1],[0,0,1,0,2],[0,0,1,1,0],[0,0,1,1,1],[0,0,1,1,2],[0,0,1,2,0],[0,0,1,2,1],[0,0,1,2,2],[0,0,1,2,3],[0,1,0,0,0],[0,1,0,0,1],[0,1,0,0,2],[0,1,0,1,0],[0,1,0,1,1],[0,1,0,1,2],[0,1,0,2,0],[0,1,0,2,1],[0,1,0,2,2],[0,1,0,2,3],[0,1,1,0,0],[0,1,1,0,1],[0,1,1,0,2],[0,1,1,1,0],[0,1,1,1,1],[0,1,1,1,2],[0,1,1,2,0],[0,1,1,2,1],[0,1,1,2,2],[0,1,1,2,3],[0,1,2,0,0],[0,1,2,0,1],[0,1,2,0,2],[0,1,2,0,3],[0,1,2,1,0],[0,1,2,1,1],[0,1,2,1,2],[0,1,2,1,3],[0,1,2,2,0],[0,1,2,2,1],[0,1,2,2,2],[0,1,2,2,3],[0,1,2,3,0],[0,1,2,3,1],[0,1,2,3,2],[0,1,2,3,3],[0,1,2,3,4]]
theorem all5 : allR 5 = lit5 := by decide +kernel
theorem chk5 : ((shapes 5).filter canon).all (fun s => crows s 60 (some (first s)) == (lit5.filter fun row => bad row s == 0) && decide ((lit5.filter fun row => bad row s == 0).length < 60)) = true := by decide +kernel
theorem rows_shape {s : List Nat} {n : Nat} (h : n ≤ 5) (hl : s.length = n) (hs : s ∈ (shapes n).filter canon) : crows s 60 (some (first s)) = due s ∧ (due s).length < 60 := by
  have key : ∀ lit : List (List Int), allR n = lit → ((shapes n).filter canon).all (fun s => crows s 60 (some (first s)) == (lit.filter fun row => bad row s == 0) && decide ((lit.filter fun row => bad row s == 0).length < 60)) = true → crows s 60 (some (first s)) = due s ∧ (due s).length < 60 := by
    intro lit e c
    have := List.all_eq_true.mp c s hs
    rw [Bool.and_eq_true] at this
    have d : due s = lit.filter fun row => bad row s == 0 := by
      unfold due
      rw [hl, e]
    rw [d]
    exact ⟨eq_of_beq this.1, of_decide_eq_true this.2⟩
  match n, h with
  | 0, _ => exact key _ all0 chk0
  | 1, _ => exact key _ all1 chk1
  | 2, _ => exact key _ all2 chk2
  | 3, _ => exact key _ all3 chk3
  | 4, _ => exact key _ all4 chk4
  | 5, _ => exact key _ all5 chk5
theorem rows_all {fr : List α} (h : fr.length ≤ 5) : crows fr 60 (some (first fr)) = due fr ∧ (due fr).length < 60 := by
  have := rows_shape (s := shape fr) h (by simp [shape]) (shape_mem rfl)
  unfold shape at this
  rw [first_map shape_inj, crows_map shape_inj, due_map shape_inj] at this
  exact this
end M22
/-! rows stay small -/
namespace M22
open Dl
variable {α : Type} [DecidableEq α]
def goodR (row : List Int) : Prop := ∀ (i : Nat) (e : Int), row[i]? = some e → 0 ≤ e ∧ e ≤ (i : Int)
theorem foldl_max_mem : ∀ (r : List Int) (n : Int), r.foldl max n ∈ n :: r ∧ ∀ e, e ∈ n :: r → e ≤ r.foldl max n
  | [], n => ⟨by simp, fun e h => by simp at h; simp [h]⟩
  | m :: r, n => by
    obtain ⟨h1, h2⟩ := foldl_max_mem r (max n m)
    refine ⟨?_, fun e he => ?_⟩
    · rw [List.foldl_cons]
      rcases List.mem_cons.mp h1 with h | h
      · rw [h]
        rcases Int.max_def n m ▸ (by split <;> simp : (if n ≤ m then m else n) = m ∨ (if n ≤ m then m else n) = n) with z | z <;> rw [z] <;> simp
      · simp [h]
    · rw [List.foldl_cons]
      have h0 := h2 (max n m) (by simp)
      rcases List.mem_cons.mp he with rfl | he
      · omega
      · rcases List.mem_cons.mp he with rfl | he
        · omega
        · exact h2 e (by simp [he])
theorem maxOr_ge {row : List Int} {e : Int} (h : e ∈ row) : e ≤ maxOr row (-1) := by
  cases row with
  | nil => cases h
  | cons n r => exact (foldl_max_mem r n).2 e h
theorem maxOr_good {row : List Int} (h : goodR row) : -1 ≤ maxOr row (-1) ∧ maxOr row (-1) + 1 ≤ row.length := by
  cases row with
  | nil => exact ⟨by decide, by decide⟩
  | cons n r =>
    obtain ⟨i, hi⟩ := List.mem_iff_getElem?.mp (foldl_max_mem r n).1
    have := h i _ hi
    have hl := (List.getElem?_eq_some_iff.mp hi).1
    have e : maxOr (n :: r) (-1) = r.foldl max n := rfl
    rw [e]
    omega
theorem good_small {row : List Int} (h : goodR row) (hl : row.length < 1000) : ∀ e, e ∈ row → 0 ≤ e ∧ e ≤ 1000 := fun e m => by
  obtain ⟨i, hi⟩ := List.mem_iff_getElem?.mp m
  have := h i e hi
  have hl := (List.getElem?_eq_some_iff.mp hi).1
  omega
theorem taken_sub {row : List Int} {fr : List α} {e : Int} (h : e ∈ taken row fr) : e ∈ row := by
  unfold taken at h
  obtain ⟨p, hp, rfl⟩ := List.mem_map.mp h
  exact (List.of_mem_zip (List.mem_filter.mp hp).1).1
theorem cfrom_range {least : Int} {row : List Int} {fr : List α} {e : Int} (h : cfrom least row fr = some e) : least ≤ e ∧ e ≤ maxOr row (-1) + 1 := by
  have := List.mem_of_find?_eq_some h
  unfold cands at this
  obtain ⟨i, hi, rfl⟩ := List.mem_map.mp this
  rw [List.mem_range] at hi
  omega
theorem cfrom_some {least : Int} {row : List Int} {fr : List α} (h : least ≤ maxOr row (-1) + 1) : ∃ e, cfrom least row fr = some e := by
  cases hc : cfrom least row fr with
  | some e => exact ⟨e, rfl⟩
  | none =>
    unfold cfrom at hc
    rw [List.find?_eq_none] at hc
    have m : maxOr row (-1) + 1 ∈ cands least row := by
      unfold cands
      refine List.mem_map.mpr ⟨(maxOr row (-1) + 1 - least).toNat, ?_, by omega⟩
      rw [List.mem_range]
      omega
    have := hc _ m
    have t : maxOr row (-1) + 1 ∈ taken row fr := by simpa using this
    have := maxOr_ge (taken_sub t)
    omega
theorem good_snoc {row : List Int} {e : Int} (h : goodR row) (h0 : 0 ≤ e) (h1 : e ≤ row.length) : goodR (row ++ [e]) := fun i x hx => by
  rcases Nat.lt_or_ge i row.length with lt | ge
  · rw [List.getElem?_append_left lt] at hx
    exact h i x hx
  · rw [List.getElem?_append_right ge] at hx
    cases hi : i - row.length with
    | zero =>
      rw [hi] at hx
      cases hx
      omega
    | succ j =>
      rw [hi] at hx
      cases hx
theorem good_take {row : List Int} (h : goodR row) (n : Nat) : goodR (row.take n) := fun i x hx => by
  rw [List.getElem?_take] at hx
  split at hx
  · exact h i x hx
  · cases hx
theorem step_good {row : List Int} {fr : List α} (h : goodR row) : ∃ e, cfrom 0 row fr = some e ∧ goodR (row ++ [e]) := by
  have hm := maxOr_good h
  obtain ⟨e, he⟩ := cfrom_some (least := 0) (row := row) (fr := fr) (by omega)
  have := cfrom_range he
  exact ⟨e, he, good_snoc h this.1 (by omega)⟩
theorem lrow_good {fr : List α} : ∀ (n : Nat) {row : List Int}, goodR row → goodR (lrow fr n row) ∧ (lrow fr n row).length = row.length + n
  | 0, row, h => ⟨h, rfl⟩
  | n + 1, row, h => by
    obtain ⟨e, he, hg⟩ := step_good (fr := fr) h
    unfold lrow
    rw [he]
    have := lrow_good (fr := fr) n hg
    refine ⟨this.1, ?_⟩
    rw [Option.getD_some, this.2]
    simp
    omega
theorem nrow_good {fr : List α} {row r : List Int} (h : goodR row) (hl : row.length = fr.length) (e : nrow row fr = some r) : goodR r ∧ r.length = fr.length := by
  unfold nrow at e
  obtain ⟨a, ha, e⟩ := List.exists_of_findSome?_eq_some e
  unfold downs at ha
  obtain ⟨i, hi, rfl⟩ := List.mem_map.mp ha
  rw [List.mem_range] at hi
  obtain ⟨x, hx, rfl⟩ := Option.map_eq_some_iff.mp e
  have ht := good_take h (row.length - 1 - i)
  have hr := cfrom_range hx
  have hm := maxOr_good ht
  have hx0 : 0 ≤ x := by
    cases hq : row[row.length - 1 - i]? with
    | none => rw [hq] at hr; simp at hr; omega
    | some y =>
      have := h _ y hq
      rw [hq] at hr
      simp at hr
      omega
  have hg := good_snoc ht hx0 (by omega)
  have := lrow_good (fr := fr) (fr.length - (row.length - 1 - i + 1)) hg
  refine ⟨this.1, ?_⟩
  rw [this.2]
  simp
  omega
end M22
/-! the powers of a deed of at most six states -/
namespace M22
theorem pigF : ∀ (n : Nat) (f : Nat → Nat), (∀ i, i ≤ n → f i < n) → ∃ i j, i < j ∧ j ≤ n ∧ f i = f j
  | 0, f, h => absurd (h 0 (Nat.le_refl 0)) (Nat.not_lt_zero _)
  | n + 1, f, h => by
    by_cases hx : ∃ i, i ≤ n ∧ f i = f (n + 1)
    · obtain ⟨i, h1, h2⟩ := hx
      exact ⟨i, n + 1, by omega, Nat.le_refl _, h2⟩
    · have hn := h (n + 1) (Nat.le_refl _)
      have hd : ∀ i, i ≤ n → f i ≠ f (n + 1) := fun i hi e => hx ⟨i, hi, e⟩
      obtain ⟨i, j, hij, hj, e⟩ := pigF n (fun i => if f i = n then f (n + 1) else f i) (fun i hi => by
        have h1 := h i (by omega)
        have h2 := hd i hi
        show (if f i = n then f (n + 1) else f i) < n
        split <;> omega)
      refine ⟨i, j, hij, by omega, ?_⟩
      have h1 := hd i (by omega)
      have h2 := hd j hj
      have e : (if f i = n then f (n + 1) else f i) = (if f j = n then f (n + 1) else f j) := e
      split at e <;> split at e <;> omega
def it (F : Nat → Nat) : Nat → Nat → Nat
  | 0, x => x
  | n + 1, x => F (it F n x)
variable {F : Nat → Nat}
theorem it_add : ∀ (a b x : Nat), it F (a + b) x = it F a (it F b x)
  | 0, b, x => by rw [Nat.zero_add]; rfl
  | a + 1, b, x => by
    rw [show a + 1 + b = (a + b) + 1 by omega]
    show F (it F (a + b) x) = F (it F a (it F b x))
    rw [it_add a b x]
theorem it_lt {m : Nat} (hF : ∀ x, x < m → F x < m) {x : Nat} (hx : x < m) : ∀ n, it F n x < m
  | 0 => hx
  | n + 1 => hF _ (it_lt hF hx n)
theorem it_mul {d z : Nat} (h : it F d z = z) : ∀ k, it F (k * d) z = z
  | 0 => by rw [Nat.zero_mul]; rfl
  | k + 1 => by rw [Nat.succ_mul, it_add, h, it_mul h k]
theorem it_dvd {d z k : Nat} (h : it F d z = z) (hd : d ∣ k) : it F k z = z := by
  obtain ⟨c, rfl⟩ := hd
  rw [Nat.mul_comm]
  exact it_mul h c
theorem it_comm (a b x : Nat) : it F a (it F b x) = it F b (it F a x) := by rw [← it_add, ← it_add, Nat.add_comm]
theorem d60 {d : Nat} (h0 : 1 ≤ d) (h6 : d ≤ 6) : d ∣ 60 := by
  rcases (by omega : d = 1 ∨ d = 2 ∨ d = 3 ∨ d = 4 ∨ d = 5 ∨ d = 6) with rfl | rfl | rfl | rfl | rfl | rfl <;> decide
theorem d12 {d : Nat} (h0 : 1 ≤ d) (h4 : d ≤ 4) : d ∣ 12 := by
  rcases (by omega : d = 1 ∨ d = 2 ∨ d = 3 ∨ d = 4) with rfl | rfl | rfl | rfl <;> decide
/-- every orbit comes round -/
theorem orbit {m : Nat} (hF : ∀ x, x < m → F x < m) {x : Nat} (hx : x < m) : ∃ a d, 1 ≤ d ∧ a + d ≤ m ∧ it F d (it F a x) = it F a x := by
  obtain ⟨i, j, h1, h2, e⟩ := pigF m (fun i => it F i x) fun i _ => it_lt hF hx i
  refine ⟨i, j - i, by omega, by omega, ?_⟩
  rw [← it_add, show j - i + i = j by omega]
  exact e.symm
theorem ends6 {m : Nat} (hm : m ≤ 6) (hF : ∀ x, x < m → F x < m) {y : Nat} (hy : y < m) : ∃ d, 1 ≤ d ∧ d ≤ m ∧ it F d (it F 6 y) = it F 6 y := by
  obtain ⟨a, d, h1, h2, e⟩ := orbit hF hy
  refine ⟨d, h1, by omega, ?_⟩
  rw [show it F 6 y = it F (6 - a) (it F a y) by rw [← it_add]; congr 1; omega, it_comm, e]
/-- two powers, both at most the 61st, are the same -/
theorem twice {m : Nat} (hm : m ≤ 6) (hF : ∀ x, x < m → F x < m) : ∃ a b, 1 ≤ a ∧ a < b ∧ b ≤ 61 ∧ ∀ x, x < m → it F a x = it F b x := by
  by_cases hc : ∀ x, x < m → ∃ d, 1 ≤ d ∧ d ≤ 6 ∧ it F d (it F 1 x) = it F 1 x
  · refine ⟨1, 61, Nat.le_refl _, by omega, Nat.le_refl _, fun x hx => ?_⟩
    obtain ⟨d, h1, h2, e⟩ := hc x hx
    rw [show 61 = 60 + 1 from rfl, it_add, it_dvd e (d60 h1 h2)]
  · have hx : ∃ x, x < m ∧ ∀ d, 1 ≤ d → d ≤ 6 → it F d (it F 1 x) ≠ it F 1 x := by
      false_or_by_contra
      rename_i hn
      exact hc fun x hx => by
        false_or_by_contra
        rename_i h2
        exact hn ⟨x, hx, fun d a b e => h2 ⟨d, a, b, e⟩⟩
    obtain ⟨x, hx, hd⟩ := hx
    refine ⟨6, 18, by omega, by omega, by omega, fun y hy => ?_⟩
    obtain ⟨d, h1, h2, e⟩ := ends6 hm hF hy
    have hz := it_lt hF hy 6
    generalize hzz : it F 6 y = z at e hz
    rw [show 18 = 12 + 6 from rfl, it_add, hzz]
    have far : ∀ i, it F d (it F i z) = it F i z := fun i => by rw [it_comm, e]
    obtain ⟨i, j, hij, hj, ee⟩ := pigF 6 (fun i => if i = 0 then x else if i = 1 then F x else it F (i - 2) z) (fun i _ => by
      have h3 := hF x hx
      have h4 := it_lt hF hz (i - 2)
      show (if i = 0 then x else if i = 1 then F x else it F (i - 2) z) < 6
      split
      · omega
      · split <;> omega)
    have ee : (if i = 0 then x else if i = 1 then F x else it F (i - 2) z) = (if j = 0 then x else if j = 1 then F x else it F (j - 2) z) := ee
    have j0 : ¬ j = 0 := by omega
    rw [if_neg j0] at ee
    by_cases i0 : i = 0
    · rw [if_pos i0] at ee
      split at ee
      · exact absurd (show it F 1 (it F 1 x) = it F 1 x from by show F (F x) = F x; rw [← ee, ← ee]) (hd 1 (by omega) (by omega))
      · refine absurd ?_ (hd d h1 (by omega))
        rw [it_comm]
        congr 1
        rw [ee]
        exact far _
    · have j1 : ¬ j = 1 := by omega
      rw [if_neg i0, if_neg j1] at ee
      split at ee
      · refine absurd ?_ (hd d h1 (by omega))
        show it F d (F x) = F x
        rw [ee]
        exact far _
      · -- z comes round in at most four steps
        have e4 : it F (j - i) z = z := by
          have a1 : it F (j - i) (it F (i - 2) z) = it F (i - 2) z := by
            rw [← it_add, ee]
            congr 1
            omega
          have a2 : it F ((i - 2) * d) z = z := it_mul e _
          have a3 : it F ((i - 2) * d) z = it F ((i - 2) * d - (i - 2)) (it F (i - 2) z) := by
            rw [← it_add]
            congr 1
            have : i - 2 ≤ (i - 2) * d := Nat.le_mul_of_pos_right _ h1
            omega
          rw [a3] at a2
          rw [← a2, it_comm, a1]
        exact (it_dvd e4 (d12 (by omega) (by omega))).symm
/-! a row of powers and its first double -/
section
variable {α : Type} {p : Nat → α}
/-- n is the first place (from 0) of one that was there before, at j -/
structure Firstn (p : Nat → α) (n j : Nat) : Prop where
  lt : j < n
  eq : p n = p j
  new : ∀ i k, i < k → k < n → p i ≠ p k
theorem firstn_of : ∀ (b : Nat), (∃ a, a < b ∧ p a = p b) → ∃ n j, n ≤ b ∧ Firstn p n j := by
  intro b
  induction b using Nat.strongRecOn with
  | ind b ih =>
    intro ⟨a, ha, e⟩
    by_cases h : ∃ k, k < b ∧ ∃ i, i < k ∧ p i = p k
    · obtain ⟨k, hk, i, hi, e2⟩ := h
      obtain ⟨n, j, h1, h2⟩ := ih k hk ⟨i, hi, e2⟩
      exact ⟨n, j, by omega, h2⟩
    · exact ⟨b, a, Nat.le_refl b, ha, e.symm, fun i k hi hk e2 => h ⟨k, hk, i, hi, e2⟩⟩
/-- from there on they come round -/
theorem round {n j : Nat} (f : Firstn p n j) (hg : ∀ a b, p a = p b → p (a + 1) = p (b + 1)) : ∀ t, p (j + t + (n - j)) = p (j + t)
  | 0 => by
    have := f.lt
    rw [show j + 0 + (n - j) = n by omega]
    exact f.eq
  | t + 1 => by
    rw [show j + (t + 1) + (n - j) = (j + t + (n - j)) + 1 by omega, show j + (t + 1) = j + t + 1 by omega]
    exact hg _ _ (round f hg t)
def num (n j L : Nat) : Nat := if L < n then L else j + (L - j) % (n - j)
theorem num_lt {n j L : Nat} (h : j < n) : num n j L < n := by
  unfold num
  split
  · assumption
  · have := Nat.mod_lt (L - j) (show n - j > 0 by omega)
    omega
theorem num_eq {n j : Nat} (f : Firstn p n j) (hg : ∀ a b, p a = p b → p (a + 1) = p (b + 1)) (L : Nat) : p (num n j L) = p L := by
  unfold num
  split
  · rfl
  · have hj := f.lt
    have key : ∀ q t, p (j + t + (n - j) * q) = p (j + t) := fun q t => by
      induction q with
      | zero => rfl
      | succ q ih =>
        rw [Nat.mul_succ, show j + t + ((n - j) * q + (n - j)) = j + (t + (n - j) * q) + (n - j) by omega, round f hg, ← ih]
        congr 1
        omega
    have := key ((L - j) / (n - j)) ((L - j) % (n - j))
    rw [← this]
    congr 1
    have := Nat.mod_add_div (L - j) (n - j)
    omega
theorem fit_iff {n j k L : Nat} (h : j < n) (hk : k < n) : (k = L ∨ (j ≤ k ∧ k < L ∧ (L - k) % (n - j) = 0)) ↔ k = num n j L := by
  unfold num
  split
  · refine ⟨fun o => ?_, .inl⟩
    rcases o with e | ⟨h1, h2, h3⟩
    · exact e
    · rw [Nat.mod_eq_of_lt (by omega)] at h3
      omega
  · constructor
    · intro o
      rcases o with e | ⟨h1, h2, h3⟩
      · omega
      · obtain ⟨q, hq⟩ := Nat.dvd_of_mod_eq_zero h3
        rw [show L - j = (k - j) + (n - j) * q by omega, Nat.add_mul_mod_self_left, Nat.mod_eq_of_lt (by omega)]
        omega
    · intro e
      refine .inr ⟨by omega, by omega, ?_⟩
      have := Nat.mod_add_div (L - j) (n - j)
      rw [show L - k = (n - j) * ((L - j) / (n - j)) by omega, Nat.mul_mod_right]
end
/-! the powers as lists -/
def aft (a b : List Nat) : List Nat := a.map fun s => b.getD s 0
def pw (f : List Nat) : Nat → List Nat
  | 0 => f
  | k + 1 => aft (pw f k) f
theorem pw_it {f : List Nat} (hf : ∀ s, s ∈ f → s < f.length) : ∀ k, pw f k = (List.range f.length).map (it (fun s => f.getD s 0) (k + 1))
  | 0 => by
    refine List.ext_getElem? fun i => ?_
    show f[i]? = _
    rw [List.getElem?_map]
    by_cases h : i < f.length
    · rw [List.getElem?_range h]
      simp [h, it]
    · rw [List.getElem?_eq_none (by omega), List.getElem?_eq_none (by rw [List.length_range]; omega)]
      rfl
  | k + 1 => by
    show (pw f k).map _ = _
    rw [pw_it hf k, List.map_map]
    rfl
theorem pw_len {f : List Nat} : ∀ k, (pw f k).length = f.length
  | 0 => rfl
  | k + 1 => by
    show ((pw f k).map _).length = _
    rw [List.length_map, pw_len k]
theorem pw_lt {f : List Nat} (hf : ∀ s, s ∈ f → s < f.length) : ∀ k s, s ∈ pw f k → s < f.length
  | 0, s, h => hf s h
  | k + 1, s, h => by
    obtain ⟨t, ht, rfl⟩ := List.mem_map.mp h
    have := pw_lt hf k t ht
    rw [List.getD_eq_getElem?_getD, List.getElem?_eq_getElem this]
    exact hf _ (List.getElem_mem this)
theorem pw_step {f : List Nat} (a b : Nat) (e : pw f a = pw f b) : pw f (a + 1) = pw f (b + 1) := by
  show aft _ _ = aft _ _
  rw [e]
theorem pw_first {f : List Nat} (hl : f.length ≤ 6) (hf : ∀ s, s ∈ f → s < f.length) : ∃ n j, n ≤ 60 ∧ Firstn (pw f) n j := by
  obtain ⟨a, b, h1, h2, h3, h4⟩ := twice hl (F := fun s => f.getD s 0) fun x hx => by
    show f.getD x 0 < _
    rw [List.getD_eq_getElem?_getD, List.getElem?_eq_getElem hx]
    exact hf _ (List.getElem_mem hx)
  obtain ⟨n, j, h5, h6⟩ := firstn_of (p := pw f) (b - 1) ⟨a - 1, by omega, by
    rw [pw_it hf, pw_it hf]
    refine List.map_congr_left fun x hx => ?_
    rw [show a - 1 + 1 = a by omega, show b - 1 + 1 = b by omega]
    exact h4 x (List.mem_range.mp hx)⟩
  exact ⟨n, j, by omega, h6⟩
end M22
set_option maxHeartbeats 4000000
namespace My
open PySem PySem.Spec PyProof.Rows L2 Lcn Sq Dl
/-- a form -/
def fmD (f : Int × List Int) : Dt := .tup [.int f.1, iT f.2]
/-- a form at numbers -/
def fval (f : Int × List Int) (ns : List Int) : Int := f.1 + ((f.2.zip ns).map fun p => p.1 * p.2).sum
def fgap (a b : Int × List Int) : Int × List Int := (a.1 - b.1, (a.2.zip b.2).map fun p => p.1 - p.2)
def sp_deed_after : Spc := fun δ Q => ∃ a b : List Nat, δ = [.val (iT (a.map Int.ofNat)), .val (iT (b.map Int.ofNat))] ∧ a.length < 1000 ∧ (∀ s, s ∈ a → s < b.length) ∧ Q (iT ((a.map fun s => b.getD s 0).map Int.ofNat))
def sp_form_gap : Spc := fun δ Q => ∃ a b : Int × List Int, δ = [.val (fmD a), .val (fmD b)] ∧ a.2.length < 1000 ∧ Q (fmD (fgap a b))
/-- the numbers of a list or a tuple -/
def numsD (d : Dt) (ns : List Int) : Prop := d = iT ns ∨ d = iL ns
theorem numsD.items {d : Dt} {ns : List Int} (h : numsD d ns) : itemsD d = some (ns.map .int) := by rcases h with rfl | rfl <;> rfl
def smallI (i : Int) : Prop := i.natAbs.log2 < 400000
def sp_form_value : Spc := fun δ Q => ∃ (f : Int × List Int) (d : Dt) (ns : List Int), δ = [.val (fmD f), .val d] ∧ numsD d ns ∧ f.2.length < 1000 ∧ (∀ i, i ∈ f.2 → smallI i) ∧ (∀ i, i ∈ ns → smallI i) ∧ Q (.int (fval f ns))
theorem map_int2 {α : Type} (f : α → Int) (xs : List α) : (xs.map fun x => Dt.int (f x)) = (xs.map f).map .int := by rw [List.map_map]; rfl
theorem zlen {α β : Type} {xs : List α} {ys : List β} (h : xs.length < 1000) : (xs.zip ys).length < sizeLine := k1000 (Nat.lt_of_le_of_lt (by rw [List.length_zip]; exact Nat.min_le_left _ _) h)
theorem sc_deed_after : FnScope ["first", "then", "state"] ["first", "then"] (defScope s_deed_after) := ⟨rfl, rfl, rfl, by decide +kernel, rfl, by decide +kernel, by decide +kernel⟩
section
variable {P : Program} {w : World} {K : PySem.W.Frag} {mg : Str → Option Value} {base : Heap}
theorem ok_deed_after (D_deed_after : Dn K mg "deed_after" s_deed_after ["first", "then"]) (T : TB mg) : FnOk P w K mg base CX0 1 D_deed_after.f D_deed_after.fd ["first", "then"] (dsp K 2 sp_deed_after) := by
  refine fn_d (k := 0) (N := ["first", "then", "state"]) D_deed_after.F sc_deed_after (fun cdv A outer s H E hr => (dss_one (ds_ret (de_callTy (fun _ => cr_tuple rfl) rc_tuple (fun _ => by rfl) (fun _ => T.tuple_) (by decide +kernel) (da_cons (de_n (dn_lc (o := true) (own := [(("state" : Str), 2)]) (fun _ => rfl) (fun _ => sc_deed_after.nd) (di_seq (de_var (fun _ => pv 0))) (fun _ => (blkOk_by (own := [(("state" : Str), 2)]) (N := ["first", "then", "state"]) (sc := defScope s_deed_after) (by decide +kernel))) (dg_name (i := 2) (fun _ => pg_name sc_deed_after.nd rfl (Or.inl rfl))) dts_nil (de_ixA (de_var (fun _ => pv 1)) (de_var (fun _ => pv 2)) (fun _ _ => rfl)) (by decide))) da_nil))))) (fun δ Qd l h => ?_)
  obtain ⟨a, b, rfl, hl, hs, hq⟩ := h
  refine ⟨rfl, by simpa using k1000 hl, ?_⟩
  rw [List.map_map]
  refine lc_map (fun s : Nat => Dt.int (Int.ofNat (b.getD s 0))) a (fun s m Q q => ?_) ?_
  · have hb := hs s m
    refine ⟨Dt.int (Int.ofNat (b.getD s 0)), ?_, q⟩
    refine atI_nat ?_
    simp [List.getD_eq_getElem?_getD, hb]
  · unfold iT at hq
    rw [List.map_map, List.map_map] at hq
    exact hq
end
theorem sc_form_gap : FnScope ["one", "other", "factor", "less"] ["one", "other"] (defScope s_form_gap) := ⟨rfl, rfl, rfl, by decide +kernel, rfl, by decide +kernel, by decide +kernel⟩
section
variable {P : Program} {w : World} {K : PySem.W.Frag} {mg : Str → Option Value} {base : Heap}
theorem ok_form_gap (D_form_gap : Dn K mg "form_gap" s_form_gap ["one", "other"]) (T : TB mg) : FnOk P w K mg base CX0 1 D_form_gap.f D_form_gap.fd ["one", "other"] (dsp K 2 sp_form_gap) := by
  refine fn_d (k := 0) (N := ["one", "other", "factor", "less"]) D_form_gap.F sc_form_gap (fun cdv A outer s H E hr => (dss_one (ds_ret (de_tup (da_cons (de_sub (de_ixA (de_var (fun _ => pv 0)) de_int (fun _ _ => rfl)) (de_ixA (de_var (fun _ => pv 1)) de_int (fun _ _ => rfl))) (da_cons (de_callTy (fun _ => cr_tuple rfl) rc_tuple (fun _ => by rfl) (fun _ => T.tuple_) (by decide +kernel) (da_cons (de_n (dn_lc (o := true) (own := [(("factor" : Str), 2), (("less" : Str), 3)]) (fun _ => rfl) (fun _ => sc_form_gap.nd) (di_zip (fun _ => by rfl) (fun _ => T.zip) (da_cons (de_ixA (de_var (fun _ => pv 0)) de_int (fun _ _ => rfl)) (da_cons (de_ixA (de_var (fun _ => pv 1)) de_int (fun _ _ => rfl)) da_nil))) (fun _ => (blkOk_by (own := [(("factor" : Str), 2), (("less" : Str), 3)]) (N := ["one", "other", "factor", "less"]) (sc := defScope s_form_gap) (by decide +kernel))) (dg_tup (n := 2) (dgs_cons (dg_name (i := 2) (fun _ => pg_name sc_form_gap.nd rfl (Or.inl rfl))) (dgs_cons (dg_name (i := 3) (fun _ => pg_name sc_form_gap.nd rfl (Or.inl rfl))) dgs_nil))) dts_nil (de_sub (de_var (fun _ => pv 2)) (de_var (fun _ => pv 3))) (by decide))) da_nil)) da_nil)))))) (fun δ Qd l h => ?_)
  obtain ⟨a, b, rfl, hl, hq⟩ := h
  refine ⟨_, rfl, _, rfl, _, rfl, _, rfl, _, _, rfl, rfl, rfl, ?_, ?_⟩
  · rw [pairD_map, List.length_map]
    exact zlen hl
  · rw [pairD_map]
    refine lc_map (fun p : Int × Int => Dt.int (p.1 - p.2)) _ (fun p m Q q => ⟨rfl, rfl, q⟩) ?_
    refine ⟨(by show 2 ≤ sizeLine; decide), ?_⟩
    rw [map_int2]
    exact hq
end
theorem sc_form_value : FnScope ["form", "numbers", "number", "factors", "factor", "value"] ["form", "numbers"] (defScope s_form_value) := ⟨rfl, rfl, rfl, by decide +kernel, rfl, by decide +kernel, by decide +kernel⟩
section
variable {P : Program} {w : World} {K : PySem.W.Frag} {mg : Str → Option Value} {base : Heap}
theorem ok_form_value (D_form_value : Dn K mg "form_value" s_form_value ["form", "numbers"]) (T : TB mg) : FnOk P w K mg base CX0 1 D_form_value.f D_form_value.fd ["form", "numbers"] (dsp K 2 sp_form_value) := by
  refine fn_d (k := 0) (N := ["form", "numbers", "number", "factors", "factor", "value"]) D_form_value.F sc_form_value (fun cdv A outer s H E hr => (dss_cons (ds_asg (fun _ p q => ps_asg p q) (de_var (fun _ => pv 0)) (dg_tup (n := 2) (dgs_cons (dg_name (i := 2) (fun _ => pg_name sc_form_value.nd rfl (by first | exact Or.inl rfl | exact Or.inr rfl))) (dgs_cons (dg_name (i := 3) (fun _ => pg_name sc_form_value.nd rfl (by first | exact Or.inl rfl | exact Or.inr rfl))) dgs_nil))))
  (dss_one (ds_ret (de_add (de_var (fun _ => pv 2)) (de_callB (fun _ => cr_sumK rfl rfl) rc_sum (fun _ => by rfl) (fun _ => T.sum_) (by decide +kernel) (da_cons (de_n (dn_lc (o := true) (own := [(("factor" : Str), 4), (("value" : Str), 5)]) (fun _ => rfl) (fun _ => sc_form_value.nd) (di_zip (fun _ => by rfl) (fun _ => T.zip) (da_cons (de_var (fun _ => pv 3)) (da_cons (de_var (fun _ => pv 1)) da_nil))) (fun _ => (blkOk_by (own := [(("factor" : Str), 4), (("value" : Str), 5)]) (N := ["form", "numbers", "number", "factors", "factor", "value"]) (sc := defScope s_form_value) (by decide +kernel))) (dg_tup (n := 2) (dgs_cons (dg_name (i := 4) (fun _ => pg_name sc_form_value.nd rfl (Or.inl rfl))) (dgs_cons (dg_name (i := 5) (fun _ => pg_name sc_form_value.nd rfl (Or.inl rfl))) dgs_nil))) dts_nil (de_mulA (de_var (fun _ => pv 4)) (de_var (fun _ => pv 5))) (by decide))) da_nil))))))) (fun δ Qd l h => ?_)
  obtain ⟨f, d, ns, rfl, hd, hl, hf, hn, hq⟩ := h
  refine ⟨rfl, rfl, _, _, rfl, hd.items, rfl, ?_, ?_⟩
  · rw [pairD_map, List.length_map]
    exact zlen hl
  · rw [pairD_map]
    refine lc_map (fun p : Int × Int => Dt.int (p.1 * p.2)) _ (fun p m Q q => ⟨rfl, rfl, ?_, q⟩) ?_
    · have h1 := hf _ (List.of_mem_zip m).1
      have h2 := hn _ (List.of_mem_zip m).2
      unfold smallI at h1 h2
      unfold CMulW
      omega
    · rw [map_int2]
      exact ⟨_, rfl, hq⟩
end
end My
set_option maxHeartbeats 4000000
namespace My
open PySem PySem.Spec PyProof.Rows L2 Lcn Sq Dl
open M22
def oI : Option Int → Dt
  | none => .non
  | some i => .int i
def oT : Option (List Int) → Dt
  | none => .non
  | some r => iT r
abbrev frD (fr : List (List Int)) : Dt := .lst (fr.map iT)
def smallR (row : List Int) : Prop := ∀ e, e ∈ row → 0 ≤ e ∧ e ≤ 1000
def sp_class_from : Spc := fun δ Q => ∃ (least : Int) (row : List Int) (fr : List (List Int)), δ = [.val (.int least), .val (iT row), .val (frD fr)] ∧ row.length < fr.length ∧ fr.length < 100 ∧ smallR row ∧ 0 ≤ least ∧ least ≤ 1001 ∧ Q (oI (cfrom least row fr))
theorem maxOr_le {row : List Int} (h : smallR row) : -1 ≤ maxOr row (-1) ∧ maxOr row (-1) ≤ 1000 := by
  cases row with
  | nil => exact ⟨by decide, by decide⟩
  | cons n r =>
    show -1 ≤ r.foldl max n ∧ r.foldl max n ≤ 1000
    have key : ∀ (r : List Int) (n : Int), (∀ e, e ∈ n :: r → 0 ≤ e ∧ e ≤ 1000) → 0 ≤ r.foldl max n ∧ r.foldl max n ≤ 1000 := by
      intro r
      induction r with
      | nil => exact fun n h => h n (by simp)
      | cons m r ih =>
        intro n h
        refine ih (max n m) fun e he => ?_
        rcases List.mem_cons.mp he with rfl | he
        · have h1 := h n (by simp)
          have h2 := h m (by simp)
          omega
        · exact h e (by simp [he])
    have := key r n h
    omega
theorem sc_class_from : FnScope ["least", "row", "factor_rows", "factors", "taken", "entry", "other"] ["least", "row", "factor_rows"] (defScope s_class_from) := ⟨rfl, rfl, rfl, by decide +kernel, rfl, by decide +kernel, by decide +kernel⟩
section
variable {P : Program} {w : World} {K : PySem.W.Frag} {mg : Str → Option Value} {base : Heap}
theorem ok_class_from (D_class_from : Dn K mg "class_from" s_class_from ["least", "row", "factor_rows"]) (T : TB mg) : FnOk P w K mg base CX0 1 D_class_from.f D_class_from.fd ["least", "row", "factor_rows"] (dsp K 3 sp_class_from) := by
  refine fn_d (k := 0) (N := ["least", "row", "factor_rows", "factors", "taken", "entry", "other"]) D_class_from.F sc_class_from (fun cdv A outer s H E hr => (dss_cons (ds_set (fun _ p => ps_set (i := 3) sc_class_from.nd rfl (by first | exact Or.inl rfl | exact Or.inr rfl) p) (de_ixA (de_var (fun _ => pv 2)) (de_callB (fun _ => cr_len rfl) rc_len (fun _ => by rfl) (fun _ => T.len) PySem.boot_len (da_cons (de_var (fun _ => pv 1)) da_nil)) (fun _ _ => rfl)))
  (dss_cons (ds_ofV (ds_lcN (o := true) (i := 4) (own := [(("entry" : Str), 5), (("other" : Str), 6)]) (fun _ => rfl) (fun _ => sc_class_from.nd) (fun _ => rfl) (fun _ => rfl) (fun _ => sw_true rfl rfl rfl (by decide +kernel)) (di_zip (fun _ => by rfl) (fun _ => T.zip) (da_cons (de_var (fun _ => pv 1)) (da_cons (de_var (fun _ => pv 2)) da_nil))) (fun _ => (blkOk_by (own := [(("entry" : Str), 5), (("other" : Str), 6)]) (N := ["least", "row", "factor_rows", "factors", "taken", "entry", "other"]) (sc := defScope s_class_from) (by decide +kernel))) (dg_tup (n := 2) (dgs_cons (dg_name (i := 5) (fun _ => pg_name sc_class_from.nd rfl (Or.inl rfl))) (dgs_cons (dg_name (i := 6) (fun _ => pg_name sc_class_from.nd rfl (Or.inl rfl))) dgs_nil))) (dts_one (dt_cmpC (cd_eq (fun _ => ru64 hr)) (de_var (fun _ => pv 6)) (de_var (fun _ => pv 3)) (nomark _))) (de_var (fun _ => pv 5)) (by decide) rfl))
  (dss_cons (ds_for (fun _ => rfl) (di_range2 (fun _ => by rfl) (fun _ => T.range) (da_cons (de_var (fun _ => pv 0)) (da_cons (de_add (de_maxDef (de_var (fun _ => pv 1)) (de_neg de_int) (fun _ => by rfl) (fun _ => T.max_) (fun _ => ru1 hr)) de_int) da_nil))) (dg_name (i := 5) (fun _ => pg_name sc_class_from.nd rfl (by first | exact Or.inl rfl | exact Or.inr rfl))) (dss_one (ds_if (dt_cmpC (cd_notIn (fun _ => ru65 hr)) (de_var (fun _ => pv 5)) (de_var (fun _ => pv 4)) (by rfl)) (dss_one (ds_ret (de_var (fun _ => pv 5)))) dss_nil)) (fun _ => PassesOwn.never))
  (dss_one (ds_ret de_non)))))) (fun δ Qd l h => ?_)
  obtain ⟨least, row, fr, rfl, hr, hf, sr, l0, l1, hq⟩ := h
  have hi : fr[row.length]? = some fr[row.length] := List.getElem?_eq_getElem hr
  refine ix_map (x := fr[row.length]) (by
    rw [List.length_map]
    exact atI_nat hi) ?_
  refine ⟨_, _, rfl, rfl, rfl, ?_, ?_⟩
  · rw [pairD_map, List.length_map]
    refine k1000 (Nat.lt_of_le_of_lt (by rw [List.length_zip]; exact Nat.min_le_left _ _) (by omega : row.length < 1000))
  rw [pairD_map]
  refine lc_fm (fun p : Int × List Int => decide (p.2 = fr[row.length])) (fun p => Dt.int p.1) _ [] (fun p m Q R h1 h2 => ?_) ?_
  · refine ⟨rfl, rfl, dEq_sep (f := iT) sep_iT fit_iT (by decide) ⟨_, rfl, ?_⟩⟩
    by_cases e : p.2 = fr[row.length]
    · rw [if_neg Bool.false_ne_true, decide_eq_true e]
      exact h1 (decide_eq_true e)
    · rw [if_neg Bool.false_ne_true, decide_eq_false e]
      exact h2 (decide_eq_false e)
  have et : ([] ++ ((row.zip fr).filter fun p => decide (p.2 = fr[row.length])).map fun p => Dt.int p.1) = (taken row fr).map Dt.int := by
    unfold taken
    rw [List.nil_append, List.map_map, hi]
    simp only [Option.some.injEq]
    rfl
  rw [et]
  have hm := maxOr_le sr
  refine ⟨1, rfl, row, -1, rfl, rfl, ⟨(b62 (by omega) (by omega)).1, (b62 (by omega) (by omega)).2, (b62 (by omega) (by omega)).1, (b62 (by omega) (by omega)).2⟩, ?_⟩
  rw [rngD_map]
  refine for_find (fun δ => ∃ s, δ = [.val (.int least), .val (iT row), .val (frD fr), .val (iT fr[row.length]), .val (iL (taken row fr)), s, .any]) (fun e => !(taken row fr).contains e) Dt.int _ _ ⟨_, rfl⟩ (fun e m δ N hI h1 h2 => ?_) (fun x hx => ?_) (fun hx δ hI => ?_)
  · obtain ⟨s, rfl⟩ := hI
    refine dIn_map sep_int (n := 0) (fit_int 0) (by decide) ⟨_, rfl, ?_⟩
    rw [if_pos rfl]
    have ec : (taken row fr).contains e = decide (e ∈ taken row fr) := by
      rw [Bool.eq_iff_iff]
      simp
    rw [ec] at h1 h2
    by_cases he : e ∈ taken row fr
    · rw [decide_eq_true he]
      exact h2 (by rw [decide_eq_true he]; rfl) _ ⟨_, rfl⟩
    · rw [decide_eq_false he]
      exact h1 (by rw [decide_eq_false he]; rfl)
  · have : cfrom least row fr = some x := hx
    rw [this] at hq
    exact hq
  · obtain ⟨s, rfl⟩ := hI
    have : cfrom least row fr = none := hx
    rw [this] at hq
    exact hq
end
end My
set_option maxHeartbeats 4000000
namespace My
open PySem PySem.Spec PyProof.Rows L2 Lcn Sq Dl
open M22
theorem ite_t {c : Bool} {A B : Prop} (e : c = true) (h : A) : if c = true then A else B := by rw [if_pos e]; exact h
theorem ite_f {c : Bool} {A B : Prop} (e : c = false) (h : B) : if c = true then A else B := by rw [e, if_neg Bool.false_ne_true]; exact h
def sp_least_class_row : Spc := fun δ Q => ∃ (b : List Int) (fr : List (List Int)), δ = [.val (iT b), .val (frD fr)] ∧ b.length ≤ fr.length ∧ fr.length < 100 ∧ goodR b ∧ Q (iT (lrow fr (fr.length - b.length) b))
def sp_next_class_row : Spc := fun δ Q => ∃ (row : List Int) (fr : List (List Int)), δ = [.val (iT row), .val (frD fr)] ∧ row.length = fr.length ∧ fr.length < 100 ∧ goodR row ∧ Q (oT (nrow row fr))
theorem sc_least_class_row : FnScope ["begin", "factor_rows", "row"] ["begin", "factor_rows"] (defScope s_least_class_row) := ⟨rfl, rfl, rfl, by decide +kernel, rfl, by decide +kernel, by decide +kernel⟩
section
variable {P : Program} {w : World} {K : PySem.W.Frag} {mg : Str → Option Value} {base : Heap}
theorem ok_least_class_row (D_least_class_row : Dn K mg "least_class_row" s_least_class_row ["begin", "factor_rows"]) (D_class_from : Dn K mg "class_from" s_class_from ["least", "row", "factor_rows"]) (G_class_from : FnOk P w K mg base CX0 1 D_class_from.f D_class_from.fd ["least", "row", "factor_rows"] (dsp K 3 sp_class_from)) (T : TB mg) : FnOk P w K mg base CX0 2 D_least_class_row.f D_least_class_row.fd ["begin", "factor_rows"] (dsp K 2 sp_least_class_row) := by
  refine fn_d (k := 1) (N := ["begin", "factor_rows", "row"]) D_least_class_row.F sc_least_class_row (fun cdv A outer s H E hr => (dss_cons (ds_set (fun _ p => ps_set (i := 2) sc_least_class_row.nd rfl (by first | exact Or.inl rfl | exact Or.inr rfl) p) (de_var (fun _ => pv 0)))
  (dss_cons (ds_while (dt_cmpC cd_lt (de_callB (fun _ => cr_len rfl) rc_len (fun _ => by rfl) (fun _ => T.len) PySem.boot_len (da_cons (de_var (fun _ => pv 2)) da_nil)) (de_callB (fun _ => cr_len rfl) rc_len (fun _ => by rfl) (fun _ => T.len) PySem.boot_len (da_cons (de_var (fun _ => pv 1)) da_nil)) (nomark _)) (dss_one (ds_set (fun _ p => ps_set (i := 2) sc_least_class_row.nd rfl (by first | exact Or.inl rfl | exact Or.inr rfl) p) (de_add (de_var (fun _ => pv 2)) (de_tup (da_cons (de_call (fun _ pa => pe_call G_class_from (hr.mono (by decide)) (by rfl) D_class_from.m D_class_from.F.kp D_class_from.b .nil pass0 pa) (dl_val de_int (dl_val (de_var (fun _ => pv 2)) (dl_val (de_var (fun _ => pv 1)) dl_nil)))) da_nil))))) (fun _ => PassesOwn.never))
  (dss_one (ds_ret (de_var (fun _ => pv 2))))))) (fun δ Qd l h => ?_)
  obtain ⟨b, fr, rfl, hl, hf, hg, hq⟩ := h
  refine ⟨fun m δ => ∃ row, δ = [.val (iT b), .val (frD fr), .val (iT row)] ∧ row.length + m = fr.length ∧ goodR row ∧ lrow fr m row = lrow fr (fr.length - b.length) b, ⟨fr.length - b.length, b, rfl, by omega, hg, rfl⟩, fun m δ hI => ?_⟩
  obtain ⟨row, rfl, hr, gr, hw⟩ := hI
  have ed : ∀ x : Bool, x = decide (row.length < fr.length) → decide ((((row.map Dt.int).length : Nat) : Int) < (((fr.map iT).length : Nat) : Int)) = x := fun x e => by
    rw [e]
    simp
  cases m with
  | zero =>
    refine ⟨_, rfl, ite_f (ed false (by simp; omega)) ?_⟩
    have : row = lrow fr (fr.length - b.length) b := hw
    rw [← this] at hq
    exact hq
  | succ m =>
    refine ⟨_, rfl, ite_t (ed true (by simp; omega)) ?_⟩
    obtain ⟨e, he, hg'⟩ := step_good (fr := fr) gr
    refine ⟨rfl, 0, row, fr, rfl, by omega, by omega, good_small gr (by omega), by omega, by omega, ?_⟩
    rw [he]
    refine ⟨(by show 1 ≤ sizeLine; decide), ?_⟩
    refine ⟨?_, m, Nat.lt_succ_self m, row ++ [e], ?_, by simp; omega, hg', ?_⟩
    · rw [List.length_map]
      exact le1000 (by show row.length + 1 ≤ 1000; omega)
    · unfold iT
      rw [List.map_append]
      rfl
    · rw [← hw]
      show _ = lrow fr m (row ++ [(cfrom 0 row fr).getD 0])
      rw [he]
      rfl
end
theorem sc_next_class_row : FnScope ["row", "factor_rows", "at", "entry"] ["row", "factor_rows"] (defScope s_next_class_row) := ⟨rfl, rfl, rfl, by decide +kernel, rfl, by decide +kernel, by decide +kernel⟩
section
variable {P : Program} {w : World} {K : PySem.W.Frag} {mg : Str → Option Value} {base : Heap}
theorem ok_next_class_row (D_next_class_row : Dn K mg "next_class_row" s_next_class_row ["row", "factor_rows"]) (D_class_from : Dn K mg "class_from" s_class_from ["least", "row", "factor_rows"]) (G_class_from : FnOk P w K mg base CX0 1 D_class_from.f D_class_from.fd ["least", "row", "factor_rows"] (dsp K 3 sp_class_from)) (D_least_class_row : Dn K mg "least_class_row" s_least_class_row ["begin", "factor_rows"]) (G_least_class_row : FnOk P w K mg base CX0 2 D_least_class_row.f D_least_class_row.fd ["begin", "factor_rows"] (dsp K 2 sp_least_class_row)) (T : TB mg) : FnOk P w K mg base CX0 3 D_next_class_row.f D_next_class_row.fd ["row", "factor_rows"] (dsp K 2 sp_next_class_row) := by
  refine fn_d (k := 2) (N := ["row", "factor_rows", "at", "entry"]) D_next_class_row.F sc_next_class_row (fun cdv A outer s H E hr => (dss_cons (ds_for (fun _ => rfl) (di_range3 (fun _ => by rfl) (fun _ => T.range) (da_cons (de_sub (de_callB (fun _ => cr_len rfl) rc_len (fun _ => by rfl) (fun _ => T.len) PySem.boot_len (da_cons (de_var (fun _ => pv 0)) da_nil)) de_int) (da_cons (de_neg de_int) (da_cons (de_neg de_int) da_nil)))) (dg_name (i := 2) (fun _ => pg_name sc_next_class_row.nd rfl (by first | exact Or.inl rfl | exact Or.inr rfl))) (dss_cons (ds_set (fun _ p => ps_set (i := 3) sc_next_class_row.nd rfl (by first | exact Or.inl rfl | exact Or.inr rfl) p) (de_call (fun _ pa => pe_call G_class_from (hr.mono (by decide)) (by rfl) D_class_from.m D_class_from.F.kp D_class_from.b .nil pass0 pa) (dl_val (de_add (de_ixA (de_var (fun _ => pv 0)) (de_var (fun _ => pv 2)) (fun _ _ => rfl)) de_int) (dl_val (de_slice (de_var (fun _ => pv 0)) do_none (do_some (de_var (fun _ => pv 2)))) (dl_val (de_var (fun _ => pv 1)) dl_nil)))))
  (dss_one (ds_if (dt_cmpC cd_notN (de_var (fun _ => pv 3)) de_non (nomark _)) (dss_one (ds_ret (de_call (fun _ pa => pe_call G_least_class_row (hr.mono (by decide)) (by rfl) D_least_class_row.m D_least_class_row.F.kp D_least_class_row.b .nil pass0 pa) (dl_val (de_add (de_slice (de_var (fun _ => pv 0)) do_none (do_some (de_var (fun _ => pv 2)))) (de_tup (da_cons (de_var (fun _ => pv 3)) da_nil))) (dl_val (de_var (fun _ => pv 1)) dl_nil))))) dss_nil))) (fun _ => PassesOwn.never))
  (dss_one (ds_ret de_non)))) (fun δ Qd l h => ?_)
  obtain ⟨row, fr, rfl, hl, hf, hg, hq⟩ := h
  have hb := b62 (i := ((row.map Dt.int).length : Nat) - 1) (by omega) (by rw [List.length_map]; omega)
  have hrg := RgC.neg (j := -1) hb.1 hb.2 (b62 (by omega) (by omega)).1 (b62 (by omega) (by omega)).2
  refine ⟨_, rfl, _, rfl, _, hrg, ?_⟩
  have er : rngC (((row.map Dt.int).length : Nat) - 1 : Int) (-1) ((((row.map Dt.int).length : Nat) - 1 : Int) - -1).toNat = (downs row.length).map fun (a : Nat) => Dt.int (a : Int) := by
    unfold rngC downs
    rw [List.map_map, List.length_map, show ((row.length : Int) - 1 - -1).toNat = row.length by omega]
    refine List.map_congr_left fun i hi => ?_
    rw [List.mem_range] at hi
    show Dt.int _ = Dt.int _
    congr 1
    show ((row.length : Nat) : Int) - 1 + (i : Int) * -1 = ((row.length - 1 - i : Nat) : Int)
    omega
  rw [er]
  refine for_some (fun δ => ∃ s1 s2, δ = [.val (iT row), .val (frD fr), s1, s2]) (fun a => (cfrom ((row[a]?).getD 0 + 1) (row.take a) fr).map fun e => lrow fr (fr.length - (a + 1)) (row.take a ++ [e])) iT _ _ ⟨_, _, rfl⟩ (fun a m δ N hI h1 h2 => ?_) (fun y hy => ?_) (fun hn δ hI => ?_)
  · obtain ⟨s1, s2, rfl⟩ := hI
    have ha : a < row.length := by
      unfold downs at m
      obtain ⟨i, hi, rfl⟩ := List.mem_map.mp m
      rw [List.mem_range] at hi
      omega
    have hx : row[a]? = some row[a] := List.getElem?_eq_getElem ha
    have gx := hg a _ hx
    have gt := good_take hg a
    rw [hx] at h1 h2
    refine ⟨_, atI_map (f := Dt.int) (atI_nat hx), _, rfl, rfl, row[a] + 1, row.take a, fr, ?_, ?_, by omega, good_small gt ?_, by omega, by omega, ?_⟩
    · rw [cutD_pre]
    · rw [List.length_take]
      omega
    · rw [List.length_take]
      omega
    · have h1' : ∀ y, (cfrom (row[a] + 1) (row.take a) fr).map (fun e => lrow fr (fr.length - (a + 1)) (row.take a ++ [e])) = some y → _ := h1
      have h2' : (cfrom (row[a] + 1) (row.take a) fr).map (fun e => lrow fr (fr.length - (a + 1)) (row.take a ++ [e])) = none → _ := h2
      cases hc : cfrom (row[a] + 1) (row.take a) fr with
      | none =>
        refine ⟨rfl, _, rfl, ite_f rfl ?_⟩
        exact h2' (by rw [hc]; rfl) _ ⟨_, _, rfl⟩
      | some e =>
        refine ⟨rfl, _, rfl, ite_t rfl ?_⟩
        have ce := cfrom_range hc
        have cm := maxOr_good gt
        have hl' : (row.take a).length = a := by rw [List.length_take]; omega
        refine ⟨_, rfl, (by show 1 ≤ sizeLine; decide), ?_, rfl, row.take a ++ [e], fr, ?_, by rw [List.length_append, hl']; show a + 1 ≤ _; omega, hf, good_snoc gt (by omega) (by omega), ?_⟩
        · rw [cutD_pre, List.length_map, hl']
          exact le1000 (by show a + 1 ≤ 1000; omega)
        · rw [cutD_pre]
          unfold iT
          rw [List.map_append]
          rfl
        · have := h1' _ (by rw [hc]; rfl)
          rw [List.length_append, hl']
          exact this
  · have : nrow row fr = some y := hy
    rw [this] at hq
    exact hq
  · obtain ⟨s1, s2, rfl⟩ := hI
    have : nrow row fr = none := hn
    rw [this] at hq
    exact hq
end
end My
set_option maxHeartbeats 4000000
namespace My
open PySem PySem.Spec PyProof.Rows L2 Lcn Sq Dl
open M22
/-- forms, in a list or a tuple -/
def formsD (d : Dt) (fs : List (Int × List Int)) : Prop := d = .lst (fs.map fmD) ∨ d = .tup (fs.map fmD)
theorem formsD.items {d : Dt} {fs : List (Int × List Int)} (h : formsD d fs) : itemsD d = some (fs.map fmD) := by rcases h with rfl | rfl <;> rfl
def sp_class_rows : SpcG := fun δ Q => ∃ (d : Dt) (fs : List (Int × List Int)), δ = [.val d] ∧ formsD d fs ∧ fs.length ≤ 5 ∧ (∀ f, f ∈ fs → f.2.length < 1000) ∧ Q ((due (fs.map (·.2))).map iT)
theorem sc_class_rows : GScope ["forms", "factor_rows", "row", "_", "factors"] ["forms"] (defScope s_class_rows) := ⟨rfl, rfl, rfl, by decide +kernel, rfl, by decide +kernel, by decide +kernel⟩
section
variable {P : Program} {w : World} {K : PySem.W.Frag} {mg : Str → Option Value} {base : Heap}
theorem ok_class_rows (D_class_rows : Dn K mg "class_rows" s_class_rows ["forms"]) (D_least_class_row : Dn K mg "least_class_row" s_least_class_row ["begin", "factor_rows"]) (G_least_class_row : FnOk P w K mg base CX0 2 D_least_class_row.f D_least_class_row.fd ["begin", "factor_rows"] (dsp K 2 sp_least_class_row)) (D_next_class_row : Dn K mg "next_class_row" s_next_class_row ["row", "factor_rows"]) (G_next_class_row : FnOk P w K mg base CX0 3 D_next_class_row.f D_next_class_row.fd ["row", "factor_rows"] (dsp K 2 sp_next_class_row)) (T : TB mg) : GFn P w K mg base 4 D_class_rows.f D_class_rows.fd ["forms"] (dspG K 1 sp_class_rows) := by
  refine gfn_d (k := 3) (N := ["forms", "factor_rows", "row", "_", "factors"]) D_class_rows.F sc_class_rows (fun cdv A outer s H E pn hr => (dgns_cons (dgn_plain (ds_ofV (ds_lcN (o := true) (i := 1) (own := [(("_" : Str), 3), (("factors" : Str), 4)]) (fun _ => rfl) (fun _ => sc_class_rows.nd) (fun _ => rfl) (fun _ => rfl) (fun _ => sw_true rfl rfl rfl (by decide +kernel)) (di_seq (de_var (fun _ => pv 0))) (fun _ => (blkOk_by (own := [(("_" : Str), 3), (("factors" : Str), 4)]) (N := ["forms", "factor_rows", "row", "_", "factors"]) (sc := defScope s_class_rows) (by decide +kernel))) (dg_tup (n := 2) (dgs_cons (dg_name (i := 3) (fun _ => pg_name sc_class_rows.nd rfl (Or.inl rfl))) (dgs_cons (dg_name (i := 4) (fun _ => pg_name sc_class_rows.nd rfl (Or.inl rfl))) dgs_nil))) dts_nil (de_callTy (fun _ => cr_tuple rfl) rc_tuple (fun _ => by rfl) (fun _ => T.tuple_) (by decide +kernel) (da_cons (de_callTy (fun _ => cr_list rfl) rc_list (fun _ => by rfl) (fun _ => T.list_) (by decide +kernel) (da_cons (de_var (fun _ => pv 4)) da_nil)) da_nil)) (by decide) rfl)))
  (dgns_cons (dgn_plain (ds_set (fun _ p => ps_set (i := 2) sc_class_rows.nd rfl (by first | exact Or.inl rfl | exact Or.inr rfl) p) (de_call (fun _ pa => pe_call G_least_class_row (hr.mono (by decide)) (by rfl) D_least_class_row.m D_least_class_row.F.kp D_least_class_row.b .nil pass0 pa) (dl_val (de_tup da_nil) (dl_val (de_var (fun _ => pv 1)) dl_nil)))))
  (dgns_cons (dgn_while (dt_cmpC cd_notN (de_var (fun _ => pv 2)) de_non (nomark _)) (dgns_cons (dgn_yield (de_var (fun _ => pv 2)))
  (dgns_cons (dgn_plain (ds_set (fun _ p => ps_set (i := 2) sc_class_rows.nd rfl (by first | exact Or.inl rfl | exact Or.inr rfl) p) (de_call (fun _ pa => pe_call G_next_class_row (hr.mono (by decide)) (by rfl) D_next_class_row.m D_next_class_row.F.kp D_next_class_row.b .nil pass0 pa) (dl_val (de_var (fun _ => pv 2)) (dl_val (de_var (fun _ => pv 1)) dl_nil)))))
  dgns_nil)) (fun _ => owns_gcx))
  dgns_nil)))) (fun δ Qd l h => ?_)
  obtain ⟨d, fs, rfl, hd, hl, hf, hq⟩ := h
  have hrows := rows_all (fr := fs.map (·.2)) (by rw [List.length_map]; exact hl)
  have h0 : goodR (first (fs.map (·.2))) ∧ (first (fs.map (·.2))).length = (fs.map (·.2)).length := by
    have := lrow_good (fr := fs.map (·.2)) (fs.map (·.2)).length (row := []) (fun i e h => by cases h)
    refine ⟨this.1, ?_⟩
    rw [show first (fs.map (·.2)) = lrow (fs.map (·.2)) (fs.map (·.2)).length [] from rfl, this.2]
    exact Nat.zero_add _
  have hlen : (fs.map (·.2)).length < 100 := by rw [List.length_map]; omega
  have hs0 : fs.length < sizeLine := k1000 (by omega)
  rcases hd with rfl | rfl
  all_goals
    refine ⟨rfl, by rw [List.length_map]; exact hs0, ?_⟩
    refine lc_map (fun f : Int × List Int => iT f.2) fs (fun f m Q q => ?_) ?_
    · exact ⟨rfl, rfl, q⟩
    have ef : (fs.map fun f : Int × List Int => iT f.2) = (fs.map (·.2)).map iT := by rw [List.map_map]; rfl
    rw [ef]
    generalize fs.map (·.2) = fr at hrows h0 hlen hq
    refine ⟨(by show 0 ≤ sizeLine; decide), rfl, [], fr, rfl, Nat.zero_le _, hlen, (fun i e h => by cases h), ?_⟩
    refine ⟨fun m yd δ => ∃ r s1 s2, δ = [.val _, .val (frD fr), .val (oT r), s1, s2] ∧ (∀ x, r = some x → goodR x ∧ x.length = fr.length) ∧ yd ++ (crows fr m r).map iT = (due fr).map iT ∧ yd.length + m = 60, ⟨60, some (first fr), _, _, rfl, fun x e => by cases e; exact h0, by rw [hrows.1]; rfl, rfl⟩, fun m yd δ hI => ?_⟩
    obtain ⟨r, s1, s2, rfl, hg, he, hm⟩ := hI
    have hd60 : ((due fr).map iT).length < 60 := by rw [List.length_map]; exact hrows.2
    cases r with
    | none =>
      refine ⟨rfl, _, rfl, ite_f rfl ?_⟩
      have : crows fr m none = [] := by cases m <;> rfl
      rw [this, List.map_nil, List.append_nil] at he
      rw [he]
      exact hq
    | some x =>
      obtain ⟨gx, lx⟩ := hg x rfl
      refine ⟨rfl, _, rfl, ite_t rfl ?_⟩
      cases m with
      | zero =>
        have := congrArg List.length he
        rw [List.length_append] at this
        omega
      | succ m =>
        refine ⟨k1000 (by omega), rfl, x, fr, rfl, lx, hlen, gx, ?_⟩
        refine ⟨m, Nat.lt_succ_self m, nrow x fr, _, _, rfl, fun y e => nrow_good gx lx e, ?_, ?_⟩
        · rw [← he]
          show _ = yd ++ (x :: crows fr m (nrow x fr)).map iT
          rw [List.map_cons, List.append_assoc]
          rfl
        · simp
          omega
end
end My
set_option maxHeartbeats 4000000
namespace My
open PySem PySem.Spec PyProof.Rows L2 Lcn Sq Dl
open M22
def deedD (f : List Nat) : Dt := iT (f.map Int.ofNat)
def kk (p : List Nat) : List Key := p.map fun (s : Nat) => (Sum.inl (s : Int) : Key)
theorem kys_deed : ∀ (p : List Nat), kysD ((p.map Int.ofNat).map Dt.int) = some (kk p)
  | [] => rfl
  | s :: p => by
    rw [List.map_cons, List.map_cons]
    show (some (Sum.inl (Int.ofNat s) : Key)).bind (fun k => (kysD ((p.map Int.ofNat).map Dt.int)).map fun ks => k :: ks) = _
    rw [kys_deed p]
    rfl
theorem kk_inj {p q : List Nat} (h : kk p = kk q) : p = q := by
  unfold kk at h
  refine List.map_inj_right (fun x y e => ?_) |>.mp h
  injection e with e
  omega
def ents (f : List Nat) (i : Nat) : List (List Key × Dt) := (List.range i).map fun k => (kk (pw f k), Dt.int ((k + 1 : Nat) : Int))
theorem ents_none {f : List Nat} {n j i : Nat} (h : Firstn (pw f) n j) (hi : i < n) : ∀ e, e ∈ ents f i → e.1 ≠ kk (pw f i) := fun e he z => by
  obtain ⟨k, hk, rfl⟩ := List.mem_map.mp he
  exact h.new k i (List.mem_range.mp hk) hi (kk_inj z)
theorem ents_some {f : List Nat} {n j : Nat} (h : Firstn (pw f) n j) : valD (ents f n) (kk (pw f n)) = some (Dt.int ((j + 1 : Nat) : Int)) := by
  have hj := h.lt
  unfold valD ents
  rw [List.find?_map]
  have : (List.range n).find? ((fun e : List Key × Dt => decide (e.1 = kk (pw f n))) ∘ fun k => (kk (pw f k), Dt.int ((k + 1 : Nat) : Int))) = some j := by
    rw [List.find?_range_eq_some]
    refine ⟨?_, ?_, fun k hk => ?_⟩
    · simp [h.eq]
    · simpa using hj
    · have : kk (pw f k) ≠ kk (pw f n) := fun z => h.new k j hk hj (by rw [kk_inj z, h.eq])
      simpa using this
  rw [this]
  rfl
def sp_power_of : Spc := fun δ Q => ∃ (f : List Nat) (n j : Nat), δ = [.val (deedD f)] ∧ (∀ s, s ∈ f → s < f.length) ∧ f.length < 1000 ∧ Firstn (pw f) n j ∧ n ≤ 60 ∧ Q (.tup [.int (j + 1 : Nat), .int (n - j : Nat)])
theorem sc_power_of : FnScope ["deed", "power", "places", "many"] ["deed"] (defScope s_power_of) := ⟨rfl, rfl, rfl, by decide +kernel, rfl, by decide +kernel, by decide +kernel⟩
section
variable {P : Program} {w : World} {K : PySem.W.Frag} {mg : Str → Option Value} {base : Heap}
theorem ok_power_of (D_power_of : Dn K mg "power_of" s_power_of ["deed"]) (D_deed_after : Dn K mg "deed_after" s_deed_after ["first", "then"]) (G_deed_after : FnOk P w K mg base CX0 1 D_deed_after.f D_deed_after.fd ["first", "then"] (dsp K 2 sp_deed_after)) (T : TB mg) : FnOk P w K mg base CX0 2 D_power_of.f D_power_of.fd ["deed"] (dsp K 1 sp_power_of) := by
  refine fn_d (k := 1) (N := ["deed", "power", "places", "many"]) D_power_of.F sc_power_of (fun cdv A outer s H E hr => (dss_cons (ds_set (fun _ p => ps_set (i := 1) sc_power_of.nd rfl (by first | exact Or.inl rfl | exact Or.inr rfl) p) (de_callTy (fun _ => cr_tuple rfl) rc_tuple (fun _ => by rfl) (fun _ => T.tuple_) (by decide +kernel) (da_cons (de_var (fun _ => pv 0)) da_nil)))
  (dss_cons (ds_dnew true (fun _ p => ps_set (i := 2) sc_power_of.nd rfl (by first | exact Or.inl rfl | exact Or.inr rfl) p) (fun _ => pe_dnewT))
  (dss_cons (ds_set (fun _ p => ps_set (i := 3) sc_power_of.nd rfl (by first | exact Or.inl rfl | exact Or.inr rfl) p) de_int)
  (dss_cons (ds_while (dt_dnotin (fun _ => pv 2) (de_var (fun _ => pv 1)) (fun _ => ru1 hr)) (dss_cons (ds_dput (fun _ => pv 2) (de_var (fun _ => pv 3)) (de_var (fun _ => pv 1)) (fun _ => ru1 hr))
  (dss_cons (ds_set (fun _ p => ps_set (i := 1) sc_power_of.nd rfl (by first | exact Or.inl rfl | exact Or.inr rfl) p) (de_call (fun _ pa => pe_call G_deed_after (hr.mono (by decide)) (by rfl) D_deed_after.m D_deed_after.F.kp D_deed_after.b .nil pass0 pa) (dl_val (de_var (fun _ => pv 1)) (dl_val (de_var (fun _ => pv 0)) dl_nil))))
  (dss_one (ds_aug (i := 3) (f := fun i j => i + j) (fun _ p => ps_aug (i := 3) sc_power_of.nd rfl (by first | exact Or.inl rfl | exact Or.inr rfl) p ip_add) de_int)))) (fun _ => PassesOwn.never))
  (dss_one (ds_ret (de_tup (da_cons (de_low (de_dget (fun _ => pv 2) (de_var (fun _ => pv 1)) (fun _ _ => rfl) (fun _ => ru1 hr))) (da_cons (de_sub (de_var (fun _ => pv 3)) (de_low (de_dget (fun _ => pv 2) (de_var (fun _ => pv 1)) (fun _ _ => rfl) (fun _ => ru1 hr)))) da_nil)))))))))) (fun δ Qd l h => ?_)
  obtain ⟨f, n, j, rfl, hf, hl, hn, h60, hq⟩ := h
  intro a
  refine ⟨fun m δ => ∃ i, i + m = n ∧ δ = [.val (deedD f), .val (deedD (pw f i)), .own a (.t (ents f i)), .val (.int (i + 1 : Nat))], ⟨n, 0, by omega, rfl⟩, fun m δ hI => ?_⟩
  obtain ⟨i, hi, rfl⟩ := hI
  cases m with
  | zero =>
    obtain rfl : i = n := by omega
    have hv := ents_some hn
    have hlk : lookO (.t (ents f i)) (deedD (pw f i)) = some (some (.int (j + 1 : Nat))) := by
      show (kysD _).map _ = _
      rw [kys_deed, Option.map_some, hv]
    refine ⟨_, hlk, _, rfl, ite_f rfl ?_⟩
    refine ⟨_, hlk, _, hlk, (by show 2 ≤ sizeLine; decide), ?_⟩
    have := hn.lt
    rw [show ((i - j : Nat) : Int) = ((i + 1 : Nat) : Int) - ((j + 1 : Nat) : Int) by omega] at hq
    exact hq
  | succ m =>
    have hi' : i < n := by omega
    have hnone := ents_none hn hi'
    have hlk : lookO (.t (ents f i)) (deedD (pw f i)) = some none := by
      show (kysD _).map _ = _
      rw [kys_deed, Option.map_some, valD_none.mpr hnone]
    refine ⟨_, hlk, _, rfl, ite_t rfl ?_⟩
    have hpt : putO (.t (ents f i)) (deedD (pw f i)) (.int (i + 1 : Nat)) = some (.t (ents f (i + 1))) := by
      show (kysD _).map _ = _
      rw [kys_deed, Option.map_some, putD_new hnone]
      unfold ents
      rw [List.range_succ, List.map_append]
      rfl
    refine ⟨_, hpt, ?_, rfl, pw f i, f, rfl, by rw [pw_len]; exact hl, pw_lt hf i, ?_⟩
    · show (ents f i).length < sizeLine
      unfold ents
      rw [List.length_map, List.length_range]
      exact k1000 (by omega)
    · exact ⟨m, Nat.lt_succ_self m, i + 1, by omega, rfl⟩
end
end My
set_option maxHeartbeats 4000000
namespace My
open PySem PySem.Spec PyProof.Rows L2 Lcn Sq Dl
open M22
def chD (n j : Nat) : Dt := .tup ((List.range n).map fun (k : Nat) => .tup [.int (k + 1 : Nat), .int (if k < j then 0 else (n - j : Nat))])
def sp_length_choices : Spc := fun δ Q => ∃ (f : List Nat) (n j : Nat), δ = [.val (deedD f)] ∧ (∀ s, s ∈ f → s < f.length) ∧ f.length < 1000 ∧ Firstn (pw f) n j ∧ n ≤ 60 ∧ Q (chD n j)
def addR (a : List Int) (f : Int × List Int) : List Int := (a.zip f.2).map fun p => p.1 + p.2
def facs (fs : List (Int × List Int)) (m : Nat) : List Int := fs.foldl addR (List.replicate m 0)
def fsum (fs : List (Int × List Int)) (m : Nat) : Int × List Int := ((fs.map (·.1)).sum, facs fs m)
def sp_form_sum : Spc := fun δ Q => ∃ (d : Dt) (fs : List (Int × List Int)) (m : Nat), δ = [.val d, .val (.int (m : Int))] ∧ formsD d fs ∧ m < 1000 ∧ (∀ f, f ∈ fs → f.2.length = m) ∧ Q (fmD (fsum fs m))
theorem sc_length_choices : FnScope ["deed", "first", "period", "number"] ["deed"] (defScope s_length_choices) := ⟨rfl, rfl, rfl, by decide +kernel, rfl, by decide +kernel, by decide +kernel⟩
section
variable {P : Program} {w : World} {K : PySem.W.Frag} {mg : Str → Option Value} {base : Heap}
theorem ok_length_choices (D_length_choices : Dn K mg "length_choices" s_length_choices ["deed"]) (D_power_of : Dn K mg "power_of" s_power_of ["deed"]) (G_power_of : FnOk P w K mg base CX0 2 D_power_of.f D_power_of.fd ["deed"] (dsp K 1 sp_power_of)) (T : TB mg) : FnOk P w K mg base CX0 3 D_length_choices.f D_length_choices.fd ["deed"] (dsp K 1 sp_length_choices) := by
  refine fn_d (k := 2) (N := ["deed", "first", "period", "number"]) D_length_choices.F sc_length_choices (fun cdv A outer s H E hr => (dss_cons (ds_asg (fun _ p q => ps_asg p q) (de_call (fun _ pa => pe_call G_power_of (hr.mono (by decide)) (by rfl) D_power_of.m D_power_of.F.kp D_power_of.b .nil pass0 pa) (dl_val (de_var (fun _ => pv 0)) dl_nil)) (dg_tup (n := 2) (dgs_cons (dg_name (i := 1) (fun _ => pg_name sc_length_choices.nd rfl (by first | exact Or.inl rfl | exact Or.inr rfl))) (dgs_cons (dg_name (i := 2) (fun _ => pg_name sc_length_choices.nd rfl (by first | exact Or.inl rfl | exact Or.inr rfl))) dgs_nil))))
  (dss_one (ds_ret (de_callTy (fun _ => cr_tuple rfl) rc_tuple (fun _ => by rfl) (fun _ => T.tuple_) (by decide +kernel) (da_cons (de_n (dn_lc (o := true) (own := [(("number" : Str), 3)]) (fun _ => rfl) (fun _ => sc_length_choices.nd) (di_range2 (fun _ => by rfl) (fun _ => T.range) (da_cons de_int (da_cons (de_add (de_var (fun _ => pv 1)) (de_var (fun _ => pv 2))) da_nil))) (fun _ => (blkOk_by (own := [(("number" : Str), 3)]) (N := ["deed", "first", "period", "number"]) (sc := defScope s_length_choices) (by decide +kernel))) (dg_name (i := 3) (fun _ => pg_name sc_length_choices.nd rfl (Or.inl rfl))) dts_nil (de_tup (da_cons (de_var (fun _ => pv 3)) (da_cons (de_if (dt_cmpC cd_lt (de_var (fun _ => pv 3)) (de_var (fun _ => pv 1)) (nomark _)) de_int (de_var (fun _ => pv 2))) da_nil))) (by decide))) da_nil)))))) (fun δ Qd l h => ?_)
  obtain ⟨f, n, j, rfl, hf, hl, hn, h60, hq⟩ := h
  refine ⟨rfl, f, n, j, rfl, hf, hl, hn, h60, ?_⟩
  have hj := hn.lt
  have b1 := b62 (i := ((j + 1 : Nat) : Int) + ((n - j : Nat) : Int)) (by omega) (by omega)
  refine ⟨rfl, rfl, ⟨(b62 (by omega) (by omega)).1, (b62 (by omega) (by omega)).2, b1.1, b1.2⟩, rfl, ?_, ?_⟩
  · rw [rngD_len]
    exact k1000 (by omega)
  · rw [show (((j + 1 : Nat) : Int) + ((n - j : Nat) : Int) - 1).toNat = n by omega]
    unfold rngD
    refine lc_map (fun (k : Nat) => Dt.tup [.int (k + 1 : Nat), .int (if k < j then 0 else (n - j : Nat))]) (List.range n) (fun k m Q q => ?_) hq
    have e1 : (1 + (k : Int)) = ((k + 1 : Nat) : Int) := by omega
    rw [e1]
    by_cases hk : k < j
    · refine ⟨_, rfl, ite_t (decide_eq_true (by omega)) ⟨(by show 2 ≤ sizeLine; decide), ?_⟩⟩
      rw [if_pos hk] at q
      exact q
    · refine ⟨_, rfl, ite_f (decide_eq_false (by omega)) ⟨(by show 2 ≤ sizeLine; decide), ?_⟩⟩
      rw [if_neg hk] at q
      exact q
end
theorem facs_len {m : Nat} : ∀ (fs : List (Int × List Int)) (a : List Int), a.length = m → (∀ f, f ∈ fs → f.2.length = m) → (fs.foldl addR a).length = m
  | [], a, h, _ => h
  | f :: fs, a, h, hf => facs_len fs (addR a f) (by unfold addR; rw [List.length_map, List.length_zip, h, hf f (by simp), Nat.min_self]) fun g hg => hf g (by simp [hg])
theorem facs_take {fs : List (Int × List Int)} {m i : Nat} {f : Int × List Int} (h : fs[i]? = some f) : facs (fs.take (i + 1)) m = addR (facs (fs.take i) m) f ∧ ((fs.take (i + 1)).map (·.1)).sum = ((fs.take i).map (·.1)).sum + f.1 := by
  rw [List.take_add_one, h]
  unfold facs
  rw [List.foldl_append, List.map_append, List.sum_append]
  exact ⟨rfl, by simp⟩
theorem sc_form_sum : FnScope ["forms", "many", "number", "factors", "one", "row", "_", "factor", "more"] ["forms", "many"] (defScope s_form_sum) := ⟨rfl, rfl, rfl, by decide +kernel, rfl, by decide +kernel, by decide +kernel⟩
section
variable {P : Program} {w : World} {K : PySem.W.Frag} {mg : Str → Option Value} {base : Heap}
theorem ok_form_sum (D_form_sum : Dn K mg "form_sum" s_form_sum ["forms", "many"]) (T : TB mg) : FnOk P w K mg base CX0 1 D_form_sum.f D_form_sum.fd ["forms", "many"] (dsp K 2 sp_form_sum) := by
  refine fn_d (k := 0) (N := ["forms", "many", "number", "factors", "one", "row", "_", "factor", "more"]) D_form_sum.F sc_form_sum (fun cdv A outer s H E hr => (dss_cons (ds_set (fun _ p => ps_set (i := 2) sc_form_sum.nd rfl (by first | exact Or.inl rfl | exact Or.inr rfl) p) de_int)
  (dss_cons (ds_ofV (ds_lcN (o := true) (i := 3) (own := [(("_" : Str), 6)]) (fun _ => rfl) (fun _ => sc_form_sum.nd) (fun _ => rfl) (fun _ => rfl) (fun _ => sw_true rfl rfl rfl (by decide +kernel)) (di_range1 (fun _ => by rfl) (fun _ => T.range) (da_cons (de_var (fun _ => pv 1)) da_nil)) (fun _ => (blkOk_by (own := [(("_" : Str), 6)]) (N := ["forms", "many", "number", "factors", "one", "row", "_", "factor", "more"]) (sc := defScope s_form_sum) (by decide +kernel))) (dg_name (i := 6) (fun _ => pg_name sc_form_sum.nd rfl (Or.inl rfl))) dts_nil de_int (by decide) rfl))
  (dss_cons (ds_for (fun _ => rfl) (di_seq (de_var (fun _ => pv 0))) (dg_tup (n := 2) (dgs_cons (dg_name (i := 4) (fun _ => pg_name sc_form_sum.nd rfl (by first | exact Or.inl rfl | exact Or.inr rfl))) (dgs_cons (dg_name (i := 5) (fun _ => pg_name sc_form_sum.nd rfl (by first | exact Or.inl rfl | exact Or.inr rfl))) dgs_nil))) (dss_cons (ds_aug (i := 2) (f := fun i j => i + j) (fun _ p => ps_aug (i := 2) sc_form_sum.nd rfl (by first | exact Or.inl rfl | exact Or.inr rfl) p ip_add) (de_var (fun _ => pv 4)))
  (dss_one (ds_ofV (ds_lcN (o := true) (i := 3) (own := [(("factor" : Str), 7), (("more" : Str), 8)]) (fun _ => rfl) (fun _ => sc_form_sum.nd) (fun _ => rfl) (fun _ => rfl) (fun _ => sw_true rfl rfl rfl (by decide +kernel)) (di_zip (fun _ => by rfl) (fun _ => T.zip) (da_cons (de_var (fun _ => pv 3)) (da_cons (de_var (fun _ => pv 5)) da_nil))) (fun _ => (blkOk_by (own := [(("factor" : Str), 7), (("more" : Str), 8)]) (N := ["forms", "many", "number", "factors", "one", "row", "_", "factor", "more"]) (sc := defScope s_form_sum) (by decide +kernel))) (dg_tup (n := 2) (dgs_cons (dg_name (i := 7) (fun _ => pg_name sc_form_sum.nd rfl (Or.inl rfl))) (dgs_cons (dg_name (i := 8) (fun _ => pg_name sc_form_sum.nd rfl (Or.inl rfl))) dgs_nil))) dts_nil (de_add (de_var (fun _ => pv 7)) (de_var (fun _ => pv 8))) (by decide) rfl)))) (fun _ => PassesOwn.never))
  (dss_one (ds_ret (de_tup (da_cons (de_var (fun _ => pv 2)) (da_cons (de_callTy (fun _ => cr_tuple rfl) rc_tuple (fun _ => by rfl) (fun _ => T.tuple_) (by decide +kernel) (da_cons (de_var (fun _ => pv 3)) da_nil)) da_nil))))))))) (fun δ Qd l h => ?_)
  obtain ⟨d, fs, m, rfl, hd, hm, hf, hq⟩ := h
  refine ⟨(b62 (by omega) (by omega)).1, (b62 (by omega) (by omega)).2, rfl, by rw [rngD_len]; exact k1000 (by omega), ?_⟩
  unfold rngD
  refine lc_map (fun _ => Dt.int 0) _ (fun k m Q q => q) ?_
  have e0 : ((List.range (m : Int).toNat).map fun _ => Dt.int 0) = (facs (fs.take 0) m).map Dt.int := by
    rw [List.take_zero]
    show _ = (List.replicate m (0 : Int)).map Dt.int
    rw [List.map_replicate, Int.toNat_natCast]
    rw [List.map_const', List.length_range]
  rw [e0]
  have main : ∀ (D : DEnds), D.rt = Qd → dForL (gvTup (gvCons (gvName 4) (gvCons (gvName 5) gvNil)) 2) (dSeq (dAug 2 (fun i j => i + j) (dVar 4)) fun D δ =>
            dLcN (ivZip (dConsA (dVar 3) (dConsA (dVar 5) dNilA)))
              (gvTup (gvCons (gvName 7) (gvCons (gvName 8) gvNil)) 2) dYes (dOp dAdd (dVar 7) (dVar 8))
              (List.map (fun x => x.snd) [("factor", 7), ("more", 8)]) δ fun ds =>
              D.nx (δ.set 3 (Sl.val (Dt.lst ds)))) { nx := fun δ => dTup (dConsA (dVar 2) (dConsA (dCall dTuple (dConsA (dVar 3) dNilA)) dNilA)) δ D.rt, rt := D.rt } (fs.map fmD) [.val d, .val (.int m), .val (.int 0), .val (.lst ((facs (fs.take 0) m).map Dt.int)), .any, .any, .any, .any, .any] := by
    intro D hD
    refine for_inv (fun i δ => ∃ s1 s2, δ = [.val d, .val (.int m), .val (.int ((fs.take i).map (·.1)).sum), .val (iL (facs (fs.take i) m)), s1, s2, .any, .any, .any]) ⟨_, _, rfl⟩ (fun i dd δ N hi hI h1 => ?_) (fun δ hI => ?_)
    · rw [List.getElem?_map] at hi
      obtain ⟨f, hfi, rfl⟩ := Option.map_eq_some_iff.mp hi
      obtain ⟨s1, s2, rfl⟩ := hI
      have hmem := List.mem_of_getElem? hfi
      have hlf : (facs (fs.take i) m).length = m := facs_len _ _ (List.length_replicate ..) fun g hg => hf g (List.mem_of_mem_take hg)
      have ht := facs_take (m := m) hfi
      refine ⟨rfl, rfl, _, _, rfl, rfl, rfl, ?_, ?_⟩
      · rw [pairD_map, List.length_map]
        exact zlen (by omega)
      · rw [pairD_map]
        refine lc_map (fun p : Int × Int => Dt.int (p.1 + p.2)) _ (fun p m Q q => ⟨rfl, rfl, q⟩) ?_
        refine h1 _ ⟨.val (.int f.1), .val (iT f.2), ?_⟩
        rw [ht.1, ht.2, map_int2]
        rfl
    · obtain ⟨s1, s2, rfl⟩ := hI
      rw [List.length_map, List.take_length]
      refine ⟨(by show 2 ≤ sizeLine; decide), ?_⟩
      rw [hD]
      exact hq
  rcases hd with rfl | rfl
  · exact main _ rfl
  · exact main _ rfl
end
end My
set_option maxHeartbeats 4000000
namespace My
open PySem PySem.Spec PyProof.Rows L2 Lcn Sq
open Dl (Src SrcOk srcO SrcAt Sc Gs Stp dsp Spc Sl Dt ArgsOk Rep)
abbrev FnP (K : PySem.W.Frag) (x : Str) (st : Stmt) (f : Addr) (fd : FuncData) : Prop := FunD K x x (defArgs st) (defBody st) (defScope st) [] [] f fd
/-- all that was tracked beside the source stands, and the source stands -/
structure Kp (a L : Addr) (ns : List Int) (H H' : Hp) : Prop where
  keep : ∀ b o, b ≠ a → H b = some o → H' b = some o
  src : Src H' a L ns
theorem Kp.refl {a L : Addr} {ns : List Int} {H : Hp} (s : Src H a L ns) : Kp a L ns H H := ⟨fun _ _ _ h => h, s⟩
theorem Kp.trans {a L : Addr} {ns : List Int} {H H1 H2 : Hp} (x : Kp a L ns H H1) (y : Kp a L ns H1 H2) : Kp a L ns H H2 := ⟨fun b o n h => y.keep b o n (x.keep b o n h), y.src⟩
theorem Src.ne {a L : Addr} {ns : List Int} {H : Hp} {p : Addr} (s : Src H a L ns) (h : H p = none) : a ≠ p := by
  obtain ⟨_, _, _, q⟩ := s
  exact ne_of_none q.at_ h
theorem Src.kept {a L : Addr} {ns : List Int} {H H' : Hp} (s : Src H a L ns) (k : ∀ b o, H b = some o → H' b = some o) : Src H' a L ns := by
  obtain ⟨p, h, m, q⟩ := s
  exact ⟨p, h, m, q.ok, k _ _ q.at_, k _ _ q.ls, q.ne⟩
theorem Kp.same {a L : Addr} {ns : List Int} {H H' : Hp} (s : Src H a L ns) (k : ∀ b o, H b = some o → H' b = some o) : Kp a L ns H H' := ⟨fun b o _ h => k b o h, My.Src.kept s k⟩
theorem same_newA {H : Hp} {p : Addr} {o : HO} (h : H p = none) : ∀ b u, H b = some u → upd H p o b = some u := fun b u e => by
  rw [upd_ne (ne_of_none e h)]
  exact e
theorem Kp.new {a L : Addr} {ns : List Int} {H : Hp} {p : Addr} {o : HO} (s : Src H a L ns) (h : H p = none) : Kp a L ns H (upd H p o) := Kp.same s (same_newA h)
theorem Kp.upd {a L : Addr} {ns : List Int} {H : Hp} {p h m p' h' m' : Int} (S : SrcAt H a L ns p h m) (ok : SrcOk p' h' m') : Kp a L ns H (upd H a (srcO L p' h' m')) :=
  ⟨fun b o n e => by rw [upd_ne n]; exact e, p', h', m', ok, upd_same, by rw [upd_ne S.ne]; exact S.ls, S.ne⟩
/-- a tuple stands -/
theorem Kp.tup {a L : Addr} {ns : List Int} {H H' : Hp} {t : Addr} {xs : List V} (s : Src H a L ns) (k : Kp a L ns H H') (h : H t = some (.tup xs)) : H' t = some (.tup xs) := by
  obtain ⟨p, hh, m, q⟩ := s
  exact k.keep t _ (ne_of h q.at_ (by intro z; cases z)) h
/-- the promise of _law_take: some number below many, and only the source has changed -/
def spTake : Sp := fun vs H Q _ => ∃ (a L : Addr) (ns : List Int) (many : Int), vs = [.ref a, .int many] ∧ Src H a L ns ∧ 0 < many ∧ many < 2 ^ 200 ∧
  ∀ (r : Int) (H' : Hp), 0 ≤ r → r < many → Kp a L ns H H' → Q (.int r) H'
section
variable {P : Program} {w : World} {K : PySem.W.Frag} {mg : Str → Option Value} {base : Heap}
theorem scT : FnScope ["_law_source_here", "_law_many", "_law_cell", "_law_mixed", "_law_told"] ["_law_source_here", "_law_many"] (defScope s__law_take) :=
  ⟨rfl, rfl, rfl, by decide +kernel, rfl, by decide +kernel, by decide +kernel⟩
theorem at0 {a b c d : V} : atI [a, b, c, d] 0 = some a := rfl
theorem at1 {a b c d : V} : atI [a, b, c, d] 1 = some b := rfl
theorem at2 {a b c d : V} : atI [a, b, c, d] 2 = some c := rfl
theorem at3 {a b c d : V} : atI [a, b, c, d] 3 = some d := rfl
theorem atI_int {ns : List Int} {p : Int} (h0 : 0 ≤ p) (h1 : p < (ns.length : Int)) : ∃ z, atI (ns.map V.int) p = some (.int z) := by
  obtain ⟨j, rfl⟩ : ∃ j : Nat, p = (j : Int) := ⟨p.toNat, by omega⟩
  have hj : j < ns.length := by omega
  exact ⟨ns[j], atI_nat (by simp [List.getElem?_map, hj])⟩
theorem pow200 {x many : Int} (h0 : 0 < many) (h1 : many < 2 ^ 200) : CDivW x many := by
  refine wide_div (b := 200) h0 ?_ (by decide) (by decide)
  have e : ((2 : Int) ^ 200) = ((2 ^ 200 : Nat) : Int) := by norm_cast
  omega
theorem ok_take {f : Addr} {fd : FuncData} (F : FnP K "_law_take" s__law_take f fd) (T : TB mg) : FnOk P w K mg base CX0 1 f fd ["_law_source_here", "_law_many"] spTake := by
  refine ok0 F scT (fun vs H Q E h => ?_) (fun cdv A outer s H vs Q E hr h => ?_)
  · obtain ⟨a, L, ns, many, rfl, _⟩ := h
    rfl
  · obtain ⟨a, L, ns, many, rfl, ⟨p, hh, m, S⟩, hm0, hm1, k0⟩ := h
    have k : ∀ (r p' h' m' : Int), 0 ≤ r → r < many → SrcOk p' h' m' → Q (.int r) (upd H a (srcO L p' h' m')) := fun r p' h' m' r0 r1 ok => k0 r _ r0 r1 (Kp.upd S ok)
    have hA := S.at_
    have hL := S.ls
    have nLa := S.ne
    have hma := hm1
    refine ⟨_, C8.pss_cut (ps_if (pt_cmpR op_eq (pe_ix ix_list (pv 0) pe_int (fun _ _ => rfl)) pe_int (nomark _))
        (pss_cons (ps_set (i := 2) scT.nd rfl (Or.inl rfl) pe_int)
        (C8.pss_cut (ps_if (pt_cmpR op_lt (pe_ix ix_list (pv 0) pe_int (fun _ _ => rfl)) (pe_callB call_len_seq (by rfl) T.len PySem.boot_len (pa_cons (pe_ix ix_list (pv 0) pe_int (fun _ _ => rfl)) pa_nil)) (nomark _))
          (pss_one (ps_set (i := 2) scT.nd rfl (Or.inl rfl) (pe_ix ix_list (pe_ix ix_list (pv 0) pe_int (fun _ _ => rfl)) (pe_ix ix_list (pv 0) pe_int (fun _ _ => rfl)) (fun _ _ => rfl)))) pss_nil)
        (pss_cons (ps_asg (pe_op op_add (pe_ix ix_list (pv 0) pe_int (fun _ _ => rfl)) pe_int) (pg_sub (pv 0) pe_int set_list))
        (pss_one (ps_if (pt_cmpR op_ge (pv 2) (pe_op op_pow pe_int pe_int) (nomark _))
          (pss_one (ps_asg (pv 2) (pg_sub (pv 0) pe_int set_list)))
          (pss_cons (ps_set (i := 3) scT.nd rfl (Or.inl rfl) (pe_op op_mod (pe_callTy call_int1 (by rfl) T.int PyProof.Rows.boot_int (pa_cons (pe_op op_add (pe_op op_add (pe_op op_add (pe_op op_mul (pe_ix ix_list (pv 0) pe_int (fun _ _ => rfl)) pe_int) (pe_op op_mul (pe_op op_mod (pe_callTy call_int1 (by rfl) T.int PyProof.Rows.boot_int (pa_cons (pv 2) pa_nil)) pe_int) pe_int)) (pe_op op_mul (pe_ix ix_list (pv 0) pe_int (fun _ _ => rfl)) pe_int)) pe_int) pa_nil)) pe_int))
          (pss_cons (ps_set (i := 3) scT.nd rfl (Or.inl rfl) (pe_op op_mod (pe_callTy call_int1 (by rfl) T.int PyProof.Rows.boot_int (pa_cons (pe_op op_add (pe_op op_add (pe_op op_mul (pv 3) (pv 3)) (pe_op op_mul (pe_ix ix_list (pv 0) pe_int (fun _ _ => rfl)) pe_int)) pe_int) pa_nil)) pe_int))
          (pss_cons (ps_asg (pv 3) (pg_sub (pv 0) pe_int set_list))
          (pss_one (ps_ret (pe_op op_mod (pe_op op_fdiv (pv 3) pe_int) (pv 1))))))))))))
        pss_nil)
      (pss_cons (ps_set (i := 4) scT.nd rfl (Or.inl rfl) (pe_op op_mod (pe_callTy call_int1 (by rfl) T.int PyProof.Rows.boot_int (pa_cons (pe_ix ix_list (pv 0) pe_int (fun _ _ => rfl)) pa_nil)) (pv 1)))
      (pss_cons (ps_asg (pe_op op_fdivW (pe_ix ix_list (pv 0) pe_int (fun _ _ => rfl)) (pv 1)) (pg_sub (pv 0) pe_int set_list))
      (pss_one (ps_ret (pv 4))))), ?_⟩
    refine ⟨fun σ' H' => ∃ (σ2 σ3 σ4 : Option V) (p1 h1 m1 : Int), σ' = [some (.ref a), some (.int many), σ2, σ3, σ4] ∧ H' = upd H a (srcO L p1 h1 m1) ∧ SrcOk p1 h1 m1, ?_, ?_⟩
    · refine ⟨_, rfl, a, _, 2, _, rfl, rfl, SqL.of hA, rfl, rfl, _, rfl, ?_⟩
      refine ite2 (fun e0 => ?_) (fun e0 => ?_)
      · have h00 : hh = 0 := by simpa using e0
        refine ⟨fun σ' H' => ∃ c, σ' = [some (.ref a), some (.int many), some (.int c), none, none] ∧ H' = H, ?_, ?_⟩
        · refine ⟨_, rfl, a, _, 1, _, rfl, rfl, SqL.of hA, rfl, ?_⟩
          refine ⟨_, rfl, a, _, 0, _, rfl, rfl, SqL.of hA, rfl, L, _, rfl, .inl (SqL.of hL), _, _, rfl, rfl, _, rfl, ?_⟩
          refine ite2 (fun e1 => ?_) (fun e1 => ?_)
          · have hp : p < (ns.length : Int) := by
              have q := of_decide_eq_true e1
              rw [List.length_map] at q
              exact q
            obtain ⟨c, hc⟩ := atI_int S.ok.p0 hp
            exact ⟨_, rfl, a, _, 0, _, rfl, rfl, SqL.of hA, rfl, _, rfl, a, _, 1, _, rfl, rfl, SqL.of hA, rfl, L, _, p, _, rfl, rfl, SqL.of hL, hc, c, rfl, rfl⟩
          · exact ⟨0, rfl, rfl⟩
        · rintro σ' H' ⟨c, eσ, eH⟩
          rw [eσ, eH]
          refine ⟨_, rfl, a, _, 1, _, rfl, rfl, SqL.of hA, rfl, _, _, rfl, rfl, _, rfl, a, _, 1, 1, rfl, rfl, hA, rfl, ?_⟩
          have hB : upd H a (srcO L (p + 1) hh m) a = some (srcO L (p + 1) hh m) := upd_same
          refine ⟨_, rfl, _, _, rfl, rfl, ⟨by decide, by decide, by decide⟩, _, _, rfl, rfl, _, rfl, ?_⟩
          refine ite2 (fun e2 => ?_) (fun e2 => ?_)
          · have c18 : (10 : Int) ^ (18 : Nat) ≤ c := of_decide_eq_true e2
            refine ⟨_, rfl, _, rfl, a, _, 2, 2, rfl, rfl, hB, rfl, some (.int c), none, none, p + 1, c, m, rfl, ?_, ?_⟩
            · rw [upd_upd]
              rfl
            · exact ⟨by have := S.ok.p0; omega, by have : (0 : Int) ≤ 10 ^ (18 : Nat) := by decide
                                                   omega, S.ok.m0, S.ok.m1⟩
          · have bm : CMul m 69621 := .inr ⟨by decide, by decide⟩
            have bq : ∀ x : Int, CMul x 48271 := fun x => .inr ⟨by decide, by decide⟩
            have bp : ∀ x : Int, CMul x 7919 := fun x => .inr ⟨by decide, by decide⟩
            have bw : ∀ x : Int, CMul x 104729 := fun x => .inr ⟨by decide, by decide⟩
            -- mixed = int(..) % 2147483647
            refine ⟨_, rfl, a, _, 3, _, rfl, rfl, SqL.of hB, rfl, _, _, rfl, rfl, bm, ?_⟩
            refine ⟨_, rfl, .inl ⟨_, rfl, _, _, rfl, rfl, (by show (0 : Int) < 2147483629; decide), _, _, rfl, rfl, bq _, _, _, rfl, rfl, ?_⟩⟩
            refine ⟨_, rfl, a, _, 1, _, rfl, rfl, SqL.of hB, rfl, _, _, rfl, rfl, bp _, _, _, rfl, rfl, _, _, rfl, rfl, .inl ⟨_, rfl, _, _, rfl, rfl, (by show (0 : Int) < 2147483647; decide), ?_⟩⟩
            obtain ⟨x, hx⟩ : ∃ x, x = (m * 69621 + c % 2147483629 * 48271 + (p + 1) * 7919 + 1) % 2147483647 := ⟨_, rfl⟩
            have x0 : 0 ≤ x := by rw [hx]; exact Int.emod_nonneg _ (by decide)
            have x1 : x < 2147483647 := by rw [hx]; exact Int.emod_lt_of_pos _ (by decide)
            show tSeq _ _ _ [some (.ref a), some (.int many), some (.int c), some (.int ((m * 69621 + c % 2147483629 * 48271 + (p + 1) * 7919 + 1) % 2147483647)), none] _
            rw [← hx]
            refine ⟨_, rfl, _, rfl, _, _, rfl, rfl, .inl ⟨by omega, by omega⟩, ?_⟩
            refine ⟨_, rfl, a, _, 1, _, rfl, rfl, SqL.of hB, rfl, _, _, rfl, rfl, bw _, _, _, rfl, rfl, _, _, rfl, rfl, .inl ⟨_, rfl, _, _, rfl, rfl, (by show (0 : Int) < 2147483629; decide), ?_⟩⟩
            obtain ⟨y, hy⟩ : ∃ y, y = (x * x + (p + 1) * 104729 + 13) % 2147483629 := ⟨_, rfl⟩
            have y0 : 0 ≤ y := by rw [hy]; exact Int.emod_nonneg _ (by decide)
            have y1 : y < 2147483629 := by rw [hy]; exact Int.emod_lt_of_pos _ (by decide)
            show tSeq _ _ _ [some (.ref a), some (.int many), some (.int c), some (.int ((x * x + (p + 1) * 104729 + 13) % 2147483629)), none] _
            rw [← hy]
            refine ⟨_, rfl, _, rfl, a, _, 3, 3, rfl, rfl, hB, rfl, ?_⟩
            refine ⟨_, rfl, _, _, rfl, rfl, ⟨by decide, by decide⟩, _, rfl, _, _, rfl, rfl, hm0, ?_⟩
            rw [upd_upd]
            exact k _ (p + 1) hh y (Int.emod_nonneg _ (by omega)) (Int.emod_lt_of_pos _ hm0) ⟨by have := S.ok.p0; omega, S.ok.h0, y0, by omega⟩
      · refine ⟨none, none, none, p, hh, m, rfl, ?_, S.ok⟩
        funext b
        by_cases hb : b = a
        · rw [hb, upd_same, hA]
        · rw [upd_ne hb]
    · rintro σ' H' ⟨σ2, σ3, σ4, p1, h1, m1, eσ, eH, ok⟩
      rw [eσ, eH]
      have hA' : upd H a (srcO L p1 h1 m1) a = some (srcO L p1 h1 m1) := upd_same
      refine ⟨_, rfl, a, _, 2, _, rfl, rfl, SqL.of hA', rfl, .inl ⟨_, rfl, _, rfl, _, _, rfl, rfl, hm0, ?_⟩⟩
      refine ⟨_, rfl, a, _, 2, _, rfl, rfl, SqL.of hA', rfl, _, rfl, _, _, rfl, rfl, pow200 (x := h1) hm0 hm1, _, rfl, ?_⟩
      refine ⟨a, _, 2, 2, rfl, rfl, hA', rfl, ?_⟩
      refine ⟨_, rfl, ?_⟩
      rw [upd_upd]
      exact k _ _ _ _ (Int.emod_nonneg _ (by omega)) (Int.emod_lt_of_pos _ hm0) ⟨ok.p0, Int.ediv_nonneg ok.h0 (by omega), ok.m0, ok.m1⟩
/-! ### _law_source -/
def spSource (K : PySem.W.Frag) : Sp := fun vs H Q _ => ∃ (a : Addr) (ns : List Int), vs = [.ref a] ∧ SqL K H a (ns.map V.int) ∧ ∀ (p L : Addr) (H' : Hp), Same H H' → H p = none → Src H' p L ns → Q (.ref p) H'
theorem scSo : FnScope ["_law_script"] ["_law_script"] (defScope s__law_source) := ⟨rfl, rfl, rfl, by decide +kernel, rfl, by decide +kernel, by decide +kernel⟩
theorem ok_source {f : Addr} {fd : FuncData} (F : FnP K "_law_source" s__law_source f fd) (T : TB mg) : FnOk P w K mg base CX0 1 f fd ["_law_script"] (spSource K) := by
  refine ok0 F scSo (fun vs H Q E h => ?_) (fun cdv A outer s H vs Q E hr h => ?_)
  · obtain ⟨a, ns, rfl, _⟩ := h
    rfl
  · obtain ⟨a, ns, rfl, hS, k⟩ := h
    refine ⟨_, pss_one (ps_ret (pe_lst (pa_cons (pe_callTy call_list_of (by rfl) T.list_ (by decide +kernel) (pa_cons (pv 0) pa_nil)) (pa_cons pe_int (pa_cons pe_int (pa_cons pe_int pa_nil)))))), ?_⟩
    refine ⟨_, rfl, a, _, rfl, .inl hS, fun l hl => ⟨(by show 4 ≤ sizeLine; decide), fun p hp => ?_⟩⟩
    have nlp : l ≠ p := fun z => by
      rw [z, upd_same] at hp
      cases hp
    have hp0 : H p = none := by
      rw [upd_ne (Ne.symm nlp)] at hp
      exact hp
    refine k p l _ (fun b o e => ?_) hp0 ⟨0, 0, 1, ⟨by decide, by decide, by decide, by decide⟩, upd_same, ?_, nlp⟩
    · rw [upd_ne (ne_of_none e hp0), upd_ne (ne_of_none e hl)]
      exact e
    · rw [upd_ne nlp, upd_same]
/-! ### over data -/
open Dl
def sp_take : Spc := fun δ Q => ∃ many : Int, δ = [.src, .val (.int many)] ∧ 0 < many ∧ many < 2 ^ 200 ∧ ∀ r : Int, 0 ≤ r → r < many → Q (.int r)
theorem ok_takeD (D : Dn K mg "_law_take" s__law_take ["_law_source_here", "_law_many"]) (T : TB mg) : FnOk P w K mg base CX0 1 D.f D.fd ["_law_source_here", "_law_many"] (dsp K 2 sp_take) := by
  refine (ok_take D.F T).imp fun vs H Q E h => ?_
  obtain ⟨S, av, δ, Qd, h1, al, g, ao, hl, ⟨many, rfl, hm0, hm1, hq⟩, k⟩ := h
  have l2 : vs.length = 2 := by rw [ao.l]; rfl
  match vs, l2, ao with
  | [x, y], _, ao =>
    obtain ⟨z, hz, hx⟩ := ao.f 0 x .src rfl rfl
    have hy : Rep K av H y (.int many) := ao.f 1 y (.val (.int many)) rfl rfl
    subst hz
    refine ⟨z.1, z.2.1, z.2.2, many, by rw [hx, hy.int_inv], g, hm0, hm1, fun r H' r0 r1 kp => k _ (.int r) H' ⟨fun b o hb => kp.keep b o hb, fun _ => kp.src⟩ (.int r) (hq r r0 r1)⟩
end
end My
set_option maxHeartbeats 4000000
namespace My
open PySem PySem.Spec PyProof.Rows L2 Lcn Sq Dl
open M22
def sp_after : Spc := fun δ Q => ∃ f g : List Nat, δ = [.val (deedD f), .val (deedD g)] ∧ f.length < 1000 ∧ (∀ s, s ∈ f → s < g.length) ∧ Q (deedD (aft f g))
def sp_power : Spc := fun δ Q => ∃ (f : List Nat) (k : Nat), δ = [.val (deedD f), .val (.int (k + 1 : Nat))] ∧ (∀ s, s ∈ f → s < f.length) ∧ f.length < 1000 ∧ k < 1000 ∧ Q (deedD (pw f k))
def sp_value : Spc := fun δ Q => ∃ (f : Int × List Int) (ns : List Int), δ = [.val (fmD f), .val (iL ns)] ∧ f.2.length < 1000 ∧ (∀ i, i ∈ f.2 → smallI i) ∧ (∀ i, i ∈ ns → smallI i) ∧ Q (.int (fval f ns))
theorem sc__law_after : FnScope ["_law_first", "_law_then", "_law_goal"] ["_law_first", "_law_then"] (defScope s__law_after) := ⟨rfl, rfl, rfl, by decide +kernel, rfl, by decide +kernel, by decide +kernel⟩
section
variable {P : Program} {w : World} {K : PySem.W.Frag} {mg : Str → Option Value} {base : Heap}
theorem ok__law_after (D__law_after : Dn K mg "_law_after" s__law_after ["_law_first", "_law_then"]) (T : TB mg) : FnOk P w K mg base CX0 1 D__law_after.f D__law_after.fd ["_law_first", "_law_then"] (dsp K 2 sp_after) := by
  refine fn_d (k := 0) (N := ["_law_first", "_law_then", "_law_goal"]) D__law_after.F sc__law_after (fun cdv A outer s H E hr => (dss_one (ds_ret (de_callTy (fun _ => cr_tuple rfl) rc_tuple (fun _ => by rfl) (fun _ => T.tuple_) (by decide +kernel) (da_cons (de_n (dn_lc (o := true) (own := [(("_law_goal" : Str), 2)]) (fun _ => rfl) (fun _ => sc__law_after.nd) (di_seq (de_var (fun _ => pv 0))) (fun _ => (blkOk_by (own := [(("_law_goal" : Str), 2)]) (N := ["_law_first", "_law_then", "_law_goal"]) (sc := defScope s__law_after) (by decide +kernel))) (dg_name (i := 2) (fun _ => pg_name sc__law_after.nd rfl (Or.inl rfl))) dts_nil (de_ixA (de_var (fun _ => pv 1)) (de_var (fun _ => pv 2)) (fun _ _ => rfl)) (by decide))) da_nil))))) (fun δ Qd l h => ?_)
  obtain ⟨a, b, rfl, hl, hs, hq⟩ := h
  refine ⟨rfl, by simpa using k1000 hl, ?_⟩
  rw [List.map_map]
  refine lc_map (fun s : Nat => Dt.int (Int.ofNat (b.getD s 0))) a (fun s m Q q => ?_) ?_
  · have hb := hs s m
    refine ⟨Dt.int (Int.ofNat (b.getD s 0)), ?_, q⟩
    refine atI_nat ?_
    simp [List.getD_eq_getElem?_getD, hb]
  · unfold deedD iT aft at hq
    rw [List.map_map, List.map_map] at hq
    exact hq
end
theorem sc__law_power : FnScope ["_law_deed", "_law_many", "_law_told", "_law_turn"] ["_law_deed", "_law_many"] (defScope s__law_power) := ⟨rfl, rfl, rfl, by decide +kernel, rfl, by decide +kernel, by decide +kernel⟩
section
variable {P : Program} {w : World} {K : PySem.W.Frag} {mg : Str → Option Value} {base : Heap}
theorem ok__law_power (D__law_power : Dn K mg "_law_power" s__law_power ["_law_deed", "_law_many"]) (D__law_after : Dn K mg "_law_after" s__law_after ["_law_first", "_law_then"]) (G__law_after : FnOk P w K mg base CX0 1 D__law_after.f D__law_after.fd ["_law_first", "_law_then"] (dsp K 2 sp_after)) (T : TB mg) : FnOk P w K mg base CX0 2 D__law_power.f D__law_power.fd ["_law_deed", "_law_many"] (dsp K 2 sp_power) := by
  refine fn_d (k := 1) (N := ["_law_deed", "_law_many", "_law_told", "_law_turn"]) D__law_power.F sc__law_power (fun cdv A outer s H E hr => (dss_cons (ds_set (fun _ p => ps_set (i := 2) sc__law_power.nd rfl (by first | exact Or.inl rfl | exact Or.inr rfl) p) (de_var (fun _ => pv 0)))
  (dss_cons (ds_for (fun _ => rfl) (di_range1 (fun _ => by rfl) (fun _ => T.range) (da_cons (de_sub (de_var (fun _ => pv 1)) de_int) da_nil)) (dg_name (i := 3) (fun _ => pg_name sc__law_power.nd rfl (by first | exact Or.inl rfl | exact Or.inr rfl))) (dss_one (ds_set (fun _ p => ps_set (i := 2) sc__law_power.nd rfl (by first | exact Or.inl rfl | exact Or.inr rfl) p) (de_call (fun _ pa => pe_call G__law_after (hr.mono (by decide)) (by rfl) D__law_after.m D__law_after.F.kp D__law_after.b .nil pass0 pa) (dl_val (de_var (fun _ => pv 2)) (dl_val (de_var (fun _ => pv 0)) dl_nil))))) (fun _ => PassesOwn.never))
  (dss_one (ds_ret (de_var (fun _ => pv 2))))))) (fun δ Qd l h => ?_)
  obtain ⟨f, k, rfl, hf, hl, hk, hq⟩ := h
  have b1 := b62 (i := ((k + 1 : Nat) : Int) - 1) (by omega) (by omega)
  refine ⟨b1.1, b1.2, ?_⟩
  refine for_inv (fun i δ => ∃ s, δ = [.val (deedD f), .val (.int (k + 1 : Nat)), .val (deedD (pw f i)), s]) ⟨_, rfl⟩ (fun i dd δ N hi hI h1 => ?_) (fun δ hI => ?_)
  · obtain ⟨s, rfl⟩ := hI
    exact ⟨rfl, pw f i, f, rfl, by rw [pw_len]; exact hl, pw_lt hf i, h1 _ ⟨_, rfl⟩⟩
  · obtain ⟨s, rfl⟩ := hI
    rw [rngD_len, show (((k + 1 : Nat) : Int) - 1).toNat = k by omega]
    exact hq
end
theorem sc__law_value : FnScope ["_law_form_here", "_law_numbers", "_law_total", "_law_factor", "_law_number"] ["_law_form_here", "_law_numbers"] (defScope s__law_value) := ⟨rfl, rfl, rfl, by decide +kernel, rfl, by decide +kernel, by decide +kernel⟩
section
variable {P : Program} {w : World} {K : PySem.W.Frag} {mg : Str → Option Value} {base : Heap}
theorem ok__law_value (D__law_value : Dn K mg "_law_value" s__law_value ["_law_form_here", "_law_numbers"]) (T : TB mg) : FnOk P w K mg base CX0 1 D__law_value.f D__law_value.fd ["_law_form_here", "_law_numbers"] (dsp K 2 sp_value) := by
  refine fn_d (k := 0) (N := ["_law_form_here", "_law_numbers", "_law_total", "_law_factor", "_law_number"]) D__law_value.F sc__law_value (fun cdv A outer s H E hr => (dss_cons (ds_set (fun _ p => ps_set (i := 2) sc__law_value.nd rfl (by first | exact Or.inl rfl | exact Or.inr rfl) p) (de_ixA (de_var (fun _ => pv 0)) de_int (fun _ _ => rfl)))
  (dss_cons (ds_for (fun _ => rfl) (di_zip (fun _ => by rfl) (fun _ => T.zip) (da_cons (de_ixA (de_var (fun _ => pv 0)) de_int (fun _ _ => rfl)) (da_cons (de_var (fun _ => pv 1)) da_nil))) (dg_tup (n := 2) (dgs_cons (dg_name (i := 3) (fun _ => pg_name sc__law_value.nd rfl (by first | exact Or.inl rfl | exact Or.inr rfl))) (dgs_cons (dg_name (i := 4) (fun _ => pg_name sc__law_value.nd rfl (by first | exact Or.inl rfl | exact Or.inr rfl))) dgs_nil))) (dss_one (ds_set (fun _ p => ps_set (i := 2) sc__law_value.nd rfl (by first | exact Or.inl rfl | exact Or.inr rfl) p) (de_add (de_var (fun _ => pv 2)) (de_mulA (de_var (fun _ => pv 3)) (de_var (fun _ => pv 4)))))) (fun _ => PassesOwn.never))
  (dss_one (ds_ret (de_var (fun _ => pv 2))))))) (fun δ Qd l h => ?_)
  obtain ⟨f, ns, rfl, hl, hf, hn, hq⟩ := h
  refine ⟨_, rfl, _, rfl, _, _, rfl, rfl, ?_⟩
  rw [pairD_map]
  have hz : ∀ p : Int × Int, p ∈ f.2.zip ns → smallI p.1 ∧ smallI p.2 := fun p hp => ⟨hf _ (List.of_mem_zip hp).1, hn _ (List.of_mem_zip hp).2⟩
  have e0 : fval f ns = f.1 + ((f.2.zip ns).map fun p => p.1 * p.2).sum := rfl
  generalize f.2.zip ns = zs at hz e0
  refine for_inv (fun i δ => ∃ s1 s2, δ = [.val (fmD f), .val (iL ns), .val (.int (f.1 + ((zs.take i).map fun p => p.1 * p.2).sum)), s1, s2]) ⟨.any, .any, by rw [List.take_zero, List.map_nil, List.sum_nil, Int.add_zero]; rfl⟩ (fun i dd δ N hi hI h1 => ?_) (fun δ hI => ?_)
  · obtain ⟨s1, s2, rfl⟩ := hI
    rw [List.getElem?_map] at hi
    obtain ⟨p, hp, rfl⟩ := Option.map_eq_some_iff.mp hi
    have hs := hz p (List.mem_of_getElem? hp)
    refine ⟨rfl, rfl, ?_, h1 _ ⟨.val (.int p.1), .val (.int p.2), ?_⟩⟩
    · have h1 := hs.1
      have h2 := hs.2
      unfold smallI at h1 h2
      unfold CMulW
      omega
    · rw [List.take_add_one, hp, List.map_append, List.sum_append, ← Int.add_assoc]
      show _ = [_, _, Sl.val (Dt.int (f.1 + ((zs.take i).map fun p => p.1 * p.2).sum + (p.1 * p.2 + 0))), _, _]
      rw [Int.add_zero]
      rfl
  · obtain ⟨s1, s2, rfl⟩ := hI
    rw [List.length_map, List.take_length, ← e0]
    exact hq
end
end My
set_option maxHeartbeats 4000000
namespace My
open PySem PySem.Spec PyProof.Rows L2 Lcn Sq Dl
open M22
theorem dAdd_int {i j k : Int} {Q : Dt → Prop} (h : i + j = k) (q : Q (.int k)) : dAdd (.int i) (.int j) Q := by
  subst h
  exact q
theorem dEq_int {i j : Int} {neg : Bool} {Q : Dt → Prop} (b : Bool) (hb : (if neg then !decide (i = j) else decide (i = j)) = b) (q : Q (.bl b)) : dEq neg (.int i) (.int j) Q := dEq_sep (f := Dt.int) sep_int (n := 0) (fit_int 0) (by decide) (by rw [hb]; exact q)
theorem dEq_iL {x y : List Int} {neg : Bool} {Q : Dt → Prop} (b : Bool) (hb : (if neg then !decide (x = y) else decide (x = y)) = b) (q : Q (.bl b)) : dEq neg (iL x) (iL y) Q := dEq_sep (f := iL) sep_iL (n := 1) fit_iL (by decide) (by rw [hb]; exact q)
theorem sep_deed : Sep deedD := fun x y => by
  show _ = decide (x = y)
  have e : decide (x = y) = decide (x.map Int.ofNat = y.map Int.ofNat) := by
    rw [decide_eq_decide]
    refine ⟨fun h => by rw [h], fun h => List.map_inj_right (fun a b e => by injection e) |>.mp h⟩
  rw [e]
  exact sep_iT _ _
theorem fit_deed (f : List Nat) : Fit 1 (deedD f) := fit_iT _
theorem dEq_deed {x y : List Nat} {neg : Bool} {Q : Dt → Prop} (b : Bool) (hb : (if neg then !decide (x = y) else decide (x = y)) = b) (q : Q (.bl b)) : dEq neg (deedD x) (deedD y) Q := dEq_sep (f := deedD) sep_deed (n := 1) fit_deed (by decide) (by rw [hb]; exact q)
theorem filter_one {x : Nat} : ∀ n, x < n → (List.range n).filter (fun k => decide (k = x)) = [x]
  | 0, h => absurd h (Nat.not_lt_zero _)
  | n + 1, h => by
    rw [List.range_succ, List.filter_append]
    by_cases e : x = n
    · subst e
      have : (List.range x).filter (fun k => decide (k = x)) = [] := by
        rw [List.filter_eq_nil_iff]
        intro k hk
        have := List.mem_range.mp hk
        simp
        omega
      rw [this]
      simp
    · rw [filter_one n (by omega)]
      have : ([n]).filter (fun k => decide (k = x)) = [] := by
        rw [List.filter_eq_nil_iff]
        intro k hk
        rw [List.mem_singleton] at hk
        simp
        omega
      rw [this]
      rfl
theorem dTuple_lst {ds : List Dt} {d : Dt} {Q : Dt → Prop} (h : Dt.tup ds = d) (q : Q d) : dTuple [.lst ds] Q := by
  subst h
  exact q
/-- numbers of states -/
def natD (k : Nat) : Dt := .int (k : Int)
def cD (xs : List (Int × Int)) : Dt := .tup (xs.map fun p => .tup [.int p.1, .int p.2])
def chs (n j : Nat) : List (Int × Int) := (List.range n).map fun (k : Nat) => (((k + 1 : Nat) : Int), if k < j then (0 : Int) else ((n - j : Nat) : Int))
theorem chD_eq {n j : Nat} : chD n j = cD (chs n j) := by
  unfold chD cD chs
  rw [List.map_map]
  rfl
theorem chs_get {n j k : Nat} {d : Dt} (h : ((chs n j).map fun p : Int × Int => Dt.tup [Dt.int p.1, Dt.int p.2])[k]? = some d) : k < n ∧ d = .tup [.int (k + 1 : Nat), .int (if k < j then (0 : Int) else ((n - j : Nat) : Int))] := by
  rw [List.getElem?_map] at h
  obtain ⟨p, hp, rfl⟩ := Option.map_eq_some_iff.mp h
  unfold chs at hp
  rw [List.getElem?_map] at hp
  obtain ⟨q, hq, rfl⟩ := Option.map_eq_some_iff.mp hp
  have hk : k < n := by
    have := (List.getElem?_eq_some_iff.mp hq).1
    simpa using this
  rw [List.getElem?_range hk] at hq
  cases hq
  exact ⟨hk, rfl⟩
theorem pws_get {f : List Nat} {k : Nat} (h : k < 60) : ((List.range 60).map (pw f))[k]? = some (pw f k) := by
  rw [List.getElem?_map, List.getElem?_range h]
  rfl
def FIT (x k : Nat) : List Dt := ((List.range k).filter fun q => decide (q = x)).map fun q => natD (q + 1)
theorem fit_yes {x k : Nat} (h : k = x) : FIT x (k + 1) = FIT x k ++ [.int (k + 1 : Nat)] := by
  unfold FIT
  rw [List.range_succ, List.filter_append, List.map_append, List.filter_cons_of_pos (by simp [h])]
  rfl
theorem fit_no {x k : Nat} (h : k ≠ x) : FIT x (k + 1) = FIT x k := by
  unfold FIT
  rw [List.range_succ, List.filter_append, List.map_append, List.filter_cons_of_neg (by simp [h])]
  simp
theorem fit_len {x k : Nat} (h : k < 1000) : (FIT x k).length < sizeLine := by
  unfold FIT
  rw [List.length_map]
  exact k1000 (Nat.lt_of_le_of_lt (List.length_filter_le _ _) (by rw [List.length_range]; exact h))
theorem sep_cD : Sep cD := sep_tup (sep_two sep_int sep_int)
theorem fit_cD (xs : List (Int × Int)) : Fit 2 (cD xs) := fit_tup (fit_map (fun p => fit_tup fun d m => by
  simp at m
  rcases m with rfl | rfl
  · exact fit_int 0 _
  · exact fit_int 0 _) xs)
theorem dEq_cD {x y : List (Int × Int)} {neg : Bool} {Q : Dt → Prop} (b : Bool) (hb : (if neg then !decide (x = y) else decide (x = y)) = b) (q : Q (.bl b)) : dEq neg (cD x) (cD y) Q := dEq_sep (f := cD) sep_cD (n := 2) fit_cD (by decide) (by rw [hb]; exact q)
def powD (f : List Nat) : Dt := .lst (((List.range 60).map (pw f)).map deedD)
def N1 (n : Nat) : List Int := (List.range n).map fun (k : Nat) => ((k + 1 : Nat) : Int)
theorem chs_fst {n j : Nat} : (chs n j).map (·.1) = N1 n := by
  unfold chs N1
  rw [List.map_map]
  rfl
theorem chs_len {n j : Nat} : (chs n j).length = n := by
  unfold chs
  rw [List.length_map, List.length_range]
theorem chs_last {n j : Nat} (h : j < n) : (chs n j)[n - 1]? = some ((n : Int), ((n - j : Nat) : Int)) := by
  unfold chs
  rw [List.getElem?_map, List.getElem?_range (by omega)]
  show some ((((n - 1 + 1 : Nat)) : Int), if n - 1 < j then (0 : Int) else ((n - j : Nat) : Int)) = _
  rw [if_neg (by omega), show n - 1 + 1 = n by omega]
theorem chs_snd {n j : Nat} {p : Int × Int} (h : p ∈ chs n j) : ¬ p.2 < 0 := by
  obtain ⟨k, _, rfl⟩ := List.mem_map.mp h
  show ¬ (if k < j then (0 : Int) else ((n - j : Nat) : Int)) < 0
  split <;> omega
theorem n1_rng {n : Nat} : N1 n = (List.range n).map fun (i : Nat) => (1 : Int) + (i : Int) := by
  refine List.map_congr_left fun k _ => ?_
  omega
theorem fit_powD (f : List Nat) : Fit 2 (powD f) := fit_lst (fit_map fit_deed _)
def vl : Option Dt → Sl
  | none => .any
  | some d => .val d
def sp_lengths_right : Spc := fun δ Q => δ = [.src] ∧ Q (.bl true)
theorem sc__law_lengths_right : FnScope ["_law_source_here", "_law_states", "_law_deed", "_law_told", "_law_powers", "_law_length", "_law_numbers", "_law_fit", "_law_number", "_law_period", "_law_s"] ["_law_source_here"] (defScope s__law_lengths_right) := ⟨rfl, rfl, rfl, by decide +kernel, rfl, by decide +kernel, by decide +kernel⟩
section
variable {P : Program} {w : World} {K : PySem.W.Frag} {mg : Str → Option Value} {base : Heap}
theorem ok__law_lengths_right (D__law_lengths_right : Dn K mg "_law_lengths_right" s__law_lengths_right ["_law_source_here"]) (D__law_take : Dn K mg "_law_take" s__law_take ["_law_source_here", "_law_many"]) (G__law_take : FnOk P w K mg base CX0 1 D__law_take.f D__law_take.fd ["_law_source_here", "_law_many"] (dsp K 2 sp_take)) (D_length_choices : Dn K mg "length_choices" s_length_choices ["deed"]) (G_length_choices : FnOk P w K mg base CX0 3 D_length_choices.f D_length_choices.fd ["deed"] (dsp K 1 sp_length_choices)) (D__law_power : Dn K mg "_law_power" s__law_power ["_law_deed", "_law_many"]) (G__law_power : FnOk P w K mg base CX0 2 D__law_power.f D__law_power.fd ["_law_deed", "_law_many"] (dsp K 2 sp_power)) (T : TB mg) : FnOk P w K mg base CX0 4 D__law_lengths_right.f D__law_lengths_right.fd ["_law_source_here"] (dsp K 1 sp_lengths_right) := by
  refine fn_d (k := 3) (N := ["_law_source_here", "_law_states", "_law_deed", "_law_told", "_law_powers", "_law_length", "_law_numbers", "_law_fit", "_law_number", "_law_period", "_law_s"]) D__law_lengths_right.F sc__law_lengths_right (fun cdv A outer s H E hr => (dss_cons (ds_set (fun _ p => ps_set (i := 1) sc__law_lengths_right.nd rfl (by first | exact Or.inl rfl | exact Or.inr rfl) p) (de_add de_int (de_call (fun _ pa => pe_call G__law_take (hr.mono (by decide)) (by rfl) D__law_take.m D__law_take.F.kp D__law_take.b .nil pass0 pa) (dl_src (fun _ => pv 0) (dl_val de_int dl_nil)))))
  (dss_cons (ds_set (fun _ p => ps_set (i := 2) sc__law_lengths_right.nd rfl (by first | exact Or.inl rfl | exact Or.inr rfl) p) (de_callTy (fun _ => cr_tuple rfl) rc_tuple (fun _ => by rfl) (fun _ => T.tuple_) (by decide +kernel) (da_cons (de_n (dn_lc (o := true) (own := [(("_law_s" : Str), 10)]) (fun _ => rfl) (fun _ => sc__law_lengths_right.nd) (di_range1 (fun _ => by rfl) (fun _ => T.range) (da_cons (de_var (fun _ => pv 1)) da_nil)) (fun _ => (blkOk_by (own := [(("_law_s" : Str), 10)]) (N := ["_law_source_here", "_law_states", "_law_deed", "_law_told", "_law_powers", "_law_length", "_law_numbers", "_law_fit", "_law_number", "_law_period", "_law_s"]) (sc := defScope s__law_lengths_right) (by decide +kernel))) (dg_name (i := 10) (fun _ => pg_name sc__law_lengths_right.nd rfl (Or.inl rfl))) dts_nil (de_call (fun _ pa => pe_call G__law_take (hr.mono (by decide)) (by rfl) D__law_take.m D__law_take.F.kp D__law_take.b .nil pass0 pa) (dl_src (fun _ => pv 0) (dl_val (de_var (fun _ => pv 1)) dl_nil))) (by decide))) da_nil)))
  (dss_cons (ds_set (fun _ p => ps_set (i := 3) sc__law_lengths_right.nd rfl (by first | exact Or.inl rfl | exact Or.inr rfl) p) (de_call (fun _ pa => pe_call G_length_choices (hr.mono (by decide)) (by rfl) D_length_choices.m D_length_choices.F.kp D_length_choices.b .nil pass0 pa) (dl_val (de_var (fun _ => pv 2)) dl_nil)))
  (dss_cons (ds_if (dt_w (dw_or (dt_not (dt_val (de_isi1 (de_var (fun _ => pv 3)) (fun _ => pe_bltn (v := .ty "tuple") (by rfl) T.tuple_ (by decide +kernel) rfl) (fun _ => by rfl) (fun _ => T.isinstance)))) (dw_or1 (dt_cmpC (cd_eq (fun _ => ru64 hr)) (de_var (fun _ => pv 3)) (de_tup da_nil) (nomark _))))) (dss_one (ds_ret de_bl)) dss_nil)
  (dss_cons (ds_set (fun _ p => ps_set (i := 4) sc__law_lengths_right.nd rfl (by first | exact Or.inl rfl | exact Or.inr rfl) p) (de_n (dn_lc (o := true) (own := [(("_law_number" : Str), 8)]) (fun _ => rfl) (fun _ => sc__law_lengths_right.nd) (di_range2 (fun _ => by rfl) (fun _ => T.range) (da_cons de_int (da_cons de_int da_nil))) (fun _ => (blkOk_by (own := [(("_law_number" : Str), 8)]) (N := ["_law_source_here", "_law_states", "_law_deed", "_law_told", "_law_powers", "_law_length", "_law_numbers", "_law_fit", "_law_number", "_law_period", "_law_s"]) (sc := defScope s__law_lengths_right) (by decide +kernel))) (dg_name (i := 8) (fun _ => pg_name sc__law_lengths_right.nd rfl (Or.inl rfl))) dts_nil (de_call (fun _ pa => pe_call G__law_power (hr.mono (by decide)) (by rfl) D__law_power.m D__law_power.F.kp D__law_power.b .nil pass0 pa) (dl_val (de_var (fun _ => pv 2)) (dl_val (de_var (fun _ => pv 8)) dl_nil))) (by decide))))
  (dss_cons (ds_for (fun _ => rfl) (di_range2 (fun _ => by rfl) (fun _ => T.range) (da_cons de_int (da_cons de_int da_nil))) (dg_name (i := 5) (fun _ => pg_name sc__law_lengths_right.nd rfl (by first | exact Or.inl rfl | exact Or.inr rfl))) (dss_cons (ds_own (fun _ p => ps_set (i := 7) sc__law_lengths_right.nd rfl (by first | exact Or.inl rfl | exact Or.inr rfl) p) (dn_lst da_nil))
  (dss_cons (ds_for (fun _ => rfl) (di_seq (de_var (fun _ => pv 3))) (dg_tup (n := 2) (dgs_cons (dg_name (i := 8) (fun _ => pg_name sc__law_lengths_right.nd rfl (by first | exact Or.inl rfl | exact Or.inr rfl))) (dgs_cons (dg_name (i := 9) (fun _ => pg_name sc__law_lengths_right.nd rfl (by first | exact Or.inl rfl | exact Or.inr rfl))) dgs_nil))) (dss_one (ds_if (dt_w (dw_or (dt_cmpC (cd_eq (fun _ => ru64 hr)) (de_var (fun _ => pv 8)) (de_var (fun _ => pv 5)) (nomark _)) (dw_or1 (dt_w (dw_and (dt_cmpC cd_gt (de_var (fun _ => pv 9)) de_int (nomark _)) (dw_and (dt_cmpC cd_lt (de_var (fun _ => pv 8)) (de_var (fun _ => pv 5)) (nomark _)) (dw_and1 (dt_cmpC (cd_eq (fun _ => ru64 hr)) (de_mod (de_callTy (fun _ => call_int1) rc_int (fun _ => by rfl) (fun _ => T.int) PyProof.Rows.boot_int (da_cons (de_sub (de_var (fun _ => pv 5)) (de_var (fun _ => pv 8))) da_nil)) (de_var (fun _ => pv 9))) de_int (nomark _))))))))) (dss_one (ds_app (fun _ p => ps_expr (pe_bm PySem.F.plainAttrs_list PySem.F.slot_list_append PySem.F.type_list_append mt_append (pv 7) (pa_cons p pa_nil))) (de_var (fun _ => pv 8)))) dss_nil)) (fun _ => PassesOwn.never))
  (dss_one (ds_if (dt_w (dw_or (dt_cmpC (cd_ne (fun _ => ru64 hr)) (de_callB (fun _ => cr_len rfl) rc_len (fun _ => by rfl) (fun _ => T.len) PySem.boot_len (da_cons (de_varO (fun _ => pv 7)) da_nil)) de_int (nomark _)) (dw_or1 (dt_cmpC (cd_ne (fun _ => ru64 hr)) (de_ixA (de_var (fun _ => pv 4)) (de_sub (de_ixA (de_varO (fun _ => pv 7)) de_int (fun _ _ => rfl)) de_int) (fun _ _ => rfl)) (de_ixA (de_var (fun _ => pv 4)) (de_sub (de_var (fun _ => pv 5)) de_int) (fun _ _ => rfl)) (nomark _))))) (dss_one (ds_ret de_bl)) dss_nil)))) (fun _ => PassesOwn.never))
  (dss_cons (ds_ofV (ds_lcN (o := true) (i := 6) (own := [(("_law_number" : Str), 8), (("_law_period" : Str), 9)]) (fun _ => rfl) (fun _ => sc__law_lengths_right.nd) (fun _ => rfl) (fun _ => rfl) (fun _ => sw_true rfl rfl rfl (by decide +kernel)) (di_seq (de_var (fun _ => pv 3))) (fun _ => (blkOk_by (own := [(("_law_number" : Str), 8), (("_law_period" : Str), 9)]) (N := ["_law_source_here", "_law_states", "_law_deed", "_law_told", "_law_powers", "_law_length", "_law_numbers", "_law_fit", "_law_number", "_law_period", "_law_s"]) (sc := defScope s__law_lengths_right) (by decide +kernel))) (dg_tup (n := 2) (dgs_cons (dg_name (i := 8) (fun _ => pg_name sc__law_lengths_right.nd rfl (Or.inl rfl))) (dgs_cons (dg_name (i := 9) (fun _ => pg_name sc__law_lengths_right.nd rfl (Or.inl rfl))) dgs_nil))) dts_nil (de_var (fun _ => pv 8)) (by decide) rfl))
  (dss_cons (ds_if (dt_w (dw_or (dt_cmpC (cd_ne (fun _ => ru64 hr)) (de_var (fun _ => pv 6)) (de_list2Rg (fun _ => by rfl) (fun _ => T.list_) (fun _ => by rfl) (fun _ => T.range) de_int (de_add (de_callB (fun _ => cr_len rfl) rc_len (fun _ => by rfl) (fun _ => T.len) PySem.boot_len (da_cons (de_var (fun _ => pv 3)) da_nil)) de_int)) (nomark _)) (dw_or1 (dt_cmpC (cd_ne (fun _ => ru64 hr)) (de_n (dn_lc (o := true) (own := [(("_law_number" : Str), 8), (("_law_period" : Str), 9)]) (fun _ => rfl) (fun _ => sc__law_lengths_right.nd) (di_seq (de_var (fun _ => pv 3))) (fun _ => (blkOk_by (own := [(("_law_number" : Str), 8), (("_law_period" : Str), 9)]) (N := ["_law_source_here", "_law_states", "_law_deed", "_law_told", "_law_powers", "_law_length", "_law_numbers", "_law_fit", "_law_number", "_law_period", "_law_s"]) (sc := defScope s__law_lengths_right) (by decide +kernel))) (dg_tup (n := 2) (dgs_cons (dg_name (i := 8) (fun _ => pg_name sc__law_lengths_right.nd rfl (Or.inl rfl))) (dgs_cons (dg_name (i := 9) (fun _ => pg_name sc__law_lengths_right.nd rfl (Or.inl rfl))) dgs_nil))) (dts_one (dt_cmpC cd_lt (de_var (fun _ => pv 9)) de_int (nomark _))) de_int (by decide))) (de_n (dn_lst da_nil)) (nomark _))))) (dss_one (ds_ret de_bl)) dss_nil)
  (dss_cons (ds_if (dt_w (dw_or (dt_cmpC cd_gt (de_callB (fun _ => cr_len rfl) rc_len (fun _ => by rfl) (fun _ => T.len) PySem.boot_len (da_cons (de_var (fun _ => pv 6)) da_nil)) de_int (nomark _)) (dw_or1 (dt_cmpC (cd_eq (fun _ => ru64 hr)) (de_ixA (de_ixA (de_var (fun _ => pv 3)) (de_sub (de_callB (fun _ => cr_len rfl) rc_len (fun _ => by rfl) (fun _ => T.len) PySem.boot_len (da_cons (de_var (fun _ => pv 3)) da_nil)) de_int) (fun _ _ => rfl)) de_int (fun _ _ => rfl)) de_int (nomark _))))) (dss_one (ds_ret de_bl)) dss_nil)
  (dss_one (ds_ret (de_cmpC (cd_eq (fun _ => ru64 hr)) (de_n (dn_lc (o := true) (own := [(("_law_number" : Str), 8)]) (fun _ => rfl) (fun _ => sc__law_lengths_right.nd) (di_seq (de_var (fun _ => pv 6))) (fun _ => (blkOk_by (own := [(("_law_number" : Str), 8)]) (N := ["_law_source_here", "_law_states", "_law_deed", "_law_told", "_law_powers", "_law_length", "_law_numbers", "_law_fit", "_law_number", "_law_period", "_law_s"]) (sc := defScope s__law_lengths_right) (by decide +kernel))) (dg_name (i := 8) (fun _ => pg_name sc__law_lengths_right.nd rfl (Or.inl rfl))) (dts_one (dt_cmpC (cd_ne (fun _ => ru64 hr)) (de_index (fun _ p q => pe_bm PySem.F.plainAttrs_list PySem.F.slot_list_index PySem.F.type_list_index (mt_indexD (ru65 hr)) p (pa_cons q pa_nil)) (de_var (fun _ => pv 4)) (de_ixA (de_var (fun _ => pv 4)) (de_sub (de_var (fun _ => pv 8)) de_int) (fun _ _ => rfl))) (de_sub (de_var (fun _ => pv 8)) de_int) (nomark _))) de_int (by decide))) (de_n (dn_lst da_nil)) (nomark _)))))))))))))) (fun δ Qd l h => ?_)
  obtain ⟨rfl, hq⟩ := h
  have p200 : (6 : Int) < 2 ^ 200 := by decide
  refine ⟨rfl, 6, rfl, by decide, by decide, fun r r0 r1 => ?_⟩
  obtain ⟨st, hst⟩ : ∃ st : Nat, 1 + r = (st : Int) := ⟨(1 + r).toNat, by omega⟩
  refine dAdd_int hst ?_
  have hb := b62 (i := (st : Int)) (by omega) (by omega)
  refine ⟨hb.1, hb.2, rfl, by rw [rngD_len]; exact k1000 (by omega), ?_⟩
  refine lc_all natD (fun z => z < st) _ (fun x m Q q => ?_) fun f hfl hf => ?_
  · refine ⟨rfl, (st : Int), rfl, by omega, by omega, fun s s0 s1 => ?_⟩
    have := q s.toNat (by omega)
    unfold natD at this
    rw [show ((s.toNat : Nat) : Int) = s by omega] at this
    exact this
  have ed : Dt.tup (f.map natD) = deedD f := by
    unfold deedD iT
    rw [List.map_map]
    rfl
  have hlen : f.length = st := by
    rw [hfl, List.length_range]
    omega
  have hfm : ∀ s, s ∈ f → s < f.length := fun s hs => by rw [hlen]; exact hf s hs
  obtain ⟨n, j, hn60, hn⟩ := pw_first (f := f) (by omega) hfm
  have hj := hn.lt
  have hlt : f.length < 1000 := by omega
  refine ⟨rfl, f, n, j, by rw [← ed], hfm, hlt, hn, hn60, ?_⟩
  rw [chD_eq]
  have hne : chs n j ≠ [] := by
    unfold chs
    intro z
    have := congrArg List.length z
    rw [List.length_map, List.length_range] at this
    simp at this
    omega
  refine ⟨_, rfl, _, rfl, (by show 0 ≤ sizeLine; decide), dEq_cD (y := []) false (decide_eq_false hne) ⟨_, rfl, ?_⟩⟩
  refine ⟨⟨(b62 (by omega) (by omega)).1, (b62 (by omega) (by omega)).2, (b62 (by omega) (by omega)).1, (b62 (by omega) (by omega)).2⟩, rfl, k1000 (by decide), ?_⟩
  refine lc_map (fun k : Nat => deedD (pw f k)) (List.range 60) (fun k m Q q => ?_) ?_
  · have hk := List.mem_range.mp m
    refine ⟨rfl, f, k, ?_, hfm, hlt, by omega, q⟩
    rw [show (1 + (k : Int)) = ((k + 1 : Nat) : Int) by omega, ← ed]
  have ep : ((List.range 60).map fun k => deedD (pw f k)) = ((List.range 60).map (pw f)).map deedD := by rw [List.map_map]; rfl
  rw [ep]
  refine ⟨⟨(b62 (by omega) (by omega)).1, (b62 (by omega) (by omega)).2, (b62 (by omega) (by omega)).1, (b62 (by omega) (by omega)).2⟩, ?_⟩
  refine for_inv (fun i δ => ∃ s5 s7 o8 o9, δ = [.src, .val (.int st), .val (.tup (f.map natD)), .val (cD (chs n j)), .val (powD f), s5, .any, s7, vl o8, vl o9, .any]) ⟨.any, .any, none, none, rfl⟩ (fun i dd δ N hi hI h1 => ?_) (fun δ hI => ?_)
  · obtain ⟨s5, s7, o8, o9, rfl⟩ := hI
    obtain ⟨hi60, rfl⟩ := rngD_get hi
    have hi60 : i < 60 := hi60
    refine ⟨(by show 0 ≤ sizeLine; decide), fun a => ?_⟩
    refine for_inv (fun k δ => ∃ o8 o9, δ = [.src, .val (.int st), .val (.tup (f.map natD)), .val (cD (chs n j)), .val (powD f), .val (.int (1 + (i : Int))), .any, .own a (.l (FIT (num n j i) k)), vl o8, vl o9, .any]) ⟨o8, o9, rfl⟩ (fun k dd δ M hk hI h2 => ?_) (fun δ hI => ?_)
    · obtain ⟨o8, o9, rfl⟩ := hI
      obtain ⟨hkn, rfl⟩ := chs_get hk
      have yes : k = num n j i → M [.src, .val (.int st), .val (.tup (f.map natD)), .val (cD (chs n j)), .val (powD f), .val (.int (1 + (i : Int))), .any, .own a (.l (FIT (num n j i) k ++ [.int (k + 1 : Nat)])), .val (.int (k + 1 : Nat)), .val (.int (if k < j then (0 : Int) else ((n - j : Nat) : Int))), .any] := fun e => h2 _ ⟨some _, some _, by rw [fit_yes e]; rfl⟩
      have no : k ≠ num n j i → M [.src, .val (.int st), .val (.tup (f.map natD)), .val (cD (chs n j)), .val (powD f), .val (.int (1 + (i : Int))), .any, .own a (.l (FIT (num n j i) k)), .val (.int (k + 1 : Nat)), .val (.int (if k < j then (0 : Int) else ((n - j : Nat) : Int))), .any] := fun e => h2 _ ⟨some _, some _, by rw [fit_no e]; rfl⟩
      have hsz : (FIT (num n j i) k).length < sizeLine := fit_len (by omega)
      have hiff := fit_iff (L := i) hj hkn
      refine ⟨rfl, rfl, ?_⟩
      by_cases h3 : k = i
      · exact dEq_int true (decide_eq_true (by omega)) ⟨_, rfl, hsz, yes (hiff.mp (.inl h3))⟩
      · refine dEq_int false (decide_eq_false (by omega)) ⟨_, rfl, ?_⟩
        by_cases h4 : k < j
        · refine ⟨_, rfl, ite_f (decide_eq_false (by rw [if_pos h4]; decide)) (no fun e => ?_)⟩
          rcases hiff.mpr e with z | z <;> omega
        · refine ⟨_, rfl, ite_t (decide_eq_true (by rw [if_neg h4]; omega)) ?_⟩
          by_cases h5 : k < i
          · refine ⟨_, rfl, ite_t (decide_eq_true (by omega)) ?_⟩
            have em : (1 + (i : Int) - ((k + 1 : Nat) : Int)) % (if k < j then (0 : Int) else ((n - j : Nat) : Int)) = (((i - k) % (n - j) : Nat) : Int) := by
              rw [if_neg h4, show 1 + (i : Int) - ((k + 1 : Nat) : Int) = ((i - k : Nat) : Int) by omega]
              exact (Int.natCast_emod _ _).symm
            refine ⟨by rw [if_neg h4]; omega, ?_⟩
            by_cases h6 : (i - k) % (n - j) = 0
            · exact dEq_int true (decide_eq_true (by rw [em, h6]; rfl)) ⟨_, rfl, hsz, yes (hiff.mp (.inr ⟨by omega, h5, h6⟩))⟩
            · refine dEq_int false (decide_eq_false (by rw [em]; omega)) ⟨_, rfl, no fun e => ?_⟩
              rcases hiff.mpr e with z | ⟨_, _, z⟩
              · omega
              · exact h6 z
          · refine ⟨_, rfl, ite_f (decide_eq_false (by omega)) (no fun e => ?_)⟩
            rcases hiff.mpr e with z | z <;> omega
    · obtain ⟨o8, o9, rfl⟩ := hI
      have hnx := num_lt (n := n) (L := i) hj
      have hF : FIT (num n j i) ((chs n j).map fun p : Int × Int => Dt.tup [Dt.int p.1, Dt.int p.2]).length = [natD (num n j i + 1)] := by
        unfold FIT chs
        rw [List.length_map, List.length_map, List.length_range, filter_one n hnx]
        rfl
      rw [hF]
      refine dEq_int false rfl ⟨_, rfl, ?_⟩
      refine ⟨_, rfl, ?_⟩
      refine ix_map (f := deedD) (x := pw f (num n j i)) ?_ (ix_map (f := deedD) (x := pw f i) ?_ (dEq_deed false ?_ ⟨_, rfl, h1 _ ⟨_, _, o8, o9, rfl⟩⟩))
      · rw [show ((num n j i + 1 : Nat) : Int) - 1 = ((num n j i : Nat) : Int) by omega]
        exact atI_nat (pws_get (by omega))
      · rw [show 1 + (i : Int) - 1 = (i : Int) by omega]
        exact atI_nat (pws_get hi60)
      · have := num_eq hn pw_step i
        rw [this]
        simp
  · obtain ⟨s5, s7, o8, o9, rfl⟩ := hI
    have hsz : ((chs n j).map fun p : Int × Int => Dt.tup [Dt.int p.1, Dt.int p.2]).length < sizeLine := k1000 (by rw [List.length_map, chs_len]; omega)
    have hn1 : (N1 n).length = n := by unfold N1; rw [List.length_map, List.length_range]
    refine ⟨by cases o8 <;> cases o9 <;> rfl, hsz, ?_⟩
    refine lc_map (fun p : Int × Int => Dt.int p.1) (chs n j) (fun p m Q q => ⟨rfl, rfl, q⟩) ?_
    rw [map_int2, chs_fst]
    refine ⟨?_, ?_⟩
    · rw [List.length_map, chs_len]
      exact ⟨(b62 (by omega) (by omega)).1, (b62 (by omega) (by omega)).2, (b62 (by omega) (by omega)).1, (b62 (by omega) (by omega)).2, by omega⟩
    rw [rngD_map]
    refine dEq_iL (x := N1 n) false ?_ ⟨_, rfl, ?_⟩
    · rw [List.length_map, chs_len, show ((n : Int) + 1 - 1).toNat = n by omega, n1_rng]
      simp
    refine ⟨by cases o8 <;> cases o9 <;> rfl, hsz, ?_⟩
    refine lc_fm (fun _ => false) (fun _ => Dt.int 1) (chs n j) [] (fun p m Q R g1 g2 => ⟨rfl, rfl, _, rfl, ite_f (decide_eq_false (chs_snd m)) (g2 rfl)⟩) ?_
    have e1 : ([] : List Dt) ++ ((chs n j).filter fun _ => false).map (fun _ => Dt.int 1) = ([] : List Int).map Dt.int := by simp
    rw [e1]
    refine ⟨(by show 0 ≤ sizeLine; decide), dEq_iL (x := []) (y := []) false rfl ⟨_, rfl, ?_⟩⟩
    refine ⟨_, rfl, ite_f (decide_eq_false (by rw [List.length_map, hn1]; omega)) ?_⟩
    refine ixT_map (f := fun p : Int × Int => Dt.tup [Dt.int p.1, Dt.int p.2]) (x := ((n : Int), ((n - j : Nat) : Int))) ?_ ⟨_, rfl, dEq_int false (decide_eq_false (by omega)) ⟨_, rfl, ?_⟩⟩
    · rw [List.length_map, chs_len, show (n : Int) - 1 = ((n - 1 : Nat) : Int) by omega]
      exact atI_nat (chs_last hj)
    refine ⟨by cases o8 <;> cases o9 <;> rfl, by rw [List.length_map, hn1]; exact k1000 (by omega), ?_⟩
    refine lc_fm (fun _ => false) (fun _ => Dt.int 1) (N1 n) [] (fun e m Q R g1 g2 => ?_) ?_
    · obtain ⟨k, hk, rfl⟩ := List.mem_map.mp m
      have hk := List.mem_range.mp hk
      refine ix_map (f := deedD) (x := pw f k) ?_ ⟨(fit_powD f).sh (by decide), (fit_deed _).sh (by decide), k, deedD (pw f k), ?_, ?_, fun q z hq hz => ?_, ?_⟩
      · rw [show ((k + 1 : Nat) : Int) - 1 = (k : Int) by omega]
        exact atI_nat (pws_get (by omega))
      · rw [List.getElem?_map, pws_get (by omega)]
        rfl
      · rw [sep_deed]
        simp
      · rw [List.getElem?_map, pws_get (by omega)] at hz
        cases hz
        rw [sep_deed]
        exact decide_eq_false (hn.new q k hq hk)
      · refine dEq_int false ?_ ⟨_, rfl, g2 rfl⟩
        rw [show ((k + 1 : Nat) : Int) - 1 = (k : Int) by omega]
        simp
    have e2 : ([] : List Dt) ++ ((N1 n).filter fun _ => false).map (fun _ => Dt.int 1) = ([] : List Int).map Dt.int := by simp
    rw [e2]
    exact ⟨(by show 0 ≤ sizeLine; decide), dEq_iL (x := []) (y := []) true rfl hq⟩
end
end My
set_option maxHeartbeats 4000000
namespace My
open PySem PySem.Spec PyProof.Rows L2 Lcn Sq Dl
open M22
/-- a form that is drawn -/
def okF (m : Nat) (f : Int × List Int) : Prop := f.2.length = m ∧ (∀ i, i ∈ f.2 → smallI i)
def sp_form : Spc := fun δ Q => ∃ m : Nat, δ = [.src, .val (.int (m : Int))] ∧ m < 10 ∧ ∀ f, okF m f → Q (fmD f)
def sp_forms : Spc := fun δ Q => ∃ m : Nat, δ = [.src, .val (.int (m : Int))] ∧ m < 10 ∧ ∀ fs : List (Int × List Int), fs.length ≤ 5 → (∀ f, f ∈ fs → okF m f) → Q (.lst (fs.map fmD))
theorem small_lt {i : Int} (h : i.natAbs < 2 ^ 200) : smallI i := by
  unfold smallI
  by_cases z : i.natAbs = 0
  · rw [z]
    decide
  · exact Nat.lt_trans ((Nat.log2_lt z).mpr h) (by decide)
theorem three {ds : List Dt} {P : Int → Prop} {c : Int} (x y z : Int) (hx : P x) (hy : P y) (hz : P z) (c0 : 0 ≤ c) (c1 : c < 3) (e : ds = [.int x, .int y, .int z]) : ∃ w, atI ds c = some (.int w) ∧ P w := by
  subst e
  rcases (by omega : c = 0 ∨ c = 1 ∨ c = 2) with rfl | rfl | rfl
  · exact ⟨x, rfl, hx⟩
  · exact ⟨y, rfl, hy⟩
  · exact ⟨z, rfl, hz⟩
theorem cp30 : CPow 10 30 := ⟨by decide, by decide, by decide⟩
theorem cm30 : CMulW 2 (10 ^ Int.toNat 30) := by
  unfold CMulW
  decide +kernel
theorem sep_fmD : Sep fmD := sep_two sep_int sep_iT
theorem fit_fmD (f : Int × List Int) : Fit 2 (fmD f) := fit_tup fun d m => by
  simp at m
  rcases m with rfl | rfl
  · exact fit_int 1 _
  · exact fit_iT _
theorem dEq_fL {x y : List (Int × List Int)} {neg : Bool} {Q : Dt → Prop} (b : Bool) (hb : (if neg then !decide (x = y) else decide (x = y)) = b) (q : Q (.bl b)) : dEq neg (.lst (x.map fmD)) (.lst (y.map fmD)) Q := dEq_sep (f := fun xs : List (Int × List Int) => Dt.lst (xs.map fmD)) (sep_lst sep_fmD) (n := 3) (fun xs => fit_lst (fit_map fit_fmD xs)) (by decide) (by rw [hb]; exact q)
theorem sc__law_form : FnScope ["_law_source_here", "_law_many", "_law_number", "_law_factors", "_law_i"] ["_law_source_here", "_law_many"] (defScope s__law_form) := ⟨rfl, rfl, rfl, by decide +kernel, rfl, by decide +kernel, by decide +kernel⟩
section
variable {P : Program} {w : World} {K : PySem.W.Frag} {mg : Str → Option Value} {base : Heap}
theorem ok__law_form (D__law_form : Dn K mg "_law_form" s__law_form ["_law_source_here", "_law_many"]) (D__law_take : Dn K mg "_law_take" s__law_take ["_law_source_here", "_law_many"]) (G__law_take : FnOk P w K mg base CX0 1 D__law_take.f D__law_take.fd ["_law_source_here", "_law_many"] (dsp K 2 sp_take)) (T : TB mg) : FnOk P w K mg base CX0 2 D__law_form.f D__law_form.fd ["_law_source_here", "_law_many"] (dsp K 2 sp_form) := by
  refine fn_d (k := 1) (N := ["_law_source_here", "_law_many", "_law_number", "_law_factors", "_law_i"]) D__law_form.F sc__law_form (fun cdv A outer s H E hr => (dss_cons (ds_set (fun _ p => ps_set (i := 2) sc__law_form.nd rfl (by first | exact Or.inl rfl | exact Or.inr rfl) p) (de_ixA (de_n (dn_lst (da_cons (de_sub (de_call (fun _ pa => pe_call G__law_take (hr.mono (by decide)) (by rfl) D__law_take.m D__law_take.F.kp D__law_take.b .nil pass0 pa) (dl_src (fun _ => pv 0) (dl_val de_int dl_nil))) de_int) (da_cons (de_sub (de_call (fun _ pa => pe_call G__law_take (hr.mono (by decide)) (by rfl) D__law_take.m D__law_take.F.kp D__law_take.b .nil pass0 pa) (dl_src (fun _ => pv 0) (dl_val (de_add (de_mulA de_int (de_pow de_int de_int)) de_int) dl_nil))) (de_pow de_int de_int)) (da_cons de_int da_nil))))) (de_call (fun _ pa => pe_call G__law_take (hr.mono (by decide)) (by rfl) D__law_take.m D__law_take.F.kp D__law_take.b .nil pass0 pa) (dl_src (fun _ => pv 0) (dl_val de_int dl_nil))) (fun _ _ => rfl)))
  (dss_cons (ds_ofV (ds_lcN (o := true) (i := 3) (own := [(("_law_i" : Str), 4)]) (fun _ => rfl) (fun _ => sc__law_form.nd) (fun _ => rfl) (fun _ => rfl) (fun _ => sw_true rfl rfl rfl (by decide +kernel)) (di_range1 (fun _ => by rfl) (fun _ => T.range) (da_cons (de_var (fun _ => pv 1)) da_nil)) (fun _ => (blkOk_by (own := [(("_law_i" : Str), 4)]) (N := ["_law_source_here", "_law_many", "_law_number", "_law_factors", "_law_i"]) (sc := defScope s__law_form) (by decide +kernel))) (dg_name (i := 4) (fun _ => pg_name sc__law_form.nd rfl (Or.inl rfl))) dts_nil (de_ixA (de_n (dn_lst (da_cons (de_call (fun _ pa => pe_call G__law_take (hr.mono (by decide)) (by rfl) D__law_take.m D__law_take.F.kp D__law_take.b .nil pass0 pa) (dl_src (fun _ => pv 0) (dl_val de_int dl_nil))) (da_cons (de_call (fun _ pa => pe_call G__law_take (hr.mono (by decide)) (by rfl) D__law_take.m D__law_take.F.kp D__law_take.b .nil pass0 pa) (dl_src (fun _ => pv 0) (dl_val (de_pow de_int de_int) dl_nil))) (da_cons (de_neg (de_call (fun _ pa => pe_call G__law_take (hr.mono (by decide)) (by rfl) D__law_take.m D__law_take.F.kp D__law_take.b .nil pass0 pa) (dl_src (fun _ => pv 0) (dl_val de_int dl_nil)))) da_nil))))) (de_call (fun _ pa => pe_call G__law_take (hr.mono (by decide)) (by rfl) D__law_take.m D__law_take.F.kp D__law_take.b .nil pass0 pa) (dl_src (fun _ => pv 0) (dl_val de_int dl_nil))) (fun _ _ => rfl)) (by decide) rfl))
  (dss_one (ds_ret (de_tup (da_cons (de_var (fun _ => pv 2)) (da_cons (de_callTy (fun _ => cr_tuple rfl) rc_tuple (fun _ => by rfl) (fun _ => T.tuple_) (by decide +kernel) (da_cons (de_var (fun _ => pv 3)) da_nil)) da_nil)))))))) (fun δ Qd l h => ?_)
  obtain ⟨m, rfl, hm, hq⟩ := h
  have p200 : (10 : Int) ^ 30 * 4 < 2 ^ 200 := by decide
  refine ⟨rfl, 7, rfl, by decide, by decide, fun a a0 a1 => ?_⟩
  refine ⟨cp30, cm30, rfl, _, rfl, by decide +kernel, by decide +kernel, fun b b0 b1 => ?_⟩
  refine ⟨cp30, (by show 3 ≤ sizeLine; decide), rfl, 3, rfl, by decide, by decide, fun c c0 c1 => ?_⟩
  obtain ⟨x, hx, _⟩ := three (P := fun _ => True) _ _ _ trivial trivial trivial c0 c1 rfl
  refine ⟨_, hx, ?_⟩
  have hb := b62 (i := (m : Int)) (by omega) (by omega)
  refine ⟨hb.1, hb.2, rfl, by rw [rngD_len]; exact k1000 (by omega), ?_⟩
  refine lc_all Dt.int smallI _ (fun e _ Q q => ?_) fun zs hl hz => ?_
  · refine ⟨rfl, 3, rfl, by decide, by decide, fun x x0 x1 => ?_⟩
    refine ⟨cp30, rfl, _, rfl, by decide +kernel, by decide +kernel, fun y y0 y1 => ?_⟩
    refine ⟨rfl, 9, rfl, by decide, by decide, fun z z0 z1 => ?_⟩
    refine ⟨_, rfl, (by show 3 ≤ sizeLine; decide), rfl, 3, rfl, by decide, by decide, fun c c0 c1 => ?_⟩
    have k30 : (10 : Int) ^ Int.toNat 30 < 2 ^ 200 := by decide +kernel
    have n200 : (2 : Int) ^ 200 = ((2 ^ 200 : Nat) : Int) := by decide +kernel
    obtain ⟨w, hw, sw⟩ := three (P := smallI) x y (-z) (small_lt (by omega)) (small_lt (by omega)) (small_lt (by omega)) c0 c1 rfl
    exact ⟨_, hw, q w sw⟩
  · refine ⟨(by show 2 ≤ sizeLine; decide), hq (x, zs) ⟨?_, hz⟩⟩
    rw [hl, List.length_range]
    omega
end
theorem sc__law_forms : FnScope ["_law_source_here", "_law_many", "_law_told", "_law_k", "_law_form_here"] ["_law_source_here", "_law_many"] (defScope s__law_forms) := ⟨rfl, rfl, rfl, by decide +kernel, rfl, by decide +kernel, by decide +kernel⟩
section
variable {P : Program} {w : World} {K : PySem.W.Frag} {mg : Str → Option Value} {base : Heap}
theorem ok__law_forms (D__law_forms : Dn K mg "_law_forms" s__law_forms ["_law_source_here", "_law_many"]) (D__law_take : Dn K mg "_law_take" s__law_take ["_law_source_here", "_law_many"]) (G__law_take : FnOk P w K mg base CX0 1 D__law_take.f D__law_take.fd ["_law_source_here", "_law_many"] (dsp K 2 sp_take)) (D__law_form : Dn K mg "_law_form" s__law_form ["_law_source_here", "_law_many"]) (G__law_form : FnOk P w K mg base CX0 2 D__law_form.f D__law_form.fd ["_law_source_here", "_law_many"] (dsp K 2 sp_form)) (T : TB mg) : FnOk P w K mg base CX0 3 D__law_forms.f D__law_forms.fd ["_law_source_here", "_law_many"] (dsp K 2 sp_forms) := by
  refine fn_d (k := 2) (N := ["_law_source_here", "_law_many", "_law_told", "_law_k", "_law_form_here"]) D__law_forms.F sc__law_forms (fun cdv A outer s H E hr => (dss_cons (ds_own (fun _ p => ps_set (i := 2) sc__law_forms.nd rfl (by first | exact Or.inl rfl | exact Or.inr rfl) p) (dn_lst da_nil))
  (dss_cons (ds_for (fun _ => rfl) (di_range1 (fun _ => by rfl) (fun _ => T.range) (da_cons (de_ixA (de_n (dn_lst (da_cons de_int (da_cons de_int (da_cons de_int (da_cons de_int (da_cons de_int (da_cons de_int (da_cons de_int (da_cons de_int da_nil)))))))))) (de_call (fun _ pa => pe_call G__law_take (hr.mono (by decide)) (by rfl) D__law_take.m D__law_take.F.kp D__law_take.b .nil pass0 pa) (dl_src (fun _ => pv 0) (dl_val de_int dl_nil))) (fun _ _ => rfl)) da_nil)) (dg_name (i := 3) (fun _ => pg_name sc__law_forms.nd rfl (by first | exact Or.inl rfl | exact Or.inr rfl))) (dss_cons (ds_set (fun _ p => ps_set (i := 4) sc__law_forms.nd rfl (by first | exact Or.inl rfl | exact Or.inr rfl) p) (de_call (fun _ pa => pe_call G__law_form (hr.mono (by decide)) (by rfl) D__law_form.m D__law_form.F.kp D__law_form.b .nil pass0 pa) (dl_src (fun _ => pv 0) (dl_val (de_var (fun _ => pv 1)) dl_nil))))
  (dss_cons (ds_if (dt_w (dw_and (dt_cmpC (cd_ne (fun _ => ru64 hr)) (de_varO (fun _ => pv 2)) (de_n (dn_lst da_nil)) (nomark _)) (dw_and1 (dt_cmpC (cd_eq (fun _ => ru64 hr)) (de_call (fun _ pa => pe_call G__law_take (hr.mono (by decide)) (by rfl) D__law_take.m D__law_take.F.kp D__law_take.b .nil pass0 pa) (dl_src (fun _ => pv 0) (dl_val de_int dl_nil))) de_int (nomark _))))) (dss_one (ds_set (fun _ p => ps_set (i := 4) sc__law_forms.nd rfl (by first | exact Or.inl rfl | exact Or.inr rfl) p) (de_tup (da_cons (de_ixA (de_var (fun _ => pv 4)) de_int (fun _ _ => rfl)) (da_cons (de_ixA (de_ixO (fun _ => pv 2) (de_flat (de_sub (de_callB (fun _ => cr_len rfl) rc_len (fun _ => by rfl) (fun _ => T.len) PySem.boot_len (da_cons (de_varO (fun _ => pv 2)) da_nil)) de_int)) (fun _ _ => rfl)) de_int (fun _ _ => rfl)) da_nil))))) dss_nil)
  (dss_one (ds_if (dt_cmpC (cd_notIn (fun _ => ru65 hr)) (de_var (fun _ => pv 4)) (de_varO (fun _ => pv 2)) (by rfl)) (dss_one (ds_app (fun _ p => ps_expr (pe_bm PySem.F.plainAttrs_list PySem.F.slot_list_append PySem.F.type_list_append mt_append (pv 2) (pa_cons p pa_nil))) (de_var (fun _ => pv 4)))) dss_nil)))) (fun _ => PassesOwn.never))
  (dss_one (ds_ret (de_varO (fun _ => pv 2))))))) (fun δ Qd l h => ?_)
  obtain ⟨m, rfl, hm, hq⟩ := h
  refine ⟨(by show 0 ≤ sizeLine; decide), fun a => ?_⟩
  refine ⟨(by show 8 ≤ sizeLine; decide), rfl, 8, rfl, by decide, by decide, fun c c0 c1 => ?_⟩
  obtain ⟨n, hn, hn5⟩ : ∃ n : Nat, atI [Dt.int 0, Dt.int 1, Dt.int 2, Dt.int 3, Dt.int 4, Dt.int 2, Dt.int 3, Dt.int 5] c = some (.int (n : Int)) ∧ n ≤ 5 := by
    rcases (by omega : c = 0 ∨ c = 1 ∨ c = 2 ∨ c = 3 ∨ c = 4 ∨ c = 5 ∨ c = 6 ∨ c = 7) with rfl | rfl | rfl | rfl | rfl | rfl | rfl | rfl
    · exact ⟨0, rfl, by decide⟩
    · exact ⟨1, rfl, by decide⟩
    · exact ⟨2, rfl, by decide⟩
    · exact ⟨3, rfl, by decide⟩
    · exact ⟨4, rfl, by decide⟩
    · exact ⟨2, rfl, by decide⟩
    · exact ⟨3, rfl, by decide⟩
    · exact ⟨5, rfl, by decide⟩
  have hb := b62 (i := (n : Int)) (by omega) (by omega)
  refine ⟨_, hn, hb.1, hb.2, ?_⟩
  refine for_inv (fun k δ => ∃ (fs : List (Int × List Int)) (s3 s4 : Sl), δ = [.src, .val (.int (m : Int)), .own a (.l (fs.map fmD)), s3, s4] ∧ fs.length ≤ k ∧ ∀ f, f ∈ fs → okF m f) ⟨[], .any, .any, rfl, Nat.le_refl 0, fun f h => nomatch h⟩ (fun k dd δ N hk hI h1 => ?_) (fun δ hI => ?_)
  · obtain ⟨fs, s3, s4, rfl, hl, hf⟩ := hI
    obtain ⟨hkn, rfl⟩ := rngD_get hk
    refine ⟨rfl, m, rfl, hm, fun f ff => ?_⟩
    have add : ∀ (D : DEnds) f', D.nx = N → okF m f' → dIf (dTst (dOp (dIn true) (dVar 4) (dVarO 2))) (dApp 2 (dVar 4)) (fun D δ => D.nx δ) D [.src, .val (.int (m : Int)), .own a (.l (fs.map fmD)), .val (.int (0 + (k : Int))), .val (fmD f')] := fun D f' hD ff' => by
      refine dIn_map sep_fmD (n := 2) fit_fmD (by decide) ⟨_, rfl, ?_⟩
      by_cases hm' : f' ∈ fs
      · refine ite_f (by simp [hm']) ?_
        show D.nx _
        rw [hD]
        exact h1 _ ⟨fs, .val (.int (0 + (k : Int))), .val (fmD f'), rfl, by omega, hf⟩
      · refine ite_t (by simp [hm']) ⟨by rw [List.length_map]; exact k1000 (by omega), ?_⟩
        rw [hD]
        refine h1 _ ⟨fs ++ [f'], .val (.int (0 + (k : Int))), .val (fmD f'), ?_, by rw [List.length_append]; show fs.length + 1 ≤ k + 1; omega, ?_⟩
        · rw [List.map_append]
          rfl
        · intro g hg
          rcases List.mem_append.mp hg with hg | hg
          · exact hf g hg
          · rw [List.mem_singleton] at hg
            rw [hg]
            exact ff'
    by_cases he : fs = []
    · refine ⟨(by show 0 ≤ sizeLine; decide), dEq_fL (y := []) false (by simp [he]) ⟨_, rfl, ?_⟩⟩
      exact add _ f rfl ff
    · refine ⟨(by show 0 ≤ sizeLine; decide), dEq_fL (y := []) true (by simp [he]) ⟨_, rfl, ?_⟩⟩
      refine ⟨rfl, 2, rfl, by decide, by decide, fun t t0 t1 => ?_⟩
      by_cases ht : t = 0
      · refine dEq_int true (decide_eq_true ht) ⟨_, rfl, ?_⟩
        have hp : 0 < fs.length := List.length_pos_iff.mpr he
        have hg : fs[fs.length - 1]? = some fs[fs.length - 1] := List.getElem?_eq_getElem (by omega)
        have fg := hf _ (List.mem_of_getElem? hg)
        generalize fs[fs.length - 1] = g at hg fg
        refine ⟨_, rfl, rfl, _, fmD g, rfl, ?_, _, rfl, (by show 2 ≤ sizeLine; decide), add _ (f.1, g.2) rfl fg⟩
        rw [List.length_map, show (fs.length : Int) - 1 = ((fs.length - 1 : Nat) : Int) by omega]
        exact atI_map (f := fmD) (atI_nat hg)
      · refine dEq_int false (decide_eq_false ht) ⟨_, rfl, ?_⟩
        exact add _ f rfl ff
  · obtain ⟨fs, s3, s4, rfl, hl, hf⟩ := hI
    refine hq fs ?_ hf
    rw [rngD_len] at hl
    omega
end
end My
set_option maxHeartbeats 4000000
namespace My
open PySem PySem.Spec PyProof.Rows L2 Lcn Sq Dl
open M22
def sp_all_rows : Spc := fun δ Q => ∃ fs : List (Int × List Int), δ = [.val (.lst (fs.map fmD))] ∧ fs.length ≤ 5 ∧ Q (.lst ((due (fs.map (·.2))).map iT))
theorem maxOr_uniq {n : Int} {r : List Int} {m i : Int} (h : m ∈ n :: r) (g : ∀ y, y ∈ n :: r → y ≤ m) : m = maxOr (n :: r) i := by
  have a := (foldl_max_mem r n).2 m h
  have b := g _ (foldl_max_mem r n).1
  have e : maxOr (n :: r) i = r.foldl max n := rfl
  omega
theorem digits_cons {n : Nat} : ∀ (k p : Nat), digits n (k + 1) p = (((p / n ^ k) % n : Nat) : Int) :: digits n k p
  | 0, p => by
    show ([] : List Int) ++ [((p % n : Nat) : Int)] = [(((p / n ^ 0) % n : Nat) : Int)]
    rw [Nat.pow_zero, Nat.div_one]
    rfl
  | k + 1, p => by
    show digits n (k + 1) (p / n) ++ [((p % n : Nat) : Int)] = _
    rw [digits_cons k (p / n), Nat.div_div_eq_div_mul, ← Nat.pow_succ']
    rfl
theorem digits_len {n : Nat} : ∀ (k p : Nat), (digits n k p).length = k
  | 0, p => rfl
  | k + 1, p => by rw [digits_cons, List.length_cons, digits_len k p]
theorem allR_len {n : Nat} {row : List Int} (h : row ∈ allR n) : row.length = n := by
  unfold allR at h
  obtain ⟨p, _, rfl⟩ := List.mem_map.mp (List.mem_filter.mp h).1
  exact digits_len n p
theorem cnt_at {n : Nat} (h : n ≤ 5) : atI [Dt.int 1, Dt.int 1, Dt.int 4, Dt.int 27, Dt.int 256, Dt.int 3125] (n : Int) = some (.int ((n ^ n : Nat) : Int)) ∧ n ^ n ≤ 3125 := by
  rcases (by omega : n = 0 ∨ n = 1 ∨ n = 2 ∨ n = 3 ∨ n = 4 ∨ n = 5) with rfl | rfl | rfl | rfl | rfl | rfl <;> exact ⟨rfl, by decide⟩
theorem dEq_iT {x y : List Int} {neg : Bool} {Q : Dt → Prop} (b : Bool) (hb : (if neg then !decide (x = y) else decide (x = y)) = b) (q : Q (.bl b)) : dEq neg (iT x) (iT y) Q := dEq_sep (f := iT) sep_iT (n := 1) fit_iT (by decide) (by rw [hb]; exact q)
theorem take_one {α : Type} {xs : List α} {i : Nat} {x : α} (h : xs[i]? = some x) : xs.take (i + 1) = xs.take i ++ [x] := by rw [List.take_add_one, h]; rfl
def cntB (row : List Int) (fr : List (List Int)) (k : Nat) : Nat := ((List.range k).filter fun i => decide (row.getD i 0 = row.getD k 0 ∧ fr[i]? = fr[k]?)).length
theorem filt_t {α : Type} {p : α → Bool} {x : α} (h : p x = true) : [x].filter p = [x] := by rw [List.filter_cons_of_pos h]; rfl
theorem filt_f {α : Type} {p : α → Bool} {x : α} (h : p x = false) : [x].filter p = [] := by rw [List.filter_cons_of_neg (by rw [h]; exact Bool.false_ne_true)]; rfl
def iLd (ns : List Int) : List Dt := ns.map Dt.int
theorem ones_nil {α : Type} {xs : List α} : xs.map (fun _ => Dt.int 1) = iLd (xs.map fun _ => (1 : Int)) := by
  unfold iLd
  rw [List.map_map]
  rfl
theorem rgs_iff {row : List Int} : rgs row = ((List.range row.length).filter fun k => decide (row.getD k 0 > maxOr (-1 :: row.take k) (-1) + 1)).isEmpty := by
  unfold rgs
  rw [Bool.eq_iff_iff, List.all_eq_true, List.isEmpty_iff, List.filter_eq_nil_iff]
  refine ⟨fun h x hx z => ?_, fun h x hx => ?_⟩
  · have := h x hx
    rw [z] at this
    cases this
  · have := h x hx
    cases hd : decide (row.getD x 0 > maxOr (-1 :: row.take x) (-1) + 1)
    · rfl
    · exact absurd hd this
theorem sc__law_all_rows : FnScope ["_law_forms_here", "_law_size", "_law_told", "_law_place", "_law_kept", "_law_row", "_law_rest", "_law_k", "_law_bad", "_law_i"] ["_law_forms_here"] (defScope s__law_all_rows) := ⟨rfl, rfl, rfl, by decide +kernel, rfl, by decide +kernel, by decide +kernel⟩
section
variable {P : Program} {w : World} {K : PySem.W.Frag} {mg : Str → Option Value} {base : Heap}
theorem ok__law_all_rows (D__law_all_rows : Dn K mg "_law_all_rows" s__law_all_rows ["_law_forms_here"]) (T : TB mg) : FnOk P w K mg base CX0 1 D__law_all_rows.f D__law_all_rows.fd ["_law_forms_here"] (dsp K 1 sp_all_rows) := by
  refine fn_d (k := 0) (N := ["_law_forms_here", "_law_size", "_law_told", "_law_place", "_law_kept", "_law_row", "_law_rest", "_law_k", "_law_bad", "_law_i"]) D__law_all_rows.F sc__law_all_rows (fun cdv A outer s H E hr => (dss_cons (ds_set (fun _ p => ps_set (i := 1) sc__law_all_rows.nd rfl (by first | exact Or.inl rfl | exact Or.inr rfl) p) (de_callB (fun _ => cr_len rfl) rc_len (fun _ => by rfl) (fun _ => T.len) PySem.boot_len (da_cons (de_var (fun _ => pv 0)) da_nil)))
  (dss_cons (ds_own (fun _ p => ps_set (i := 2) sc__law_all_rows.nd rfl (by first | exact Or.inl rfl | exact Or.inr rfl) p) (dn_lst da_nil))
  (dss_cons (ds_for (fun _ => rfl) (di_range1 (fun _ => by rfl) (fun _ => T.range) (da_cons (de_ixA (de_n (dn_lst (da_cons de_int (da_cons de_int (da_cons de_int (da_cons de_int (da_cons de_int (da_cons de_int da_nil)))))))) (de_var (fun _ => pv 1)) (fun _ _ => rfl)) da_nil)) (dg_name (i := 3) (fun _ => pg_name sc__law_all_rows.nd rfl (by first | exact Or.inl rfl | exact Or.inr rfl))) (dss_cons (ds_set (fun _ p => ps_set (i := 6) sc__law_all_rows.nd rfl (by first | exact Or.inl rfl | exact Or.inr rfl) p) (de_var (fun _ => pv 3)))
  (dss_cons (ds_set (fun _ p => ps_set (i := 5) sc__law_all_rows.nd rfl (by first | exact Or.inl rfl | exact Or.inr rfl) p) (de_n (dn_lst da_nil)))
  (dss_cons (ds_for (fun _ => rfl) (di_range1 (fun _ => by rfl) (fun _ => T.range) (da_cons (de_var (fun _ => pv 1)) da_nil)) (dg_name (i := 7) (fun _ => pg_name sc__law_all_rows.nd rfl (by first | exact Or.inl rfl | exact Or.inr rfl))) (dss_cons (ds_set (fun _ p => ps_set (i := 5) sc__law_all_rows.nd rfl (by first | exact Or.inl rfl | exact Or.inr rfl) p) (de_add (de_n (dn_lst (da_cons (de_mod (de_callTy (fun _ => call_int1) rc_int (fun _ => by rfl) (fun _ => T.int) PyProof.Rows.boot_int (da_cons (de_var (fun _ => pv 6)) da_nil)) (de_var (fun _ => pv 1))) da_nil))) (de_var (fun _ => pv 5))))
  (dss_one (ds_set (fun _ p => ps_set (i := 6) sc__law_all_rows.nd rfl (by first | exact Or.inl rfl | exact Or.inr rfl) p) (de_fdiv (de_var (fun _ => pv 6)) (de_var (fun _ => pv 1)))))) (fun _ => PassesOwn.never))
  (dss_one (ds_if (dt_cmpC (cd_eq (fun _ => ru64 hr)) (de_n (dn_lc (o := true) (own := [(("_law_k" : Str), 7)]) (fun _ => rfl) (fun _ => sc__law_all_rows.nd) (di_range1 (fun _ => by rfl) (fun _ => T.range) (da_cons (de_var (fun _ => pv 1)) da_nil)) (fun _ => (blkOk_by (own := [(("_law_k" : Str), 7)]) (N := ["_law_forms_here", "_law_size", "_law_told", "_law_place", "_law_kept", "_law_row", "_law_rest", "_law_k", "_law_bad", "_law_i"]) (sc := defScope s__law_all_rows) (by decide +kernel))) (dg_name (i := 7) (fun _ => pg_name sc__law_all_rows.nd rfl (Or.inl rfl))) (dts_one (dt_cmpC cd_gt (de_ixA (de_var (fun _ => pv 5)) (de_var (fun _ => pv 7)) (fun _ _ => rfl)) (de_add (de_callB (fun _ => cr_maxK rfl rfl) rc_max (fun _ => by rfl) (fun _ => T.max_) (by decide +kernel) (da_cons (de_add (de_n (dn_lst (da_cons (de_neg de_int) da_nil))) (de_slice (de_var (fun _ => pv 5)) do_none (do_some (de_var (fun _ => pv 7))))) da_nil)) de_int) (nomark _))) de_int (by decide))) (de_n (dn_lst da_nil)) (nomark _)) (dss_one (ds_app (fun _ p => ps_expr (pe_bm PySem.F.plainAttrs_list PySem.F.slot_list_append PySem.F.type_list_append mt_append (pv 2) (pa_cons p pa_nil))) (de_callTy (fun _ => cr_tuple rfl) rc_tuple (fun _ => by rfl) (fun _ => T.tuple_) (by decide +kernel) (da_cons (de_var (fun _ => pv 5)) da_nil)))) dss_nil))))) (fun _ => PassesOwn.never))
  (dss_cons (ds_own (fun _ p => ps_set (i := 4) sc__law_all_rows.nd rfl (by first | exact Or.inl rfl | exact Or.inr rfl) p) (dn_lst da_nil))
  (dss_frz 2 (dss_cons (ds_for (fun _ => rfl) (di_seq (de_var (fun _ => pv 2))) (dg_name (i := 5) (fun _ => pg_name sc__law_all_rows.nd rfl (by first | exact Or.inl rfl | exact Or.inr rfl))) (dss_cons (ds_set (fun _ p => ps_set (i := 8) sc__law_all_rows.nd rfl (by first | exact Or.inl rfl | exact Or.inr rfl) p) de_int)
  (dss_cons (ds_for (fun _ => rfl) (di_range1 (fun _ => by rfl) (fun _ => T.range) (da_cons (de_var (fun _ => pv 1)) da_nil)) (dg_name (i := 7) (fun _ => pg_name sc__law_all_rows.nd rfl (by first | exact Or.inl rfl | exact Or.inr rfl))) (dss_one (ds_set (fun _ p => ps_set (i := 8) sc__law_all_rows.nd rfl (by first | exact Or.inl rfl | exact Or.inr rfl) p) (de_add (de_var (fun _ => pv 8)) (de_callB (fun _ => cr_len rfl) rc_len (fun _ => by rfl) (fun _ => T.len) PySem.boot_len (da_cons (de_n (dn_lc (o := true) (own := [(("_law_i" : Str), 9)]) (fun _ => rfl) (fun _ => sc__law_all_rows.nd) (di_range1 (fun _ => by rfl) (fun _ => T.range) (da_cons (de_var (fun _ => pv 7)) da_nil)) (fun _ => (blkOk_by (own := [(("_law_i" : Str), 9)]) (N := ["_law_forms_here", "_law_size", "_law_told", "_law_place", "_law_kept", "_law_row", "_law_rest", "_law_k", "_law_bad", "_law_i"]) (sc := defScope s__law_all_rows) (by decide +kernel))) (dg_name (i := 9) (fun _ => pg_name sc__law_all_rows.nd rfl (Or.inl rfl))) (dts_one (dt_w (dw_and (dt_cmpC (cd_eq (fun _ => ru64 hr)) (de_ixA (de_var (fun _ => pv 5)) (de_var (fun _ => pv 9)) (fun _ _ => rfl)) (de_ixA (de_var (fun _ => pv 5)) (de_var (fun _ => pv 7)) (fun _ _ => rfl)) (nomark _)) (dw_and1 (dt_cmpC (cd_eq (fun _ => ru64 hr)) (de_ixA (de_ixA (de_var (fun _ => pv 0)) (de_var (fun _ => pv 9)) (fun _ _ => rfl)) de_int (fun _ _ => rfl)) (de_ixA (de_ixA (de_var (fun _ => pv 0)) (de_var (fun _ => pv 7)) (fun _ _ => rfl)) de_int (fun _ _ => rfl)) (nomark _)))))) de_int (by decide))) da_nil))))) (fun _ => PassesOwn.never))
  (dss_one (ds_if (dt_cmpC (cd_eq (fun _ => ru64 hr)) (de_var (fun _ => pv 8)) de_int (nomark _)) (dss_one (ds_app (fun _ p => ps_expr (pe_bm PySem.F.plainAttrs_list PySem.F.slot_list_append PySem.F.type_list_append mt_append (pv 4) (pa_cons p pa_nil))) (de_var (fun _ => pv 5)))) dss_nil)))) (fun _ => PassesOwn.never))
  (dss_one (ds_ret (de_varO (fun _ => pv 4))))))))))) (fun δ Qd l h => ?_)
  obtain ⟨fs, rfl, hl, hq⟩ := h
  have hcnt := cnt_at hl
  have hk := hl
  have hb := b62 (i := ((fs.length ^ fs.length : Nat) : Int)) (by omega) (by omega)
  have hbn := b62 (i := (fs.length : Int)) (by omega) (by omega)
  have el : (fs.map fmD).length = fs.length := List.length_map ..
  refine ⟨(by show 0 ≤ sizeLine; decide), fun a => ?_⟩
  refine ⟨(by show 6 ≤ sizeLine; decide), .int ((fs.length ^ fs.length : Nat) : Int), by rw [el]; exact hcnt.1, hb.1, hb.2, ?_⟩
  rw [el]
  refine for_inv (fun p δ => ∃ s3 s5 s6 o7, δ = [.val (.lst (fs.map fmD)), .val (.int (fs.length : Int)), .own a (.l ((((List.range p).map (digits fs.length fs.length)).filter rgs).map iT)), s3, .any, s5, s6, vl o7, .any, .any]) ⟨.any, .any, .any, none, rfl⟩ (fun p dd δ N hp hI h1 => ?_) (fun δ hI => ?_)
  · obtain ⟨s3, s5, s6, o7, rfl⟩ := hI
    obtain ⟨hpn, rfl⟩ := rngD_get hp
    refine ⟨(by show 0 ≤ sizeLine; decide), hbn.1, hbn.2, ?_⟩
    refine for_inv (fun k δ => ∃ o7, δ = [.val (.lst (fs.map fmD)), .val (.int (fs.length : Int)), .own a (.l ((((List.range p).map (digits fs.length fs.length)).filter rgs).map iT)), .val (.int (0 + (p : Int))), .any, .val (iL (digits fs.length k p)), .val (.int ((p / fs.length ^ k : Nat) : Int)), vl o7, .any, .any]) ⟨o7, ?_⟩ (fun k dd δ M hk hI h2 => ?_) (fun δ hI => ?_)
    · rw [Nat.pow_zero, Nat.div_one, Int.zero_add]
      rfl
    · obtain ⟨o7, rfl⟩ := hI
      obtain ⟨hkn, rfl⟩ := rngD_get hk
      have hn0 : (0 : Int) < (fs.length : Int) := by omega
      have e1 : (((p / fs.length ^ k) % fs.length : Nat) : Int) = ((p / fs.length ^ k : Nat) : Int) % (fs.length : Int) := Int.natCast_emod _ _
      have e2 : ((p / fs.length ^ (k + 1) : Nat) : Int) = ((p / fs.length ^ k : Nat) : Int) / (fs.length : Int) := by
        rw [Nat.pow_succ, ← Nat.div_div_eq_div_mul]
        exact Int.natCast_ediv _ _
      have p200 : (6 : Int) < 2 ^ 200 := by decide
      refine ⟨hn0, (by show 1 ≤ sizeLine; decide), ?_, pow200 hn0 (by omega), h2 _ ⟨some (.int (0 + (k : Int))), ?_⟩⟩
      · rw [List.length_map, digits_len]
        exact le1000 (by show 1 + k ≤ 1000; omega)
      · rw [digits_cons, e1, e2]
        rfl
    · obtain ⟨o7, rfl⟩ := hI
      rw [rngD_len, show ((fs.length : Nat) : Int).toNat = fs.length from rfl]
      have hrl : (digits fs.length fs.length p).length = fs.length := digits_len _ _
      have hap : ((List.range (p + 1)).map (digits fs.length fs.length)).filter rgs = ((List.range p).map (digits fs.length fs.length)).filter rgs ++ [digits fs.length fs.length p].filter rgs := by
        rw [List.range_succ, List.map_append, List.filter_append]
        rfl
      rw [hap] at h1
      generalize hrow : digits fs.length fs.length p = row at hrl h1
      have hlt : (((List.range p).map (digits fs.length fs.length)).filter rgs).length < sizeLine := Nat.lt_of_le_of_lt (List.length_filter_le _ _) (by
        rw [List.length_map, List.length_range]
        have : (3126 : Nat) < sizeLine := by decide
        omega)
      generalize ((List.range p).map (digits fs.length fs.length)).filter rgs = told at h1 hlt
      refine ⟨hbn.1, hbn.2, by cases o7 <;> rfl, by rw [rngD_len]; exact k1000 (by omega), ?_⟩
      refine lc_fm (fun k => decide (row.getD k 0 > maxOr (-1 :: row.take k) (-1) + 1)) (fun _ => Dt.int 1) (List.range fs.length) [] (fun k m Q R g1 g2 => ?_) ?_
      · have hk := List.mem_range.mp m
        have hg : atI row (0 + (k : Int)) = some (row.getD k 0) := by
          rw [Int.zero_add]
          refine atI_nat ?_
          rw [List.getD_eq_getElem?_getD, List.getElem?_eq_getElem (by omega)]
          rfl
        refine ⟨_, atI_map (f := Dt.int) hg, _, rfl, (by show 1 ≤ sizeLine; decide), _, rfl, ?_, -1 :: row.take k, ?_, by simp, fun mx hm hg => ?_⟩
        · rw [Int.zero_add, cutD_pre, List.length_map, List.length_take]
          exact le1000 (by show 1 + _ ≤ 1000; omega)
        · rw [Int.zero_add, cutD_pre]
          rfl
        · rw [maxOr_uniq (i := -1) hm hg]
          refine ⟨_, rfl, ?_⟩
          by_cases hd : row.getD k 0 > maxOr (-1 :: row.take k) (-1) + 1
          · exact ite_t (decide_eq_true hd) (g1 (decide_eq_true hd))
          · exact ite_f (decide_eq_false hd) (g2 (decide_eq_false hd))
      · rw [List.nil_append, ones_nil]
        refine ⟨(by show 0 ≤ sizeLine; decide), dEq_iL (y := []) (rgs row) ?_ ⟨_, rfl, ?_⟩⟩
        · rw [rgs_iff, hrl]
          generalize (List.range fs.length).filter (fun k => decide (row.getD k 0 > maxOr (-1 :: row.take k) (-1) + 1)) = xs
          cases xs <;> rfl
        · cases hr : rgs row with
          | true =>
            refine ite_t rfl ⟨by rw [List.length_map]; exact hlt, h1 _ ⟨.val (.int (0 + (p : Int))), .val (iL row), .val (.int ((p / fs.length ^ fs.length : Nat) : Int)), o7, ?_⟩⟩
            rw [filt_t hr, List.map_append]
            rfl
          | false =>
            refine ite_f rfl (h1 _ ⟨.val (.int (0 + (p : Int))), .val (iL row), .val (.int ((p / fs.length ^ fs.length : Nat) : Int)), o7, ?_⟩)
            rw [filt_f hr, List.append_nil]
  · obtain ⟨s3, s5, s6, o7, rfl⟩ := hI
    rw [rngD_len, show ((fs.length ^ fs.length : Nat) : Int).toNat = fs.length ^ fs.length from rfl]
    rw [show ((List.range (fs.length ^ fs.length)).map (digits fs.length fs.length)).filter rgs = allR fs.length from rfl]
    have har : (allR fs.length).length < sizeLine := Nat.lt_of_le_of_lt (List.length_filter_le _ _) (by
      rw [List.length_map, List.length_range]
      have : (3126 : Nat) < sizeLine := by decide
      omega)
    refine ⟨(by show 0 ≤ sizeLine; decide), fun b => ?_⟩
    have hfr : (fs.map (·.2)).length = fs.length := List.length_map ..
    have hdue : due (fs.map (·.2)) = (allR fs.length).filter fun row => bad row (fs.map (·.2)) == 0 := by
      unfold due
      rw [hfr]
    rw [hdue] at hq
    refine for_inv (fun i δ => ∃ s5 s7 s8, δ = [.val (.lst (fs.map fmD)), .val (.int (fs.length : Int)), .val (.lst ((allR fs.length).map iT)), s3, .own b (.l ((((allR fs.length).take i).filter fun row => bad row (fs.map (·.2)) == 0).map iT)), s5, s6, s7, s8, .any]) ⟨s5, vl o7, .any, rfl⟩ (fun i dd δ N hi hI h1 => ?_) (fun δ hI => ?_)
    · obtain ⟨s5, s7, s8, rfl⟩ := hI
      rw [List.getElem?_map] at hi
      obtain ⟨row, hrow, rfl⟩ := Option.map_eq_some_iff.mp hi
      have hrl := allR_len (List.mem_of_getElem? hrow)
      refine ⟨hbn.1, hbn.2, ?_⟩
      refine for_inv (fun k δ => ∃ s7, δ = [.val (.lst (fs.map fmD)), .val (.int (fs.length : Int)), .val (.lst ((allR fs.length).map iT)), s3, .own b (.l ((((allR fs.length).take i).filter fun row => bad row (fs.map (·.2)) == 0).map iT)), .val (iT row), s6, s7, .val (.int ((((List.range k).map (cntB row (fs.map (·.2)))).sum : Nat) : Int)), .any]) ⟨s7, rfl⟩ (fun k dd δ M hk hI h2 => ?_) (fun δ hI => ?_)
      · obtain ⟨s7, rfl⟩ := hI
        obtain ⟨hkn, rfl⟩ := rngD_get hk
        have hkn : k < fs.length := hkn
        rw [Int.zero_add]
        have hbk := b62 (i := (k : Int)) (by omega) (by omega)
        refine ⟨hbk.1, hbk.2, rfl, by rw [rngD_len]; exact k1000 (by omega), ?_⟩
        have hrk : atI row (k : Int) = some (row.getD k 0) := atI_nat (by
          rw [List.getD_eq_getElem?_getD, List.getElem?_eq_getElem (by omega)]
          rfl)
        have hfk : atI fs (k : Int) = some fs[k] := atI_nat (List.getElem?_eq_getElem hkn)
        refine lc_fm (fun i => decide (row.getD i 0 = row.getD k 0 ∧ (fs.map (·.2))[i]? = (fs.map (·.2))[k]?)) (fun _ => Dt.int 1) (List.range k) [] (fun q m Q R g1 g2 => ?_) ?_
        · have hq := List.mem_range.mp m
          have hrq : atI row (0 + (q : Int)) = some (row.getD q 0) := by
            rw [Int.zero_add]
            exact atI_nat (by
              rw [List.getD_eq_getElem?_getD, List.getElem?_eq_getElem (by omega)]
              rfl)
          have hql : q < fs.length := by omega
          have hfq : atI fs (0 + (q : Int)) = some fs[q] := by
            rw [Int.zero_add]
            exact atI_nat (List.getElem?_eq_getElem hql)
          have efr : (fs.map (·.2))[q]? = (fs.map (·.2))[k]? ↔ fs[q].2 = fs[k].2 := by
            rw [List.getElem?_map, List.getElem?_map, List.getElem?_eq_getElem hql, List.getElem?_eq_getElem hkn]
            simp
          refine ⟨_, atI_map (f := Dt.int) hrq, _, atI_map (f := Dt.int) hrk, dEq_int (decide (row.getD q 0 = row.getD k 0)) rfl ⟨_, rfl, ?_⟩⟩
          by_cases h3 : row.getD q 0 = row.getD k 0
          · refine ite_t (decide_eq_true h3) ⟨_, atI_map (f := fmD) hfq, _, rfl, _, atI_map (f := fmD) hfk, _, rfl, dEq_iT (decide (fs[q].2 = fs[k].2)) rfl ⟨_, rfl, ?_⟩⟩
            by_cases h4 : fs[q].2 = fs[k].2
            · exact ite_t (decide_eq_true h4) (g1 (decide_eq_true ⟨h3, efr.mpr h4⟩))
            · exact ite_f (decide_eq_false h4) (g2 (decide_eq_false fun z => h4 (efr.mp z.2)))
          · exact ite_f (decide_eq_false h3) (g2 (decide_eq_false fun z => h3 z.1))
        · refine h2 _ ⟨.val (.int (k : Int)), ?_⟩
          have es : (((List.range (k + 1)).map (cntB row (fs.map (·.2)))).sum : Nat) = ((List.range k).map (cntB row (fs.map (·.2)))).sum + cntB row (fs.map (·.2)) k := by
            rw [List.range_succ, List.map_append, List.sum_append]
            simp
          rw [es, List.nil_append, List.length_map]
          rfl
      · obtain ⟨s7, rfl⟩ := hI
        rw [rngD_len, show ((fs.length : Nat) : Int).toNat = fs.length from rfl]
        have eb : ((List.range fs.length).map (cntB row (fs.map (·.2)))).sum = bad row (fs.map (·.2)) := by
          unfold bad
          rw [hfr]
          rfl
        rw [eb]
        have ht := take_one hrow
        rw [ht, List.filter_append] at h1
        have hlt : (((allR fs.length).take i).filter fun row => bad row (fs.map (·.2)) == 0).length < sizeLine := Nat.lt_of_le_of_lt (List.length_filter_le _ _) (Nat.lt_of_le_of_lt (by rw [List.length_take]; exact Nat.min_le_right _ _) har)
        refine dEq_int (bad row (fs.map (·.2)) == 0) ?_ ⟨_, rfl, ?_⟩
        · show decide ((bad row (fs.map (·.2)) : Int) = 0) = _
          rw [Bool.eq_iff_iff]
          simp
        · cases hz : bad row (fs.map (·.2)) == 0 with
          | true =>
            refine ite_t rfl ⟨by rw [List.length_map]; exact hlt, h1 _ ⟨.val (iT row), s7, .val (.int (bad row (fs.map (·.2)) : Nat)), ?_⟩⟩
            rw [filt_t (p := fun row => bad row (fs.map (·.2)) == 0) hz, List.map_append]
            rfl
          | false =>
            refine ite_f rfl (h1 _ ⟨.val (iT row), s7, .val (.int (bad row (fs.map (·.2)) : Nat)), ?_⟩)
            rw [filt_f (p := fun row => bad row (fs.map (·.2)) == 0) hz, List.append_nil]
    · obtain ⟨s5, s7, s8, rfl⟩ := hI
      rw [List.length_map, List.take_length]
      exact hq
end
end My
set_option maxHeartbeats 4000000
namespace My
open PySem PySem.Spec PyProof.Rows L2 Lcn Sq Dl
open M22
def sp_sums_right : Spc := fun δ Q => ∃ (fs : List (Int × List Int)) (m : Nat), δ = [.src, .val (.lst (fs.map fmD)), .val (.int (m : Int))] ∧ m < 10 ∧ fs.length ≤ 5 ∧ (∀ f, f ∈ fs → okF m f) ∧ Q (.bl true)
theorem dEq_fm {x y : Int × List Int} {neg : Bool} {Q : Dt → Prop} (b : Bool) (hb : (if neg then !decide (x = y) else decide (x = y)) = b) (q : Q (.bl b)) : dEq neg (fmD x) (fmD y) Q := dEq_sep (f := fmD) sep_fmD (n := 2) fit_fmD (by decide) (by rw [hb]; exact q)
theorem cut1 {ns : List Int} : Dl.cutD (ns.map Dt.int) none (some 1) = (ns.take 1).map Dt.int := cutD_pre ns 1
theorem fval_nil {f : Int × List Int} : fval f [] = f.1 := by
  unfold fval
  rw [List.zip_nil_right]
  simp
def dueL (fs : List (Int × List Int)) (m : Nat) : List Int := (List.range m).map fun i => (fs.map fun f => f.2.getD i 0).sum
theorem foldl_addR {m : Nat} : ∀ (fs : List (Int × List Int)) (a : List Int), a.length = m → (∀ f, f ∈ fs → f.2.length = m) → ∀ i, i < m → (fs.foldl addR a)[i]? = some (a.getD i 0 + (fs.map fun f => f.2.getD i 0).sum)
  | [], a, ha, _, i, hi => by
    rw [List.foldl_nil, List.map_nil, List.sum_nil, Int.add_zero, List.getD_eq_getElem?_getD, List.getElem?_eq_getElem (by omega)]
    rfl
  | f :: fs, a, ha, hf, i, hi => by
    have hfl := hf f (by simp)
    have hal : (addR a f).length = m := by unfold addR; rw [List.length_map, List.length_zip, ha, hfl, Nat.min_self]
    rw [List.foldl_cons, foldl_addR fs (addR a f) hal (fun g hg => hf g (by simp [hg])) i hi, List.map_cons, List.sum_cons]
    have : (addR a f).getD i 0 = a.getD i 0 + f.2.getD i 0 := by
      unfold addR
      rw [List.getD_eq_getElem?_getD, List.getD_eq_getElem?_getD, List.getD_eq_getElem?_getD, List.getElem?_map, List.getElem?_eq_getElem (by rw [List.length_zip]; omega), List.getElem_zip, List.getElem?_eq_getElem (by omega), List.getElem?_eq_getElem (by omega)]
      rfl
    rw [this, Int.add_assoc]
theorem facs_eq {fs : List (Int × List Int)} {m : Nat} (hf : ∀ f, f ∈ fs → f.2.length = m) : facs fs m = dueL fs m := by
  have hl : (facs fs m).length = m := facs_len _ _ (List.length_replicate ..) hf
  refine List.ext_getElem? fun i => ?_
  by_cases hi : i < m
  · unfold facs dueL
    rw [foldl_addR fs _ (List.length_replicate ..) hf i hi, List.getElem?_map, List.getElem?_range hi]
    simp [List.getD_eq_getElem?_getD, hi]
  · rw [List.getElem?_eq_none (by omega), List.getElem?_eq_none (by unfold dueL; rw [List.length_map, List.length_range]; omega)]
theorem rep_flat {m : Nat} : (List.replicate m [Dt.int 0]).flatten = (List.replicate m (0 : Int)).map Dt.int := by
  induction m with
  | zero => rfl
  | succ m ih =>
    rw [List.replicate_succ, List.flatten_cons, ih, List.replicate_succ, List.map_cons]
    rfl
theorem dTuple_eq {ds : List Dt} {d : Dt} {Q : Dt → Prop} (h : Dt.tup ds = d) (q : Q d) : Q (.tup ds) := by
  subst h
  exact q
theorem sc__law_sums_right : FnScope ["_law_source_here", "_law_forms_here", "_law_many", "_law_numbers", "_law_form_here", "_law_told", "_law_due", "_law_one", "_law_other", "_law_i", "_law_gap", "_law_x", "_law_y"] ["_law_source_here", "_law_forms_here", "_law_many"] (defScope s__law_sums_right) := ⟨rfl, rfl, rfl, by decide +kernel, rfl, by decide +kernel, by decide +kernel⟩
section
variable {P : Program} {w : World} {K : PySem.W.Frag} {mg : Str → Option Value} {base : Heap}
theorem ok__law_sums_right (D__law_sums_right : Dn K mg "_law_sums_right" s__law_sums_right ["_law_source_here", "_law_forms_here", "_law_many"]) (D__law_take : Dn K mg "_law_take" s__law_take ["_law_source_here", "_law_many"]) (G__law_take : FnOk P w K mg base CX0 1 D__law_take.f D__law_take.fd ["_law_source_here", "_law_many"] (dsp K 2 sp_take)) (D_form_value : Dn K mg "form_value" s_form_value ["form", "numbers"]) (G_form_value : FnOk P w K mg base CX0 1 D_form_value.f D_form_value.fd ["form", "numbers"] (dsp K 2 sp_form_value)) (D__law_value : Dn K mg "_law_value" s__law_value ["_law_form_here", "_law_numbers"]) (G__law_value : FnOk P w K mg base CX0 1 D__law_value.f D__law_value.fd ["_law_form_here", "_law_numbers"] (dsp K 2 sp_value)) (D_form_sum : Dn K mg "form_sum" s_form_sum ["forms", "many"]) (G_form_sum : FnOk P w K mg base CX0 1 D_form_sum.f D_form_sum.fd ["forms", "many"] (dsp K 2 sp_form_sum)) (D_form_gap : Dn K mg "form_gap" s_form_gap ["one", "other"]) (G_form_gap : FnOk P w K mg base CX0 1 D_form_gap.f D_form_gap.fd ["one", "other"] (dsp K 2 sp_form_gap)) (T : TB mg) : FnOk P w K mg base CX0 2 D__law_sums_right.f D__law_sums_right.fd ["_law_source_here", "_law_forms_here", "_law_many"] (dsp K 3 sp_sums_right) := by
  refine fn_d (k := 1) (N := ["_law_source_here", "_law_forms_here", "_law_many", "_law_numbers", "_law_form_here", "_law_told", "_law_due", "_law_one", "_law_other", "_law_i", "_law_gap", "_law_x", "_law_y"]) D__law_sums_right.F sc__law_sums_right (fun cdv A outer s H E hr => (dss_cons (ds_ofV (ds_lcN (o := true) (i := 3) (own := [(("_law_i" : Str), 9)]) (fun _ => rfl) (fun _ => sc__law_sums_right.nd) (fun _ => rfl) (fun _ => rfl) (fun _ => sw_true rfl rfl rfl (by decide +kernel)) (di_range1 (fun _ => by rfl) (fun _ => T.range) (da_cons (de_var (fun _ => pv 2)) da_nil)) (fun _ => (blkOk_by (own := [(("_law_i" : Str), 9)]) (N := ["_law_source_here", "_law_forms_here", "_law_many", "_law_numbers", "_law_form_here", "_law_told", "_law_due", "_law_one", "_law_other", "_law_i", "_law_gap", "_law_x", "_law_y"]) (sc := defScope s__law_sums_right) (by decide +kernel))) (dg_name (i := 9) (fun _ => pg_name sc__law_sums_right.nd rfl (by first | exact Or.inl rfl | exact Or.inr rfl))) dts_nil (de_call (fun _ pa => pe_call G__law_take (hr.mono (by decide)) (by rfl) D__law_take.m D__law_take.F.kp D__law_take.b .nil pass0 pa) (dl_src (fun _ => pv 0) (dl_val (de_pow de_int de_int) dl_nil))) (by decide) rfl))
  (dss_cons (ds_for (fun _ => rfl) (di_seq (de_var (fun _ => pv 1))) (dg_name (i := 4) (fun _ => pg_name sc__law_sums_right.nd rfl (by first | exact Or.inl rfl | exact Or.inr rfl))) (dss_cons (ds_if (dt_cmpC (cd_ne (fun _ => ru64 hr)) (de_call (fun _ pa => pe_call G_form_value (hr.mono (by decide)) (by rfl) D_form_value.m D_form_value.F.kp D_form_value.b .nil pass0 pa) (dl_val (de_var (fun _ => pv 4)) (dl_val (de_var (fun _ => pv 3)) dl_nil))) (de_call (fun _ pa => pe_call G__law_value (hr.mono (by decide)) (by rfl) D__law_value.m D__law_value.F.kp D__law_value.b .nil pass0 pa) (dl_val (de_var (fun _ => pv 4)) (dl_val (de_var (fun _ => pv 3)) dl_nil))) (nomark _)) (dss_one (ds_ret de_bl)) dss_nil)
  (dss_one (ds_if (dt_w (dw_or (dt_cmpC (cd_ne (fun _ => ru64 hr)) (de_call (fun _ pa => pe_call G_form_value (hr.mono (by decide)) (by rfl) D_form_value.m D_form_value.F.kp D_form_value.b .nil pass0 pa) (dl_val (de_var (fun _ => pv 4)) (dl_val (de_callTy (fun _ => cr_tuple rfl) rc_tuple (fun _ => by rfl) (fun _ => T.tuple_) (by decide +kernel) (da_cons (de_slice (de_var (fun _ => pv 3)) do_none (do_some de_int)) da_nil)) dl_nil))) (de_call (fun _ pa => pe_call G__law_value (hr.mono (by decide)) (by rfl) D__law_value.m D__law_value.F.kp D__law_value.b .nil pass0 pa) (dl_val (de_var (fun _ => pv 4)) (dl_val (de_slice (de_var (fun _ => pv 3)) do_none (do_some de_int)) dl_nil))) (nomark _)) (dw_or1 (dt_cmpC (cd_ne (fun _ => ru64 hr)) (de_call (fun _ pa => pe_call G_form_value (hr.mono (by decide)) (by rfl) D_form_value.m D_form_value.F.kp D_form_value.b .nil pass0 pa) (dl_val (de_var (fun _ => pv 4)) (dl_val (de_tup da_nil) dl_nil))) (de_ixA (de_var (fun _ => pv 4)) de_int (fun _ _ => rfl)) (nomark _))))) (dss_one (ds_ret de_bl)) dss_nil))) (fun _ => PassesOwn.never))
  (dss_cons (ds_set (fun _ p => ps_set (i := 5) sc__law_sums_right.nd rfl (by first | exact Or.inl rfl | exact Or.inr rfl) p) (de_call (fun _ pa => pe_call G_form_sum (hr.mono (by decide)) (by rfl) D_form_sum.m D_form_sum.F.kp D_form_sum.b .nil pass0 pa) (dl_val (de_var (fun _ => pv 1)) (dl_val (de_var (fun _ => pv 2)) dl_nil))))
  (dss_cons (ds_ofV (ds_lcN (o := true) (i := 6) (own := [(("_law_i" : Str), 9)]) (fun _ => rfl) (fun _ => sc__law_sums_right.nd) (fun _ => rfl) (fun _ => rfl) (fun _ => sw_true rfl rfl rfl (by decide +kernel)) (di_range1 (fun _ => by rfl) (fun _ => T.range) (da_cons (de_var (fun _ => pv 2)) da_nil)) (fun _ => (blkOk_by (own := [(("_law_i" : Str), 9)]) (N := ["_law_source_here", "_law_forms_here", "_law_many", "_law_numbers", "_law_form_here", "_law_told", "_law_due", "_law_one", "_law_other", "_law_i", "_law_gap", "_law_x", "_law_y"]) (sc := defScope s__law_sums_right) (by decide +kernel))) (dg_name (i := 9) (fun _ => pg_name sc__law_sums_right.nd rfl (by first | exact Or.inl rfl | exact Or.inr rfl))) dts_nil (de_callB (fun _ => cr_sumK rfl rfl) rc_sum (fun _ => by rfl) (fun _ => T.sum_) (by decide +kernel) (da_cons (de_n (dn_lc (o := true) (own := [(("_law_form_here" : Str), 4)]) (fun _ => rfl) (fun _ => sc__law_sums_right.nd) (di_seq (de_var (fun _ => pv 1))) (fun _ => (blkOk_by (own := [(("_law_form_here" : Str), 4)]) (by kernel_rfl))) (dg_name (i := 4) (fun _ => pg_name sc__law_sums_right.nd rfl (by first | exact Or.inl rfl | exact Or.inr rfl))) dts_nil (de_ixA (de_ixA (de_var (fun _ => pv 4)) de_int (fun _ _ => rfl)) (de_var (fun _ => pv 9)) (fun _ _ => rfl)) (by decide))) da_nil)) (by decide) rfl))
  (dss_cons (ds_if (dt_w (dw_or (dt_cmpC (cd_ne (fun _ => ru64 hr)) (de_var (fun _ => pv 5)) (de_tup (da_cons (de_callB (fun _ => cr_sumK rfl rfl) rc_sum (fun _ => by rfl) (fun _ => T.sum_) (by decide +kernel) (da_cons (de_n (dn_lc (o := true) (own := [(("_law_form_here" : Str), 4)]) (fun _ => rfl) (fun _ => sc__law_sums_right.nd) (di_seq (de_var (fun _ => pv 1))) (fun _ => (blkOk_by (own := [(("_law_form_here" : Str), 4)]) (N := ["_law_source_here", "_law_forms_here", "_law_many", "_law_numbers", "_law_form_here", "_law_told", "_law_due", "_law_one", "_law_other", "_law_i", "_law_gap", "_law_x", "_law_y"]) (sc := defScope s__law_sums_right) (by decide +kernel))) (dg_name (i := 4) (fun _ => pg_name sc__law_sums_right.nd rfl (by first | exact Or.inl rfl | exact Or.inr rfl))) dts_nil (de_ixA (de_var (fun _ => pv 4)) de_int (fun _ _ => rfl)) (by decide))) da_nil)) (da_cons (de_callTy (fun _ => cr_tuple rfl) rc_tuple (fun _ => by rfl) (fun _ => T.tuple_) (by decide +kernel) (da_cons (de_var (fun _ => pv 6)) da_nil)) da_nil))) (nomark _)) (dw_or1 (dt_cmpC (cd_ne (fun _ => ru64 hr)) (de_call (fun _ pa => pe_call G_form_sum (hr.mono (by decide)) (by rfl) D_form_sum.m D_form_sum.F.kp D_form_sum.b .nil pass0 pa) (dl_val (de_n (dn_lst da_nil)) (dl_val (de_var (fun _ => pv 2)) dl_nil))) (de_tup (da_cons de_int (da_cons (de_mulA (de_tup (da_cons de_int da_nil)) (de_var (fun _ => pv 2))) da_nil))) (nomark _))))) (dss_one (ds_ret de_bl)) dss_nil)
  (dss_cons (ds_for (fun _ => rfl) (di_seq (de_var (fun _ => pv 1))) (dg_name (i := 7) (fun _ => pg_name sc__law_sums_right.nd rfl (by first | exact Or.inl rfl | exact Or.inr rfl))) (dss_one (ds_for (fun _ => rfl) (di_seq (de_var (fun _ => pv 1))) (dg_name (i := 8) (fun _ => pg_name sc__law_sums_right.nd rfl (by first | exact Or.inl rfl | exact Or.inr rfl))) (dss_cons (ds_set (fun _ p => ps_set (i := 10) sc__law_sums_right.nd rfl (by first | exact Or.inl rfl | exact Or.inr rfl) p) (de_call (fun _ pa => pe_call G_form_gap (hr.mono (by decide)) (by rfl) D_form_gap.m D_form_gap.F.kp D_form_gap.b .nil pass0 pa) (dl_val (de_var (fun _ => pv 7)) (dl_val (de_var (fun _ => pv 8)) dl_nil))))
  (dss_one (ds_if (dt_cmpC (cd_ne (fun _ => ru64 hr)) (de_var (fun _ => pv 10)) (de_tup (da_cons (de_sub (de_ixA (de_var (fun _ => pv 7)) de_int (fun _ _ => rfl)) (de_ixA (de_var (fun _ => pv 8)) de_int (fun _ _ => rfl))) (da_cons (de_callTy (fun _ => cr_tuple rfl) rc_tuple (fun _ => by rfl) (fun _ => T.tuple_) (by decide +kernel) (da_cons (de_n (dn_lc (o := true) (own := [(("_law_x" : Str), 11), (("_law_y" : Str), 12)]) (fun _ => rfl) (fun _ => sc__law_sums_right.nd) (di_zip (fun _ => by rfl) (fun _ => T.zip) (da_cons (de_ixA (de_var (fun _ => pv 7)) de_int (fun _ _ => rfl)) (da_cons (de_ixA (de_var (fun _ => pv 8)) de_int (fun _ _ => rfl)) da_nil))) (fun _ => (blkOk_by (own := [(("_law_x" : Str), 11), (("_law_y" : Str), 12)]) (N := ["_law_source_here", "_law_forms_here", "_law_many", "_law_numbers", "_law_form_here", "_law_told", "_law_due", "_law_one", "_law_other", "_law_i", "_law_gap", "_law_x", "_law_y"]) (sc := defScope s__law_sums_right) (by decide +kernel))) (dg_tup (n := 2) (dgs_cons (dg_name (i := 11) (fun _ => pg_name sc__law_sums_right.nd rfl (by first | exact Or.inl rfl | exact Or.inr rfl))) (dgs_cons (dg_name (i := 12) (fun _ => pg_name sc__law_sums_right.nd rfl (by first | exact Or.inl rfl | exact Or.inr rfl))) dgs_nil))) dts_nil (de_sub (de_var (fun _ => pv 11)) (de_var (fun _ => pv 12))) (by decide))) da_nil)) da_nil))) (nomark _)) (dss_one (ds_ret de_bl)) dss_nil))) (fun _ => PassesOwn.never))) (fun _ => PassesOwn.never))
  (dss_one (ds_ret de_bl))))))))) (fun δ Qd l h => ?_)
  obtain ⟨fs, m, rfl, hm, hl, hf, hq⟩ := h
  have hb := b62 (i := (m : Int)) (by omega) (by omega)
  have hs0 : (fs.map fmD).length < sizeLine := k1000 (by rw [List.length_map]; omega)
  have k30 : (10 : Int) ^ Int.toNat 30 < 2 ^ 200 := by decide +kernel
  have n200 : (2 : Int) ^ 200 = ((2 ^ 200 : Nat) : Int) := by decide +kernel
  refine ⟨hb.1, hb.2, rfl, by rw [rngD_len]; exact k1000 (by omega), ?_⟩
  refine lc_all Dt.int smallI _ (fun e _ Q q => ⟨cp30, rfl, _, rfl, by decide +kernel, by decide +kernel, fun y y0 y1 => q y (small_lt (by omega))⟩) fun ns hnl hns => ?_
  refine for_inv (fun i δ => ∃ o4, δ = [.src, .val (.lst (fs.map fmD)), .val (.int (m : Int)), .val (iL ns), vl o4, .any, .any, .any, .any, .any, .any, .any, .any]) ⟨none, rfl⟩ (fun i dd δ N hi hI h1 => ?_) (fun δ hI => ?_)
  · obtain ⟨o4, rfl⟩ := hI
    rw [List.getElem?_map] at hi
    obtain ⟨f, hfi, rfl⟩ := Option.map_eq_some_iff.mp hi
    have ff := hf f (List.mem_of_getElem? hfi)
    have flt : f.2.length < 1000 := by have := ff.1; omega
    refine ⟨rfl, f, iL ns, ns, rfl, .inr rfl, flt, ff.2, hns, rfl, f, ns, rfl, flt, ff.2, hns, dEq_int false (by simp) ⟨_, rfl, ?_⟩⟩
    have ht : ∀ x, x ∈ ns.take 1 → smallI x := fun x hx => hns x (List.mem_of_mem_take hx)
    refine ⟨_, rfl, rfl, f, iT (ns.take 1), ns.take 1, by rw [cut1], .inl rfl, flt, ff.2, ht, _, rfl, rfl, f, ns.take 1, by rw [cut1], flt, ff.2, ht, dEq_int false (by simp) ⟨_, rfl, ?_⟩⟩
    refine ⟨(by show 0 ≤ sizeLine; decide), rfl, f, iT [], [], rfl, .inl rfl, flt, ff.2, (fun x hx => nomatch hx), _, rfl, dEq_int false (by rw [fval_nil]; simp) ⟨_, rfl, ?_⟩⟩
    exact h1 _ ⟨some (fmD f), rfl⟩
  · obtain ⟨o4, rfl⟩ := hI
    refine ⟨rfl, .lst (fs.map fmD), fs, m, rfl, .inl rfl, by omega, fun f h => (hf f h).1, ?_⟩
    refine ⟨hb.1, hb.2, rfl, by rw [rngD_len]; exact k1000 (by omega), ?_⟩
    refine lc_map (fun i : Nat => Dt.int (fs.map fun f => f.2.getD i 0).sum) (List.range m) (fun i hi Q q => ?_) ?_
    · have him := List.mem_range.mp hi
      refine ⟨by cases o4 <;> rfl, hs0, ?_⟩
      refine lc_map (fun f : Int × List Int => Dt.int (f.2.getD i 0)) fs (fun f hfm Q q => ⟨_, rfl, Dt.int (f.2.getD i 0), ?_, q⟩) ?_
      · have := (hf f hfm).1
        rw [Int.zero_add]
        refine atI_map (f := Dt.int) (atI_nat ?_)
        rw [List.getD_eq_getElem?_getD, List.getElem?_eq_getElem (by omega)]
        rfl
      · rw [map_int2]
        exact ⟨_, rfl, q⟩
    rw [map_int2, show ((List.range m).map fun i => (fs.map fun f => f.2.getD i 0).sum) = dueL fs m from rfl]
    refine ⟨by cases o4 <;> rfl, hs0, ?_⟩
    refine lc_map (fun f : Int × List Int => Dt.int f.1) fs (fun f _ Q q => ⟨_, rfl, q⟩) ?_
    rw [map_int2 (fun f : Int × List Int => f.1) fs]
    refine ⟨_, rfl, (by show 2 ≤ sizeLine; decide), ?_⟩
    refine dEq_fm (x := fsum fs m) (y := ((fs.map (·.1)).sum, dueL fs m)) false ?_ ?_
    · unfold fsum
      rw [facs_eq fun f h => (hf f h).1]
      simp
    refine ⟨_, rfl, ?_⟩
    refine ⟨(by show 0 ≤ sizeLine; decide), rfl, .lst [], [], m, rfl, .inl rfl, by omega, (fun f h => nomatch h), ?_⟩
    refine ⟨(by show 1 ≤ sizeLine; decide), (by simp), (by show 1 ≤ 1000; decide), by omega, by omega, (by show 2 ≤ sizeLine; decide), ?_⟩
    rw [rep_flat]
    refine dEq_fm (x := fsum [] m) (y := (0, List.replicate (m : Int).toNat 0)) false ?_ ?_
    · have : fsum [] m = (0, List.replicate (m : Int).toNat 0) := rfl
      rw [this]
      simp
    refine ⟨_, rfl, ?_⟩
    refine for_inv (fun i δ => ∃ s7 s8 s10, δ = [.src, .val (.lst (fs.map fmD)), .val (.int (m : Int)), .val (iL ns), vl o4, .val (fmD (fsum fs m)), .val (.lst ((dueL fs m).map Dt.int)), s7, s8, .any, s10, .any, .any]) ⟨.any, .any, .any, rfl⟩ (fun i dd δ N hi hI h1 => ?_) (fun δ hI => ?_)
    · obtain ⟨s7, s8, s10, rfl⟩ := hI
      rw [List.getElem?_map] at hi
      obtain ⟨x, hx, rfl⟩ := Option.map_eq_some_iff.mp hi
      have fx := hf x (List.mem_of_getElem? hx)
      refine for_inv (fun i δ => ∃ s8 s10, δ = [.src, .val (.lst (fs.map fmD)), .val (.int (m : Int)), .val (iL ns), vl o4, .val (fmD (fsum fs m)), .val (.lst ((dueL fs m).map Dt.int)), .val (fmD x), s8, .any, s10, .any, .any]) ⟨s8, s10, rfl⟩ (fun i dd δ M hi hI h2 => ?_) (fun δ hI => ?_)
      · obtain ⟨s8, s10, rfl⟩ := hI
        rw [List.getElem?_map] at hi
        obtain ⟨y, hy, rfl⟩ := Option.map_eq_some_iff.mp hi
        have hxl : x.2.length < 1000 := by have := fx.1; omega
        refine ⟨rfl, x, y, rfl, hxl, ?_⟩
        refine ⟨_, rfl, _, rfl, _, rfl, _, rfl, _, _, rfl, rfl, rfl, ?_, ?_⟩
        · rw [pairD_map, List.length_map]
          exact zlen hxl
        rw [pairD_map]
        refine lc_map (fun p : Int × Int => Dt.int (p.1 - p.2)) _ (fun p m Q q => ⟨rfl, rfl, q⟩) ?_
        refine ⟨(by show 2 ≤ sizeLine; decide), ?_⟩
        rw [map_int2 (fun p : Int × Int => p.1 - p.2)]
        refine dEq_fm (x := fgap x y) (y := fgap x y) false (by simp) ?_
        exact ⟨_, rfl, h2 _ ⟨.val (fmD y), .val (fmD (fgap x y)), rfl⟩⟩
      · obtain ⟨s8, s10, rfl⟩ := hI
        exact h1 _ ⟨.val (fmD x), s8, s10, rfl⟩
    · obtain ⟨s7, s8, s10, rfl⟩ := hI
      exact hq
end
end My
/-! a law's start: the source stands, nothing else is known -/
namespace Dl
open PySem PySem.Spec PyProof.Rows L2 Lcn Sq
theorem sok_law {K : PySem.W.Frag} {a p L : Addr} {ns : List Int} {H : Hp} {n : Nat} (s : Src H p L ns) : Sok ⟨K, some (p, L, ns), fun b => b = p ∨ b = L, H, []⟩ H (some (.ref a) :: some (.ref p) :: List.replicate n none) (.any :: .src :: List.replicate n .any) := by
  have noo : ∀ (i : Nat) (a' : Addr) (ds : Oc), (Sl.any :: Sl.src :: List.replicate n Sl.any)[i]? ≠ some (.own a' ds) := fun i a' ds h => by
    match i with
    | 0 => cases h
    | 1 => cases h
    | i + 2 =>
      have h : (List.replicate n Sl.any)[i]? = some (.own a' ds) := h
      rw [List.getElem?_replicate] at h
      split at h <;> cases h
  refine ⟨by simp, fun i x h => ?_, fun i j a' ds es h => absurd h (noo i a' ds), s, Stp.refl H, fun b h => h, fun b h => ?_, fun p m => nomatch m⟩
  · match i with
    | 0 =>
      cases h
      trivial
    | 1 =>
      cases h
      exact ⟨_, rfl, rfl⟩
    | i + 2 =>
      have h : (List.replicate n Sl.any)[i]? = some x := h
      rw [List.getElem?_replicate] at h
      split at h
      · cases h
        trivial
      · cases h
  · obtain ⟨_, _, _, q⟩ := s
    rcases h with rfl | rfl
    · exact ⟨_, q.at_⟩
    · exact ⟨_, q.ls⟩
/-- the end: True is given back -/
theorem ends_law {C : Ctx} {D : Ends} (h : ∀ H, D.rt (.bl true) H) : EndsR C D { nx := fun _ => False, rt := fun d => d = .bl true } :=
  ⟨fun _ _ _ _ e => e.elim, fun v d H e r _ qd => by
    subst qd
    rw [r.bl_inv]
    exact h H, fun _ _ _ _ e => e.elim, fun _ _ _ _ e => e.elim⟩
end Dl
set_option maxHeartbeats 4000000
namespace My
open PySem PySem.Spec PyProof.Rows L2 Lcn Sq Dl
open M22
theorem dEq_rL {x y : List (List Int)} {neg : Bool} {Q : Dt → Prop} (b : Bool) (hb : (if neg then !decide (x = y) else decide (x = y)) = b) (q : Q (.bl b)) : dEq neg (.lst (x.map iT)) (.lst (y.map iT)) Q := dEq_sep (f := fun xs : List (List Int) => Dt.lst (xs.map iT)) (sep_lst sep_iT) (n := 2) (fun xs => fit_lst (fit_map fit_iT xs)) (by decide) (by rw [hb]; exact q)
def sp_law (K : PySem.W.Frag) : Sp := fun vs H Q _ => ∃ (a : Addr) (ns : List Int), vs = [.ref a] ∧ SqL K H a (ns.map V.int) ∧ ∀ H', Q (.bl true) H'
theorem sc_law : FnScope ["_law_script", "_law_source_here", "_law_turn", "_law_many", "_law_forms_here", "_law_due"] ["_law_script"] (defScope s_law) := ⟨rfl, rfl, rfl, by decide +kernel, rfl, by decide +kernel, by decide +kernel⟩
section
variable {P : Program} {w : World} {K : PySem.W.Frag} {mg : Str → Option Value} {base : Heap}
theorem ok_law (D_law : Dn K mg "law" s_law ["_law_script"]) (D__law_source : Dn K mg "_law_source" s__law_source ["_law_script"]) (G__law_source : FnOk P w K mg base CX0 1 D__law_source.f D__law_source.fd ["_law_script"] (spSource K)) (D__law_lengths_right : Dn K mg "_law_lengths_right" s__law_lengths_right ["_law_source_here"]) (G__law_lengths_right : FnOk P w K mg base CX0 4 D__law_lengths_right.f D__law_lengths_right.fd ["_law_source_here"] (dsp K 1 sp_lengths_right)) (D__law_take : Dn K mg "_law_take" s__law_take ["_law_source_here", "_law_many"]) (G__law_take : FnOk P w K mg base CX0 1 D__law_take.f D__law_take.fd ["_law_source_here", "_law_many"] (dsp K 2 sp_take)) (D__law_forms : Dn K mg "_law_forms" s__law_forms ["_law_source_here", "_law_many"]) (G__law_forms : FnOk P w K mg base CX0 3 D__law_forms.f D__law_forms.fd ["_law_source_here", "_law_many"] (dsp K 2 sp_forms)) (D__law_all_rows : Dn K mg "_law_all_rows" s__law_all_rows ["_law_forms_here"]) (G__law_all_rows : FnOk P w K mg base CX0 1 D__law_all_rows.f D__law_all_rows.fd ["_law_forms_here"] (dsp K 1 sp_all_rows)) (D__law_sums_right : Dn K mg "_law_sums_right" s__law_sums_right ["_law_source_here", "_law_forms_here", "_law_many"]) (G__law_sums_right : FnOk P w K mg base CX0 2 D__law_sums_right.f D__law_sums_right.fd ["_law_source_here", "_law_forms_here", "_law_many"] (dsp K 3 sp_sums_right)) (D_class_rows : Dn K mg "class_rows" s_class_rows ["forms"]) (G_class_rows : GFn P w K mg base 4 D_class_rows.f D_class_rows.fd ["forms"] (dspG K 1 sp_class_rows)) (T : TB mg) : FnOk P w K mg base CX0 8 D_law.f D_law.fd ["_law_script"] (sp_law K) := by
  refine ok0 D_law.F sc_law (fun vs H Q E h => ?_) (fun cdv A outer s H vs Q E hr h => ?_)
  · obtain ⟨a, ns, rfl, _⟩ := h
    rfl
  · obtain ⟨a, ns, rfl, hS, k⟩ := h
    obtain ⟨ts, p, v⟩ := ((dss_cons (ds_for (fun _ => rfl) (di_range1 (fun _ => by rfl) (fun _ => T.range) (da_cons de_int da_nil)) (dg_name (i := 2) (fun _ => pg_name sc_law.nd rfl (by first | exact Or.inl rfl | exact Or.inr rfl))) (dss_one (ds_if (dt_not (dt_val (de_call (fun _ pa => pe_call G__law_lengths_right (hr.mono (by decide)) (by rfl) D__law_lengths_right.m D__law_lengths_right.F.kp D__law_lengths_right.b .nil pass0 pa) (dl_src (fun _ => pv 1) dl_nil)))) (dss_one (ds_ret de_bl)) dss_nil)) (fun _ => PassesOwn.never))
  (dss_cons (ds_for (fun _ => rfl) (di_range1 (fun _ => by rfl) (fun _ => T.range) (da_cons de_int da_nil)) (dg_name (i := 2) (fun _ => pg_name sc_law.nd rfl (by first | exact Or.inl rfl | exact Or.inr rfl))) (dss_cons (ds_set (fun _ p => ps_set (i := 3) sc_law.nd rfl (by first | exact Or.inl rfl | exact Or.inr rfl) p) (de_call (fun _ pa => pe_call G__law_take (hr.mono (by decide)) (by rfl) D__law_take.m D__law_take.F.kp D__law_take.b .nil pass0 pa) (dl_src (fun _ => pv 1) (dl_val de_int dl_nil))))
  (dss_cons (ds_set (fun _ p => ps_set (i := 4) sc_law.nd rfl (by first | exact Or.inl rfl | exact Or.inr rfl) p) (de_call (fun _ pa => pe_call G__law_forms (hr.mono (by decide)) (by rfl) D__law_forms.m D__law_forms.F.kp D__law_forms.b .nil pass0 pa) (dl_src (fun _ => pv 1) (dl_val (de_var (fun _ => pv 3)) dl_nil))))
  (dss_cons (ds_set (fun _ p => ps_set (i := 5) sc_law.nd rfl (by first | exact Or.inl rfl | exact Or.inr rfl) p) (de_call (fun _ pa => pe_call G__law_all_rows (hr.mono (by decide)) (by rfl) D__law_all_rows.m D__law_all_rows.F.kp D__law_all_rows.b .nil pass0 pa) (dl_val (de_var (fun _ => pv 4)) dl_nil)))
  (dss_cons (ds_if (dt_w (dw_or (dt_cmpC (cd_ne (fun _ => ru64 hr)) (de_n (dn_listG (fun _ pa => pe_listG (pgen_call G_class_rows (hr.mono (by decide)) (by rfl) D_class_rows.m D_class_rows.F.kp D_class_rows.b .nil pa) passesF noStop0 (hr.mono (by decide)) (by rfl) T.list_ (by decide +kernel)) (dl_val (de_var (fun _ => pv 4)) dl_nil))) (de_var (fun _ => pv 5)) (nomark _)) (dw_or1 (dt_cmpC (cd_ne (fun _ => ru64 hr)) (de_n (dn_listG (fun _ pa => pe_listG (pgen_call G_class_rows (hr.mono (by decide)) (by rfl) D_class_rows.m D_class_rows.F.kp D_class_rows.b .nil pa) passesF noStop0 (hr.mono (by decide)) (by rfl) T.list_ (by decide +kernel)) (dl_val (de_callTy (fun _ => cr_tuple rfl) rc_tuple (fun _ => by rfl) (fun _ => T.tuple_) (by decide +kernel) (da_cons (de_var (fun _ => pv 4)) da_nil)) dl_nil))) (de_var (fun _ => pv 5)) (nomark _))))) (dss_one (ds_ret de_bl)) dss_nil)
  (dss_one (ds_if (dt_not (dt_val (de_call (fun _ pa => pe_call G__law_sums_right (hr.mono (by decide)) (by rfl) D__law_sums_right.m D__law_sums_right.F.kp D__law_sums_right.b .nil pass0 pa) (dl_src (fun _ => pv 1) (dl_val (de_var (fun _ => pv 4)) (dl_val (de_var (fun _ => pv 3)) dl_nil)))))) (dss_one (ds_ret de_bl)) dss_nil)))))) (fun _ => PassesOwn.never))
  (dss_one (ds_ret de_bl)))) : DSs K (fun _ : Unit => (cxOf CX0 P w K mg base ["_law_script", "_law_source_here", "_law_turn", "_law_many", "_law_forms_here", "_law_due"] "law" (defScope s_law) D_law.f cdv A outer s H E).nox) (defBody s_law).tail _)
    refine ⟨_, pss_cons (ps_set (i := 1) sc_law.nd rfl (by first | exact Or.inl rfl | exact Or.inr rfl) (pe_call G__law_source (hr.mono (by decide)) (by rfl) D__law_source.m D__law_source.F.kp D__law_source.b .nil pass0 (pa_cons (pv 0) pa_nil))) (p ()), ?_⟩
    refine ⟨_, rfl, a, ns, rfl, hS, fun p L H' _ _ src => ?_⟩
    refine v _ _ _ H' _ _ rfl (sok_law (a := a) (n := 4) src) ?_ (ends_law k)
    have p200 : (6 : Int) < 2 ^ 200 := by decide
    refine ⟨(b62 (by omega) (by omega)).1, (b62 (by omega) (by omega)).2, ?_⟩
    refine for_inv (fun i δ => ∃ s2, δ = [.any, .src, s2, .any, .any, .any]) ⟨.any, rfl⟩ (fun i dd δ N hi hI h1 => ?_) (fun δ hI => ?_)
    · obtain ⟨s2, rfl⟩ := hI
      exact ⟨rfl, rfl, _, rfl, h1 _ ⟨.val dd, rfl⟩⟩
    obtain ⟨s2, rfl⟩ := hI
    refine ⟨(b62 (by omega) (by omega)).1, (b62 (by omega) (by omega)).2, ?_⟩
    refine for_inv (fun i δ => ∃ s2 s3 s4 s5, δ = [.any, .src, s2, s3, s4, s5]) ⟨s2, .any, .any, .any, rfl⟩ (fun i dd δ N hi hI h1 => ?_) (fun δ hI => ?_)
    · obtain ⟨s2, s3, s4, s5, rfl⟩ := hI
      refine ⟨rfl, 4, rfl, by decide, by omega, fun c c0 c1 => ?_⟩
      obtain ⟨m, rfl⟩ : ∃ m : Nat, c = (m : Int) := ⟨c.toNat, by omega⟩
      refine ⟨rfl, m, rfl, by omega, fun fs hl hf => ?_⟩
      have hlt : ∀ f, f ∈ fs → f.2.length < 1000 := fun f h => by
        have := (hf f h).1
        omega
      refine ⟨rfl, fs, rfl, hl, ?_⟩
      refine ⟨rfl, .lst (fs.map fmD), fs, rfl, .inl rfl, hl, hlt, dEq_rL false (by simp) ⟨_, rfl, ?_⟩⟩
      refine ⟨rfl, .tup (fs.map fmD), fs, rfl, .inr rfl, hl, hlt, dEq_rL false (by simp) ⟨_, rfl, ?_⟩⟩
      refine ⟨rfl, fs, m, rfl, by omega, hl, hf, _, rfl, ?_⟩
      exact h1 _ ⟨.val dd, .val (.int (m : Int)), .val (.lst (fs.map fmD)), .val (.lst ((due (fs.map (·.2))).map iT)), rfl⟩
    · obtain ⟨s2, s3, s4, s5, rfl⟩ := hI
      rfl
end
end My
set_option maxHeartbeats 4000000
/-! a Hook that looks at any Boolean of one's own -/
namespace Hm
open PySem PySem.Spec PyProof.Rows L2 He
def obsM (ck : PySem.W.Frag → Bool) (fn : List DefD) (K : PySem.W.Frag) : AlD := (ck K && fn.all fun d => d.ok K, fn.map fun d => fnW K d.at_)
def SaysM (ck : PySem.W.Frag → Bool) (fn : List DefD) (K : PySem.W.Frag) : Prop := obsM ck fn K = valD fn
def obsMG (n : Nat) (ck : PySem.W.Frag → Bool) (fn : List DefD) (g : Addr → Option Obj) : AlD := obsM ck fn (frG g (asD g n))
def hookM (n : Nat) (ck : PySem.W.Frag → Bool) (fn : List DefD) : PySem.W.Hook where
  α := AlD
  obs := fun s => obsMG n ck fn s.heap.get?
  val := fun _ => valD fn
  says := fun _ h => ∃ K : PySem.W.Frag, K.In h ∧ SaysM ck fn K
  of := fun _ _ e => ⟨_, frG_in, e⟩
  keeps := fun _ _ _ ⟨K, hK, c⟩ k => ⟨K, PySem.W.Frag.In.keeps hK k, c⟩
theorem obsMG_eq {n : Nat} {ck : PySem.W.Frag → Bool} {fn : List DefD} {g : Addr → Option Obj} {s : Shared} (h : ∀ a, g a = s.heap.get? a) : obsMG n ck fn g = (hookM n ck fn).obs s := by
  have e : g = s.heap.get? := funext h
  rw [e] <;> rfl
section
variable {ck : PySem.W.Frag → Bool} {fn : List DefD} {K : PySem.W.Frag}
theorem SaysM.ckT (c : SaysM ck fn K) : ck K = true :=
  (ba (show (ck K && fn.all fun d => d.ok K) = true from congrArg (fun z : AlD => z.1) c)).1
theorem SaysM.def_ (c : SaysM ck fn K) (i : Nat) {d : DefD} (h : fn[i]? = some d := by rfl) : ∃ fd, FunD K d.name d.qual d.params d.body d.scope (d.dvs K) (d.kws K) (fAd K d.at_) fd := by
  have c2 := (ba (show (ck K && fn.all fun d => d.ok K) = true from congrArg (fun z : AlD => z.1) c)).2
  have e : fn.map (fun d => fnW K d.at_) = fn.map DefD.val := congrArg (fun z : AlD => z.2) c
  have e2 : (fn.map fun d => fnW K d.at_)[i]? = (fn.map DefD.val)[i]? := by rw [e]
  rw [List.getElem?_map, List.getElem?_map, h] at e2
  exact DefD.funD (Option.some.inj e2) (List.all_eq_true.mp c2 d (List.mem_of_getElem? h))
end
/-! ### exception classes over ValueError, by an own base -/
def oexB (K : PySem.W.Frag) (C : Addr) (bm : List Value) : Bool := match K.lookup C with
  | some ⟨.type "type", _, .cls cd, sl⟩ => (match cd.mro, sl.toList with
    | .ref C' :: bm', [_, _, _, _, some (.builtin n), _] => decide (C' = C) && (decide (n = "ValueError.__new__") && (!cd.hasDel && (cd.hasDict && decide (bm' = bm))))
    | _, _ => false)
  | _ => false
theorem oexB_ok {K : PySem.W.Frag} {C : Addr} {bm : List Value} (q : oexB K C bm = true) :
    ∃ nm qn N bs sn sub ab col dd k0 k1 k2 k3 k5, K.lookup C = some (excClassObj nm qn C N bs bm true sn sub ab col dd k0 k1 k2 k3 k5 "ValueError.__new__") := by
  unfold oexB at q
  split at q
  · rename_i dd cd sl ho
    split at q
    · rename_i C' bm' k0 k1 k2 k3 n k5 hm hs
      simp only [Bool.and_eq_true, decide_eq_true_eq, Bool.not_eq_true'] at q
      obtain ⟨rfl, rfl, hdel, hdc, rfl⟩ := q
      obtain ⟨nm, bs, mro, ns, qn, hd, sn, sub, ab, col, del⟩ := cd
      dsimp only at hm hdel hdc
      subst hm hdel hdc
      have hsl : sl = #[k0, k1, k2, k3, some (.builtin "ValueError.__new__"), k5] := by
        obtain ⟨l⟩ := sl
        simp only at hs
        rw [hs]
      subst hsl
      exact ⟨nm, qn, ns, bs, sn, sub, ab, col, dd, k0, k1, k2, k3, k5, ho⟩
    · cases q
  · cases q
def excB (K : PySem.W.Frag) (C : Addr) (fs : List Str) : Bool :=
  eqO (PySem.W.findIn K (.ref C) "__setattr__") (some (some (.builtin "object.__setattr__"))) && (decide (PySem.W.subIn K (.ref C) (.type "BaseException") = some true) && (decide (PySem.W.typeIn K (.ref C) = some (.type "type")) && (PySem.W.keepIn K (.ref C) &&
  (eqO (PySem.W.findIn K (.ref C) "__getattribute__") (some (some (.builtin "BaseException.__getattribute__"))) && (eqO (PySem.W.findIn K (.ref C) "__getattr__") (some none) && (PySem.W.hasDictIn K C && (eqO (PySem.W.findIn K (.ref C) "__class__") (some (some (.builtin "object.__class__"))) &&
  (decide (PySem.W.mroIn K C (.type "object") = some true) && fs.all fun f => eqO (PySem.W.findIn K (.ref C) f) (some none)))))))))
def comB (K : PySem.W.Frag) : Bool := decide (PySem.W.specialIn K (.builtin "object.__class__") "__get__" = some (some (.builtin "getset_descriptor.__get__"))) && decide (PySem.W.takesIn K (.builtin "object.__class__") = some true)
/-- what is known of an exception class -/
structure XC (K : PySem.W.Frag) (C : Addr) (bm : List Value) (fs : List Str) : Prop where
  ox : OexC K C
  xc : ExcC K C
  cd : ∃ cd, PySem.W.clsIn K C = some cd ∧ cd.mro = .ref C :: bm
  no : ∀ f ∈ fs, PySem.W.findIn K (.ref C) f = some none
theorem xc_ok {K : PySem.W.Frag} {C : Addr} {bm : List Value} {fs : List Str} (c : comB K = true) (h1 : oexB K C bm = true) (h2 : excB K C fs = true) (hbm : PySem.HandSPX.refsVE bm = true) : XC K C bm fs := by
  obtain ⟨c1, c2⟩ := ba c
  obtain ⟨a1, h2⟩ := ba h2
  obtain ⟨a2, h2⟩ := ba h2
  obtain ⟨a3, h2⟩ := ba h2
  obtain ⟨a4, h2⟩ := ba h2
  obtain ⟨a5, h2⟩ := ba h2
  obtain ⟨a6, h2⟩ := ba h2
  obtain ⟨a7, h2⟩ := ba h2
  obtain ⟨a8, h2⟩ := ba h2
  obtain ⟨a9, a10⟩ := ba h2
  obtain ⟨nm, qn, N, bs, sn, sub, ab, col, dd, k0, k1, k2, k3, k5, hC⟩ := oexB_ok h1
  refine ⟨⟨⟨nm, qn, N, bs, bm, sn, sub, ab, col, dd, k0, k1, k2, k3, k5, hC, hbm⟩, eqO_ok a1, of_decide_eq_true a2, of_decide_eq_true a3, a4⟩, ⟨eqO_ok a5, eqO_ok a6, of_decide_eq_true a2, a7, eqO_ok a8, of_decide_eq_true c1, of_decide_eq_true c2, of_decide_eq_true a9⟩, ?_, fun f hf => eqO_ok (List.all_eq_true.mp a10 f hf)⟩
  refine ⟨{ name := nm, bases := bs, mro := .ref C :: bm, ns := N, qualname := qn, hasDict := true, slotNames := sn, subclasses := sub, abstract := ab, collection := col, hasDel := false }, ?_, rfl⟩
  unfold PySem.W.clsIn
  rw [hC] <;> rfl
/-- isinstance of an instance of C: of an own class D, of a built-in one -/
theorem kit_own {K : PySem.W.Frag} {C D : Addr} {bm bm' : List Value} {fs fs' : List Str} (x : XC K C bm fs) (y : XC K D bm' fs') : PySem.W.kitOne K (.ref C) (.ref D) = some (decide (C = D) || bm.contains (.ref D)) := by
  unfold PySem.W.kitOne
  by_cases e : C = D
  · subst e
    rw [if_pos (by simp)]
    simp
  · have ne : (Value.ref C == Value.ref D) = false := by simpa using e
    rw [ne, if_neg Bool.false_ne_true]
    obtain ⟨cd, hc, hm⟩ := x.cd
    obtain ⟨cd', hc', _⟩ := y.cd
    have e2 : ((PySem.W.clsIn K D).isSome && PySem.W.typeIn K (.ref D) == some (.type "type")) = true := by rw [hc', y.ox.tyC] <;> rfl
    show (if ((PySem.W.clsIn K D).isSome && PySem.W.typeIn K (.ref D) == some (.type "type")) = true then PySem.W.subIn K (.ref C) (.ref D) else none) = _
    rw [if_pos e2]
    show PySem.W.mroIn K C (.ref D) = _
    unfold PySem.W.mroIn
    rw [hc]
    show (if cd.mro.isEmpty = true then none else some (cd.mro.contains (.ref D))) = _
    rw [hm]
    have ne2 : (Value.ref D == Value.ref C) = false := by
      have : ¬ D = C := fun z => e z.symm
      simpa using this
    have ne3 : ¬ D = C := fun z => e z.symm
    simp [List.contains_cons, ne2, e, ne3]
theorem kit_bt {K : PySem.W.Frag} {C : Addr} {bm : List Value} {fs : List Str} {T : String} (x : XC K C bm fs) (hT : PySem.W.kitMeta T = true) : PySem.W.kitOne K (.ref C) (.type T) = some (bm.contains (.type T)) := by
  unfold PySem.W.kitOne
  have ne : (Value.ref C == Value.type T) = false := beq_eq_false_iff_ne.mpr (fun z => by cases z)
  rw [ne, if_neg Bool.false_ne_true]
  obtain ⟨cd, hc, hm⟩ := x.cd
  show (if PySem.W.kitMeta T = true then PySem.W.subIn K (.ref C) (.type T) else none) = _
  rw [if_pos hT]
  show PySem.W.mroIn K C (.type T) = _
  unfold PySem.W.mroIn
  rw [hc]
  show (if cd.mro.isEmpty = true then none else some (cd.mro.contains (.type T))) = _
  rw [hm]
  have ne2 : (Value.type T == Value.ref C) = false := beq_eq_false_iff_ne.mpr (fun z => by cases z)
  simp [List.contains_cons, ne2]
end Hm
set_option maxHeartbeats 4000000
/-! facts looked at over small pieces of the heap, carried to the whole -/
namespace Hm
open PySem PySem.Spec PyProof.Rows L2 He
def Sub (K1 K2 : PySem.W.Frag) : Prop := ∀ a o, K1.lookup a = some o → K2.lookup a = some o
section
variable {K1 K2 : PySem.W.Frag}
theorem Sub.cls (s : Sub K1 K2) {C : Addr} {cd : ClassData} (h : PySem.W.clsIn K1 C = some cd) : PySem.W.clsIn K2 C = some cd := by
  unfold PySem.W.clsIn at h ⊢
  split at h
  · rename_i c d cd' sl ho
    rw [s _ _ ho]
    exact h
  · cases h
theorem Sub.typ (s : Sub K1 K2) {a : Addr} {t : Value} (h : PySem.W.typeIn K1 (.ref a) = some t) : PySem.W.typeIn K2 (.ref a) = some t := by
  obtain ⟨o, ho, e⟩ := Option.map_eq_some_iff.mp h
  show (K2.lookup a).map _ = _
  rw [s _ _ ho]
  exact congrArg some e
theorem Sub.typeV (s : Sub K1 K2) {v t : Value} (h : PySem.W.typeIn K1 v = some t) : PySem.W.typeIn K2 v = some t := by
  cases v with
  | ref a => exact s.typ h
  | _ => exact h
theorem Sub.ns (s : Sub K1 K2) {N : Addr} {x : Str} {r : Option Value} (h : PySem.W.nsIn K1 N x = some r) : PySem.W.nsIn K2 N x = some r := by
  unfold PySem.W.nsIn at h ⊢
  split at h
  · rename_i c d es n sl ho
    rw [s _ _ ho]
    exact h
  · cases h
theorem Sub.own (s : Sub K1 K2) {x : Str} {v : Value} {r : Option Value} (h : PySem.W.ownIn K1 x v = some r) : PySem.W.ownIn K2 x v = some r := by
  cases v with
  | ref a =>
    unfold PySem.W.ownIn at h ⊢
    dsimp only at h ⊢
    split at h
    · rename_i c d cd sl ho
      rw [s _ _ ho]
      exact s.ns h
    · cases h
  | _ => exact h
theorem Sub.along (s : Sub K1 K2) {x : Str} : ∀ {l : List Value} {r : Option Value}, PySem.W.alongIn K1 x l = some r → PySem.W.alongIn K2 x l = some r
  | [], _, h => h
  | c :: l, r, h => by
    unfold PySem.W.alongIn at h ⊢
    cases e : PySem.W.ownIn K1 x c with
    | none =>
      rw [e] at h
      cases h
    | some q =>
      rw [e] at h
      rw [s.own e]
      cases q with
      | none => exact Sub.along s h
      | some v => exact h
theorem Sub.find (s : Sub K1 K2) {v : Value} {x : Str} {r : Option Value} (h : PySem.W.findIn K1 v x = some r) : PySem.W.findIn K2 v x = some r := by
  cases v with
  | ref a =>
    unfold PySem.W.findIn at h ⊢
    dsimp only at h ⊢
    split at h
    · rename_i c d cd sl ho
      rw [s _ _ ho]
      exact s.along h
    · cases h
  | _ => exact h
theorem Sub.mro (s : Sub K1 K2) {C : Addr} {b : Value} {r : Bool} (h : PySem.W.mroIn K1 C b = some r) : PySem.W.mroIn K2 C b = some r := by
  obtain ⟨cd, hc, e⟩ := Option.bind_eq_some_iff.mp h
  show (PySem.W.clsIn K2 C).bind _ = _
  rw [s.cls hc]
  exact e
theorem Sub.sub (s : Sub K1 K2) {t b : Value} {r : Bool} (h : PySem.W.subIn K1 t b = some r) : PySem.W.subIn K2 t b = some r := by
  cases t with
  | ref C => exact s.mro h
  | _ => exact h
theorem Sub.special (s : Sub K1 K2) {v : Value} {x : Str} {r : Option Value} (h : PySem.W.specialIn K1 v x = some r) : PySem.W.specialIn K2 v x = some r := by
  obtain ⟨t, ht, e⟩ := Option.bind_eq_some_iff.mp h
  show (PySem.W.typeIn K2 v).bind _ = _
  rw [s.typeV ht]
  exact s.find e
theorem Sub.keep (s : Sub K1 K2) {v : Value} (h : PySem.W.keepIn K1 v = true) : PySem.W.keepIn K2 v = true := by
  cases v with
  | ref a =>
    unfold PySem.W.keepIn at h ⊢
    dsimp only at h ⊢
    split at h
    · rename_i ho
      rw [s _ _ ho]
    · rename_i ho
      rw [s _ _ ho]
      have e : PySem.W.specialIn K1 (.ref a) "__call__" = some (some (.builtin "type.__call__")) := eq_of_beq h
      rw [s.special e]
      rfl
    · cases h
  | _ => exact h
theorem Sub.hasDict (s : Sub K1 K2) {C : Addr} (h : PySem.W.hasDictIn K1 C = true) : PySem.W.hasDictIn K2 C = true := by
  obtain ⟨cd, hc, e⟩ := PySem.W.any_some h
  unfold PySem.W.hasDictIn
  rw [s.cls hc]
  exact e
theorem Sub.code (s : Sub K1 K2) {cd : Value} {q : Str} (h : PySem.W.codeIn K1 cd q = true) : PySem.W.codeIn K2 cd q = true := by
  cases cd with
  | ref c =>
    unfold PySem.W.codeIn at h ⊢
    dsimp only at h ⊢
    split at h
    · rename_i ho
      rw [s _ _ ho]
      exact h
    · cases h
  | _ => exact h
theorem Sub.nsOk (s : Sub K1 K2) {N : Addr} (h : PySem.W.nsOkIn K1 N = true) : PySem.W.nsOkIn K2 N = true := by
  unfold PySem.W.nsOkIn at h ⊢
  split at h
  · rename_i ho
    rw [s _ _ ho]
    exact h
  · cases h
theorem Sub.tail (s : Sub K1 K2) {bm : List Value} : ∀ {l : List Value}, PySem.W.tailIn K1 bm l = true → PySem.W.tailIn K2 bm l = true
  | [], h => h
  | v :: r, h => by
    unfold PySem.W.tailIn at h ⊢
    rcases Bool.or_eq_true_iff.mp h with h | h
    · rw [h, Bool.true_or]
    · refine Bool.or_eq_true_iff.mpr (.inr ?_)
      cases v with
      | ref A =>
        dsimp only at h ⊢
        split at h
        · rename_i ho
          rw [s _ _ ho]
          obtain ⟨h1, h3⟩ := ba h
          obtain ⟨h1, h2⟩ := ba h1
          have e := eq_of_beq h2
          show (PySem.W.nsOkIn K2 _ && PySem.W.nsIn K2 _ "__init__" == some none && PySem.W.tailIn K2 bm r) = true
          rw [s.nsOk h1, s.ns e, Sub.tail s h3]
          rfl
        · cases h
      | _ => cases h
theorem Sub.exc (s : Sub K1 K2) {C : Addr} {bm : List Value} {n : String} (h : PySem.W.excIn K1 C bm n = true) : PySem.W.excIn K2 C bm n = true := by
  unfold PySem.W.excIn at h ⊢
  split at h
  · rename_i dd cd sl ho
    rw [s _ _ ho]
    split at h
    · rename_i hm hs
      simp only [hm, hs]
      obtain ⟨h, h6⟩ := ba h
      obtain ⟨h, h5⟩ := ba h
      obtain ⟨h, h4⟩ := ba h
      rw [h, s.tail h4, s.nsOk h5, s.ns (eq_of_beq h6)]
      rfl
    · cases h
  · cases h
theorem Sub.takes (s : Sub K1 K2) {a : Value} {r : Bool} (h : PySem.W.takesIn K1 a = some r) : PySem.W.takesIn K2 a = some r := by
  unfold PySem.W.takesIn at h ⊢
  split at h
  · rename_i q
    rw [s.special q]
    exact h
  · rename_i q
    rw [s.special q]
    obtain ⟨y, hy, e⟩ := Option.map_eq_some_iff.mp h
    show (PySem.W.specialIn K2 a "__delete__").map _ = _
    rw [s.special hy]
    exact congrArg some e
  · cases h
theorem Sub.xc (s : Sub K1 K2) {C : Addr} {bm : List Value} {fs : List Str} (x : XC K1 C bm fs) : XC K2 C bm fs := by
  obtain ⟨⟨⟨nm, q, N, bs, bm', sn, sub, ab, col, dd, k0, k1, k2, k3, k5, hC, hbm⟩, a1, a2, a3, a4⟩, ⟨b1, b2, b3, b4, b5, b6, b7, b8⟩, ⟨cd, hc, hm⟩, no⟩ := x
  exact ⟨⟨⟨nm, q, N, bs, bm', sn, sub, ab, col, dd, k0, k1, k2, k3, k5, s _ _ hC, hbm⟩, s.find a1, s.sub a2, s.typ a3, s.keep a4⟩, ⟨s.find b1, s.find b2, s.sub b3, s.hasDict b4, s.find b5, s.special b6, s.takes b7, s.mro b8⟩, ⟨cd, s.cls hc, hm⟩, fun f hf => s.find (no f hf)⟩
theorem Sub.fund (s : Sub K1 K2) {x qual : Str} {params : Arguments} {body : List Stmt} {scope : Scope} {f : Addr} {fd : FuncData} (F : FunD K1 x qual params body scope [] [] f fd) : FunD K2 x qual params body scope [] [] f fd := by
  obtain ⟨⟨oc, od, dV, kV, doc, pm, an, cdv, ct, osl, rfl, lk, hcd, hD, hK⟩, kp⟩ := F
  refine ⟨⟨oc, od, dV, kV, doc, pm, an, cdv, ct, osl, rfl, s _ _ lk, s.code hcd, ?_, .inl rfl⟩, s.keep kp⟩
  rcases hD with ⟨_, e⟩ | ⟨e, _⟩
  · exact .inl ⟨rfl, e⟩
  · exact absurd rfl e
end
/-! ### pieces of the heap -/
theorem frG_mem {g : Addr → Option Obj} {a : Addr} {o : Obj} : ∀ {as : List Addr}, a ∈ as → g a = some o → (frG g as).lookup a = some o
  | [], h, _ => nomatch h
  | b :: r, h, e => by
    unfold frG
    rw [List.filterMap_cons]
    by_cases hb : a = b
    · subst hb
      rw [e]
      show (List.lookup a ((a, o) :: _)) = some o
      simp [List.lookup]
    · have hr : a ∈ r := by
        rcases List.mem_cons.mp h with q | q
        · exact absurd q hb
        · exact q
      have ih := frG_mem hr e
      unfold frG at ih
      cases hg : g b with
      | none => exact ih
      | some ob =>
        show (List.lookup a ((b, ob) :: _)) = some o
        have ne : (a == b) = false := by simpa using hb
        simp only [List.lookup, ne]
        exact ih
theorem frG_keys {g : Addr → Option Obj} {a : Addr} {o : Obj} : ∀ {as : List Addr}, (frG g as).lookup a = some o → a ∈ as
  | [], h => by cases h
  | b :: r, h => by
    by_cases hb : a = b
    · rw [hb]
      exact List.mem_cons_self ..
    · refine List.mem_cons_of_mem _ (frG_keys (g := g) (o := o) ?_)
      unfold frG at h ⊢
      rw [List.filterMap_cons] at h
      cases hg : g b with
      | none =>
        rw [hg] at h
        exact h
      | some ob =>
        rw [hg] at h
        have ne : (a == b) = false := by simpa using hb
        have h2 : List.lookup a ((b, ob) :: r.filterMap fun a => (g a).map fun o => (a, o)) = some o := h
        simp only [List.lookup, ne] at h2
        exact h2
theorem sub_of {g : Addr → Option Obj} {as bs : List Addr} (h : ∀ a ∈ as, a ∈ bs) : Sub (frG g as) (frG g bs) := fun a o e => frG_mem (h a (frG_keys e)) (frG_at as e)
def growFrom (g : Addr → Option Obj) : Nat → List Addr → List Addr
  | 0, as => as
  | n + 1, as => growFrom g n (growD g as)
def gaG (g : Addr → Option Obj) (x : Str) : Addr := ga (frG g [mainGlobals]) x
/-- one name of the module: what is looked at, n steps from its object -/
structure Itm where
  x : Str
  n : Nat
  ck : (Str → Addr) → PySem.W.Frag → Addr → Bool
def Itm.as (g : Addr → Option Obj) (i : Itm) : List Addr := growFrom g i.n [gaG g i.x]
def Itm.ok (g : Addr → Option Obj) (i : Itm) : Bool := eqO (PySem.W.nsIn (frG g [mainGlobals]) mainGlobals i.x) (some (some (.ref (gaG g i.x)))) && i.ck (gaG g) (frG g (i.as g)) (gaG g i.x)
/-- one def, or one __init__ -/
structure Fn where
  x : Str
  m : Option Str
  name : Str
  qual : Str
  params : Arguments
  body : List Stmt
  scope : Scope
def Fn.adr (g : Addr → Option Obj) (d : Fn) : Addr := match d.m with
  | none => gaG g d.x
  | some m => ma (frG g (growFrom g 2 [gaG g d.x])) (gaG g d.x) m
def Fn.as (g : Addr → Option Obj) (d : Fn) : List Addr := growFrom g 1 [d.adr g]
def Fn.as2 (g : Addr → Option Obj) (d : Fn) : List Addr := match d.m with
  | none => []
  | some _ => growFrom g 2 [gaG g d.x]
def fnB (K : PySem.W.Frag) (a : Addr) (q : Str) : Bool := PySem.W.keepIn K (.ref a) && (match K.lookup a with
  | some ⟨_, _, .func fd, _⟩ => PySem.W.codeIn K fd.code q && dflB K fd.defaults []
  | _ => false)
def Fn.ok (g : Addr → Option Obj) (d : Fn) : Bool := fnB (frG g (d.as g)) (d.adr g) d.qual && (match d.m with
  | none => true
  | some m => eqO (PySem.W.findIn (frG g (growFrom g 2 [gaG g d.x])) (.ref (gaG g d.x)) m) (some (some (.ref (d.adr g)))))
def Fn.w (g : Addr → Option Obj) (d : Fn) : FnW := match g (d.adr g) with
  | some ⟨_, _, .func fd, _⟩ => some (fd.name, fd.qualname, fd.params, fd.body, fd.scope, fd.globals, fd.closure, fd.builtins)
  | _ => none
def Fn.val (d : Fn) : FnW := some (d.name, d.qual, d.params, .stmts d.body, d.scope, mainGlobals, [], builtinsNs)
theorem Fn.fund {g : Addr → Option Obj} {d : Fn} (e : d.w g = d.val) (c : d.ok g = true) : ∃ fd, FunD (frG g (d.as g)) d.name d.qual d.params d.body d.scope [] [] (d.adr g) fd := by
  obtain ⟨kp, c2⟩ := ba (show (PySem.W.keepIn (frG g (d.as g)) (.ref (d.adr g)) && _) = true from (ba c).1)
  cases q : (frG g (d.as g)).lookup (d.adr g) with
  | none =>
    rw [q] at c2
    cases c2
  | some o =>
    have hg := frG_at _ q
    unfold Fn.w at e
    rw [hg] at e
    obtain ⟨oc, od, dt, osl⟩ := o
    rw [q] at c2
    cases dt with
    | func fd =>
      obtain ⟨n1, n2, n3, n4, n5, n6, n7, n8, n9, n10, n11, n12, n13, n14, n15⟩ := fd
      have e2 : (some (n1, n2, n3, n4, n5, n6, n7, n15) : FnW) = some (d.name, d.qual, d.params, .stmts d.body, d.scope, mainGlobals, [], builtinsNs) := e
      simp only [Option.some.injEq, Prod.mk.injEq] at e2
      obtain ⟨h1, h2, h3, h4, h5, h6, h7, h8⟩ := e2
      subst h1 h2 h3 h4 h5 h6 h7 h8
      obtain ⟨k1, k3⟩ := ba (show (PySem.W.codeIn (frG g (d.as g)) n13 d.qual && dflB (frG g (d.as g)) n8 []) = true from c2)
      exact ⟨_, ⟨oc, od, n8, n9, n10, n11, n12, n13, n14, osl, rfl, q, k1, dflB_ok k3, .inl rfl⟩, kp⟩
    | _ => cases c2
/-! ### the Hook -/
def obsS (its : List Itm) (fns : List Fn) (frees : List Str) (ex : (Str → Addr) → Bool) (g : Addr → Option Obj) : AlD :=
  (its.all (Itm.ok g) && (fns.all (Fn.ok g) && (frees.all (fun x => eqO (PySem.W.nsIn (frG g [mainGlobals]) mainGlobals x) (some none)) && ex (gaG g))), fns.map (Fn.w g))
def wholeK (its : List Itm) (fns : List Fn) (g : Addr → Option Obj) : PySem.W.Frag := frG g (mainGlobals :: (its.flatMap (Itm.as g) ++ (fns.flatMap (Fn.as g) ++ fns.flatMap (Fn.as2 g))))
/-- what the end leans on -/
structure SaysS (its : List Itm) (fns : List Fn) (frees : List Str) (ex : (Str → Addr) → Bool) (K : PySem.W.Frag) : Prop where
  glo : ∀ (j : Nat) (i : Itm), its[j]? = some i → PySem.W.nsIn K mainGlobals i.x = some (some (.ref (ga K i.x)))
  it : ∃ γ : Str → Addr, (∀ (j : Nat) (i : Itm), its[j]? = some i → γ i.x = ga K i.x ∧ ∃ K1, Sub K1 K ∧ i.ck γ K1 (ga K i.x) = true) ∧ ex γ = true
  fn : ∀ (j : Nat) (d : Fn), fns[j]? = some d → (∃ (k : Nat) (i : Itm), its[k]? = some i ∧ i.x = d.x) → ∃ (a : Addr) (fd : FuncData), FunD K d.name d.qual d.params d.body d.scope [] [] a fd ∧ (d.m = none → a = ga K d.x) ∧ ∀ m, d.m = some m → PySem.W.findIn K (.ref (ga K d.x)) m = some (some (.ref a))
  free : ∀ x ∈ frees, PySem.W.nsIn K mainGlobals x = some none
theorem says_of {its : List Itm} {fns : List Fn} {frees : List Str} {ex : (Str → Addr) → Bool} {g : Addr → Option Obj} (e : obsS its fns frees ex g = (true, fns.map Fn.val)) : SaysS its fns frees ex (wholeK its fns g) := by
  have e1 : (its.all (Itm.ok g) && (fns.all (Fn.ok g) && (frees.all (fun x => eqO (PySem.W.nsIn (frG g [mainGlobals]) mainGlobals x) (some none)) && ex (gaG g)))) = true := congrArg (fun z : AlD => z.1) e
  have e2 : fns.map (Fn.w g) = fns.map Fn.val := congrArg (fun z : AlD => z.2) e
  obtain ⟨c1, c2⟩ := ba e1
  obtain ⟨c2, c3⟩ := ba c2
  obtain ⟨c3, c4⟩ := ba c3
  have s0 : Sub (frG g [mainGlobals]) (wholeK its fns g) := sub_of fun a h => by
    have : a = mainGlobals := by simpa using h
    rw [this]
    exact List.mem_cons_self ..
  have gl : ∀ (j : Nat) (i : Itm), its[j]? = some i → PySem.W.nsIn (wholeK its fns g) mainGlobals i.x = some (some (.ref (gaG g i.x))) := fun j i h =>
    s0.ns (eqO_ok (ba (List.all_eq_true.mp c1 i (List.mem_of_getElem? h))).1)
  have ge : ∀ (j : Nat) (i : Itm), its[j]? = some i → gaG g i.x = ga (wholeK its fns g) i.x := fun j i h => by
    unfold ga
    rw [gl j i h]
  refine ⟨fun j i h => by rw [← ge j i h]; exact gl j i h, ⟨gaG g, fun j i h => ⟨ge j i h, frG g (i.as g), ?_, ?_⟩, c4⟩, fun j d h hx => ?_, fun x hx => s0.ns (eqO_ok (List.all_eq_true.mp c3 x hx))⟩
  · exact sub_of fun a ha => List.mem_cons_of_mem _ (List.mem_append_left _ (List.mem_flatMap.mpr ⟨i, List.mem_of_getElem? h, ha⟩))
  · rw [← ge j i h]
    exact (ba (List.all_eq_true.mp c1 i (List.mem_of_getElem? h))).2
  · have e3 : (fns.map (Fn.w g))[j]? = (fns.map Fn.val)[j]? := by rw [e2]
    rw [List.getElem?_map, List.getElem?_map, h] at e3
    obtain ⟨fd, F⟩ := Fn.fund (Option.some.inj e3) (List.all_eq_true.mp c2 d (List.mem_of_getElem? h))
    have sd : Sub (frG g (d.as g)) (wholeK its fns g) := sub_of fun a ha => List.mem_cons_of_mem _ (List.mem_append_right _ (List.mem_append_left _ (List.mem_flatMap.mpr ⟨d, List.mem_of_getElem? h, ha⟩)))
    obtain ⟨k, i, hk, hix⟩ := hx
    have gx : gaG g d.x = ga (wholeK its fns g) d.x := by
      rw [← hix]
      exact ge k i hk
    refine ⟨d.adr g, fd, sd.fund F, fun hm => ?_, fun m hm => ?_⟩
    · unfold Fn.adr
      rw [hm, ← gx]
    · have sm : Sub (frG g (growFrom g 2 [gaG g d.x])) (wholeK its fns g) := sub_of fun a ha => List.mem_cons_of_mem _ (List.mem_append_right _ (List.mem_append_right _ (List.mem_flatMap.mpr ⟨d, List.mem_of_getElem? h, by
        unfold Fn.as2
        rw [hm]
        exact ha⟩)))
      have q := (ba (List.all_eq_true.mp c2 d (List.mem_of_getElem? h))).2
      rw [hm] at q
      have z := sm.find (eqO_ok q)
      rw [gx] at z
      exact z
def hookS (its : List Itm) (fns : List Fn) (frees : List Str) (ex : (Str → Addr) → Bool) : PySem.W.Hook where
  α := AlD
  obs := fun s => obsS its fns frees ex s.heap.get?
  val := fun _ => (true, fns.map Fn.val)
  says := fun _ h => ∃ K : PySem.W.Frag, K.In h ∧ SaysS its fns frees ex K
  of := fun _ _ e => ⟨_, frG_in, says_of e⟩
  keeps := fun _ _ _ ⟨K, hK, c⟩ k => ⟨K, PySem.W.Frag.In.keeps hK k, c⟩
theorem obsS_eq {its : List Itm} {fns : List Fn} {frees : List Str} {ex : (Str → Addr) → Bool} {g : Addr → Option Obj} {s : Shared} (h : ∀ a, g a = s.heap.get? a) : obsS its fns frees ex g = (hookS its fns frees ex).obs s := by
  have e : g = s.heap.get? := funext h
  rw [e] <;> rfl
end Hm
set_option maxHeartbeats 2000000
/-! != of instances of a class with an own ==, which has no own != -/
namespace Ne
open PySem PySem.Spec PyProof.Rows L2
section
variable {prog : Program} {w : World} {A : Around} {E : Value → Shared → Prop} {s : Shared} {K : PySem.W.Frag} {x C L f : Addr} {h₀ : Heap} {m : Str → Option Value} {ox : Obj} {od : Option Obj} {b tb : Value}
open PySem.W in
theorem ne_body {Q : Fin → Shared → Prop} (hu : A.units < cLine) (X : K.In s.heap) (I : InstAt s.heap x ox C od) (hs : findIn K (.ref C) "__eq__" = some (some (.ref f))) (hf : isFn K (.ref f) = true)
    (h : wpAny (model prog w) A (call (.ref f) [.ref x, b]) (fun v s' => ∃ r, v = .bool r ∧ Q (.done (.ret (.bool (!r)))) s') E s) :
    wpAny (model prog w) A (Builtin.«object.__ne__» ⟨[.ref x, b], []⟩) Q E s := by
  unfold Builtin.«object.__ne__»
  repeat (first
    | with_reducible refine wpAny_cRoomFor hu ?_
    | (refine wpAny_bind (m := callSpecialIfBound? (.ref x) (Str.ofString "__eq__") [b])
        (ifBound_K X I hs hf (wpAny_mono h (fun r s' hr => by
          obtain ⟨b, rfl, hq⟩ := hr
          repeat (first | exact hq | exact wpAny_pure hq | exact wpAny_truthy_bool hq | (refine wpAny_bind (m := truthy (.bool _)) (wpAny_truthy_bool ?_)) | wp_step)) fun _ _ e => e)))
    | wp_step)
open PySem.W in
theorem ne_bound {Q : Option Value → Shared → Prop} (hu : A.units + 1 < cLine) (X : K.In s.heap) (I : InstAt s.heap x ox C od) (hs : findIn K (.ref C) "__eq__" = some (some (.ref f))) (hf : isFn K (.ref f) = true)
    (hne : findIn K (.ref C) "__ne__" = some (some (.builtin "object.__ne__"))) (hm : mroIn K C (.type "object") = some true)
    (h : wpAny (model prog w) A.in1 (call (.ref f) [.ref x, b]) (fun v s' => ∃ r, v = .bool r ∧ Q (some (.bool (!r))) s') E s) :
    wpAny (model prog w) A (callSpecialIfBound? (.ref x) "__ne__" [b]) Q E s := by
  have S := F.cmp_object.ne
  simp only [callSpecialIfBound?, bindSpecialIfBound?]
  refine wpAny_holding (wpAny_bind (wpAny_bind (wpAny_bind (I.type.here ((looks_findIn X hne).here ?_)))))
  simp only [S.bind]
  have ii : Looks (model prog w) s.heap (isInstance (.ref x) (.type "object")) true := I.type.andThen (looks_mroIn X hm)
  have cl : wpAny (model prog w) A (call (.builtin "object.__ne__") [.ref x, b]) (fun v => Q (some v)) E s := by
    refine wpAny_call (codeAny_call_builtin S.plain F.cmpEntry_ne (check_slot F.cmpKind_ne F.cmpSplit_ne ii (F.cmpArgs_ne _ _) ?_))
    refine ne_body (A := A.in1) hu X I hs hf (wpAny_mono h (fun v s' hv => ?_) fun _ _ e => e)
    obtain ⟨r, rfl, hq⟩ := hv
    exact ⟨r, rfl, hq⟩
  refine wpAny_bind (wpAny_askSetting (wpAny_ite ?_))
  have fin : wpAny (model prog w) A (call (.builtin "object.__ne__") ([.ref x] ++ [b]) >>= fun v => pure (some v)) Q E s :=
    wpAny_bind (wpAny_mono cl (fun v s' h' => wpAny_pure h') fun _ _ h' => h')
  split
  · exact wpAny_bind (wpAny_pure (wpAny_pure fin))
  · exact wpAny_tryCatch (wpAny_bind (wpAny_pure (wpAny_pure fin)))
open PySem.W in
theorem ne_K {Q : Value → Shared → Prop} (hu : A.units + 1 < cLine) (F : Fr h₀ L s.heap m) (X₀ : K.In h₀) (I : InstAt s.heap x ox C od) (hb : Looks (model prog w) s.heap (typeOf b) tb) (hn : notFirst K C tb = true)
    (hs : findIn K (.ref C) "__eq__" = some (some (.ref f))) (hf : isFn K (.ref f) = true) (hne : findIn K (.ref C) "__ne__" = some (some (.builtin "object.__ne__"))) (hm : mroIn K C (.type "object") = some true)
    (h : wpAny (model prog w) A.in1 (call (.ref f) [.ref x, b]) (fun v s' => ∃ r, v = .bool r ∧ Q (.bool (!r)) s') E s) : wpAny (model prog w) A (richCompare .NotEq (.ref x) b) Q E s := by
  have X := X₀.keeps F.keep
  have one : wpAny (model prog w) A (tryCompare (.ref x) "__ne__" b) (fun r s' => ∃ v, r = some v ∧ Q v s') E s := by
    unfold tryCompare
    refine wpAny_bind (ne_bound hu X I hs hf hne hm (wpAny_mono h (fun v s' hv => ?_) fun _ _ e => e))
    obtain ⟨r, rfl, hq⟩ := hv
    exact ⟨r, rfl, wpAny_pure ⟨_, rfl, hq⟩⟩
  unfold richCompare
  simp only [oneThing_ref]
  refine wpAny_holding (wpAny_bind (wpAny_cRoomFor (Nat.lt_of_succ_lt hu) ?_))
  rw [cmpInfo_NotEq]
  dsimp only
  refine wpAny_bind (I.type.here (wpAny_bind (hb.here ?_)))
  split
  · rename_i q
    have e : subIn K tb (.ref C) = some false := by
      rcases Bool.or_eq_true_iff.mp hn with e | e
      · rw [beq_iff_eq.mp e] at q; simp at q
      · exact beq_iff_eq.mp e
    refine wpAny_bind ((looks_subIn X e).here ?_)
    simp only [Bool.false_eq_true, if_false]
    refine wpAny_bind (wpAny_mono one (fun r s' z => ?_) fun _ _ e => e)
    obtain ⟨v, rfl, hq⟩ := z
    exact wpAny_pure hq
  · refine wpAny_bind (wpAny_pure ?_)
    simp only [Bool.false_eq_true, if_false]
    refine wpAny_bind (wpAny_mono one (fun r s' z => ?_) fun _ _ e => e)
    obtain ⟨v, rfl, hq⟩ := z
    exact wpAny_pure hq
end
/-! ### the rule -/
section
variable {X : Cx} {n : Nat}
/-- != gives False for what D says, and only makes objects -/
def RcN (X : Cx) (n : Nat) (D : Eqv) : Prop :=
  ∀ (A : Around) (pins : List (Addr × Obj)) (s : Shared) (σ : L2.St) (H : Hp) (x y : V) (u v : Value), L2.Sub X n A → Inv X pins σ H s → RelV x u → RelV y v → D x y H →
    wpAny (model X.prog X.w) A (richCompare .NotEq u v) (fun r s' => r = .bool false ∧ ∃ H', Inv X pins σ H' s' ∧ Ext H H') X.xe s
theorem rcN_ins {CX : CXT} {C f : Addr} {fd : FuncData} {ps : List Str} {R : Addr → Addr → Hp → Prop} {E : XK} (F : FnOk X.prog X.w X.K X.mg X.base CX n f fd ps (spEq R))
    (hs : PySem.W.findIn X.K (.ref C) "__eq__" = some (some (.ref f))) (hf : PySem.W.isFn X.K (.ref f) = true) (hb : Binds X.K fd ps []) (hx : Passes CX X E)
    (hne : PySem.W.findIn X.K (.ref C) "__ne__" = some (some (.builtin "object.__ne__"))) (hm : PySem.W.mroIn X.K C (.type "object") = some true) : RcN X (n + 1) (DIns C R) := by
  intro A pins s σ H x y u v sb I rx ry d
  obtain ⟨a, b, dx, dy, fs, gs, rfl, rfl, ha, hb', hr⟩ := d
  cases rx
  cases ry
  obtain ⟨mA, J, _⟩ := ins_get I.hok ha
  obtain ⟨mB, J', _⟩ := ins_get I.hok hb'
  obtain ⟨od, J, _⟩ := J.look
  obtain ⟨od', J', _⟩ := J'.look
  have sb1 : L2.Sub X n A.in1 := sb.in1
  obtain ⟨m, hF⟩ := I.fr
  refine ne_K (tb := .ref C) (by have := sb1.room.units0; exact this) hF I.ok.mod.kin J J'.type (by simp [PySem.W.notFirst]) hs hf hne hm ?_
  have hsp : spEq R [.ref a, .ref b] H (fun v H' => v = .bl true ∧ Ext H H') E := ⟨a, b, rfl, hr, fun H' e => ⟨rfl, e⟩⟩
  have e0 : Env0 X.prog X.w X.K X.mg X.base A.in1 X.stack s H := by
    have e := I.env0
    exact ⟨by rw [sb1.fr]; exact e.frames, e.mod, e.bs, e.bsz, e.funs, e.frf, e.hok, e.bare⟩
  have hl := F.len _ _ _ _ hsp
  have r2 : Vals [V.ref a, V.ref b] [Value.ref a, Value.ref b] := .cons rfl (.cons rfl .nil)
  refine wpAny_call (codeAny_mono (F.run A.in1 X.stack s H ⟨[.ref a, .ref b], []⟩ [.ref a, .ref b] [.ref a, .ref b] _ E sb1.room e0 (by
    have := hb s [.ref a, .ref b] I.kIn (by simpa using hl)
    simpa using this) r2 hsp) fun r s' hq => ?_)
  cases r with
  | error e => exact hx pins σ H s e s' I hq
  | ok fl =>
    cases fl with
    | ret w =>
      obtain ⟨z, H', I', rz, ez, ex⟩ := I.after hq
      subst ez
      cases rz
      exact ⟨true, rfl, rfl, H', I', ex⟩
    | next => exact False.elim hq
    | brk => exact False.elim hq
    | cont => exact False.elim hq
/-- x != y as an expression -/
def rNeG (D : Eqv) : R2 := fun x y H Q => D x y H ∧ ∀ H', Ext H H' → Q (.bl false) H'
theorem op_neG {D : Eqv} (h : RcN X n D) (hr : Room n X.A) : OpR X (compareOp .NotEq) (rNeG D) := by
  intro pins s σ H x y v u Q I rx ry hq
  obtain ⟨d, q⟩ := hq
  show wpAny (model X.prog X.w) X.A (richCompare .NotEq v u) (EP X pins σ Q) X.xe s
  refine wpAny_mono (h X.A pins s σ H x y v u ⟨hr, rfl⟩ I rx ry d) (fun r s' z => ?_) fun _ _ x => x
  obtain ⟨hr', H', I', e⟩ := z
  subst hr'
  exact ⟨.bl false, H', I', rfl, q H' e⟩
end
end Ne
set_option maxHeartbeats 4000000
/-! facts looked at over small pieces of the heap: own classes, defs with defaults -/
namespace Hu
open PySem PySem.Spec PyProof.Rows L2 He Hm
section
variable {K1 K2 : PySem.W.Frag}
theorem inst (s : Sub K1 K2) {v b : Value} {r : Bool} (h : PySem.W.instIn K1 v b = some r) : PySem.W.instIn K2 v b = some r := by
  obtain ⟨t, ht, e⟩ := Option.bind_eq_some_iff.mp h
  show (PySem.W.typeIn K2 v).bind _ = _
  rw [s.typeV ht]
  exact s.sub e
theorem isFn (s : Sub K1 K2) {v : Value} (h : PySem.W.isFn K1 v = true) : PySem.W.isFn K2 v = true := by
  have e := eq_of_beq (show (PySem.W.typeIn K1 v == some (.type "function")) = true from h)
  show (PySem.W.typeIn K2 v == some (.type "function")) = true
  rw [s.typeV e]
  rfl
theorem makes (s : Sub K1 K2) {C : Addr} (h : PySem.W.makesIn K1 C = true) : PySem.W.makesIn K2 C = true := by
  unfold PySem.W.makesIn at h ⊢
  split at h
  · rename_i oc od cd sl ho
    rw [s _ _ ho]
    obtain ⟨h, h2⟩ := ba h
    obtain ⟨h, h1⟩ := ba h
    dsimp only
    rw [h, s.special (eq_of_beq h1), inst s (eq_of_beq h2)]
    rfl
  · cases h
theorem plainGet (s : Sub K1 K2) {C : Addr} {x : Str} (h : PySem.W.plainGet K1 C x = true) : PySem.W.plainGet K2 C x = true := by
  obtain ⟨h1, h2⟩ := ba (show (PySem.W.findIn K1 (.ref C) "__getattribute__" == some (some (.builtin "object.__getattribute__")) && PySem.W.findIn K1 (.ref C) "__getattr__" == some none) = true from h)
  show (PySem.W.findIn K2 (.ref C) "__getattribute__" == some (some (.builtin "object.__getattribute__")) && PySem.W.findIn K2 (.ref C) "__getattr__" == some none) = true
  rw [s.find (eq_of_beq h1), s.find (eq_of_beq h2)]
  rfl
theorem plainOver (s : Sub K1 K2) {C : Addr} (h : PySem.W.plainOver K1 C = true) : PySem.W.plainOver K2 C = true := by
  obtain ⟨cd, hc, e⟩ := PySem.W.any_some h
  unfold PySem.W.plainOver
  rw [s.cls hc]
  exact e
theorem cls (s : Sub K1 K2) {C : Addr} (c : Cls K1 C) : Cls K2 C := ⟨plainGet s c.pg, s.hasDict c.hd, plainOver s c.po, s.find c.sa⟩
theorem insC (s : Sub K1 K2) {C : Addr} (c : C8.InsC K1 C) : C8.InsC K2 C := by
  refine ⟨cls s c.cl, s.find c.ha, s.special c.hn, s.takes c.htk, s.mro c.hm, ?_⟩
  unfold PySem.W.kitOne
  rw [if_pos (by simp)]
theorem mk (s : Sub K1 K2) {C f : Addr} (m : Mk K1 C f) : Mk K2 C f := ⟨makes s m.makes, s.find m.init, isFn s m.fn, s.keep m.kp⟩
theorem dflV (s : Sub K1 K2) {v : Value} {ds : List V} (h : DflV K1 v ds) : DflV K2 v ds := by
  rcases h with h | ⟨h, T, o, its, n, e, l, d, r⟩
  · exact .inl h
  · exact .inr ⟨h, T, o, its, n, e, s _ _ l, d, r⟩
theorem fund (s : Sub K1 K2) {x qual : Str} {params : Arguments} {body : List Stmt} {scope : Scope} {ds : List V} {f : Addr} {fd : FuncData} (F : FunD K1 x qual params body scope ds [] f fd) : FunD K2 x qual params body scope ds [] f fd := by
  obtain ⟨⟨oc, od, dV, kV, doc, pm, an, cdv, ct, osl, rfl, lk, hcd, hD, hK⟩, kp⟩ := F
  exact ⟨⟨oc, od, dV, kV, doc, pm, an, cdv, ct, osl, rfl, s _ _ lk, s.code hcd, dflV s hD, .inl rfl⟩, s.keep kp⟩
end
/-! ### one def, one method, with its defaults -/
structure Fn where
  x : Str
  m : Option Str
  name : Str
  qual : Str
  params : Arguments
  body : List Stmt
  scope : Scope
  dfl : List V
  pr : Bool := false
/-- a property's getter -/
def prA (K : PySem.W.Frag) (p : Addr) : Addr := match PySem.W.recIn K p "property" with
  | some (.ref g :: _) => g
  | _ => p
def prB (K : PySem.W.Frag) (C : Addr) (m : Str) (a : Addr) : Bool := match PySem.W.findIn K (.ref C) m with
  | some (some (.ref p)) => eqO (PySem.W.specialIn K (.ref p) "__get__") (some (some (.builtin "property.__get__"))) && (decide (PySem.W.takesIn K (.ref p) = some true) && (match PySem.W.recIn K p "property" with
    | some (.ref g :: _) => decide (g = a)
    | _ => false))
  | _ => false
theorem recS {K1 K2 : PySem.W.Frag} (s : Sub K1 K2) {p : Addr} {T : String} {vs : List Value} (h : PySem.W.recIn K1 p T = some vs) : PySem.W.recIn K2 p T = some vs := by
  unfold PySem.W.recIn at h ⊢
  split at h
  · rename_i n d ws sl ho
    rw [s _ _ ho]
    exact h
  · cases h
theorem prB_ok {K1 K2 : PySem.W.Frag} (s : Sub K1 K2) {C : Addr} {m : Str} {a : Addr} (h : prB K1 C m a = true) : ∃ p, PropOf K2 C m p a := by
  unfold prB at h
  split at h
  · rename_i p hp
    obtain ⟨h1, h⟩ := ba h
    obtain ⟨h2, h3⟩ := ba h
    split at h3
    · rename_i g rest hr
      have e := of_decide_eq_true h3
      subst e
      exact ⟨p, s.find hp, s.special (eqO_ok h1), s.takes (of_decide_eq_true h2), rest, recS s hr⟩
    · cases h3
  · cases h
def Fn.adr (g : Addr → Option Obj) (d : Fn) : Addr := match d.m with
  | none => gaG g d.x
  | some m => if d.pr then prA (frG g (growFrom g 2 [gaG g d.x])) (ma (frG g (growFrom g 2 [gaG g d.x])) (gaG g d.x) m) else ma (frG g (growFrom g 2 [gaG g d.x])) (gaG g d.x) m
def Fn.as (g : Addr → Option Obj) (d : Fn) : List Addr := growFrom g 1 [d.adr g]
def Fn.as2 (g : Addr → Option Obj) (d : Fn) : List Addr := match d.m with
  | none => []
  | some _ => growFrom g 2 [gaG g d.x]
def fnB (K : PySem.W.Frag) (a : Addr) (q : Str) (ds : List V) : Bool := PySem.W.keepIn K (.ref a) && (match K.lookup a with
  | some ⟨_, _, .func fd, _⟩ => PySem.W.codeIn K fd.code q && dflB K fd.defaults ds
  | _ => false)
def Fn.ok (g : Addr → Option Obj) (d : Fn) : Bool := fnB (frG g (d.as g)) (d.adr g) d.qual d.dfl && (match d.m with
  | none => true
  | some m => if d.pr then prB (frG g (growFrom g 2 [gaG g d.x])) (gaG g d.x) m (d.adr g) else eqO (PySem.W.findIn (frG g (growFrom g 2 [gaG g d.x])) (.ref (gaG g d.x)) m) (some (some (.ref (d.adr g)))))
def Fn.w (g : Addr → Option Obj) (d : Fn) : FnW := match g (d.adr g) with
  | some ⟨_, _, .func fd, _⟩ => some (fd.name, fd.qualname, fd.params, fd.body, fd.scope, fd.globals, fd.closure, fd.builtins)
  | _ => none
def Fn.val (d : Fn) : FnW := some (d.name, d.qual, d.params, .stmts d.body, d.scope, mainGlobals, [], builtinsNs)
theorem Fn.fund {g : Addr → Option Obj} {d : Fn} (e : d.w g = d.val) (c : d.ok g = true) : ∃ fd, FunD (frG g (d.as g)) d.name d.qual d.params d.body d.scope d.dfl [] (d.adr g) fd := by
  obtain ⟨kp, c2⟩ := ba (show (PySem.W.keepIn (frG g (d.as g)) (.ref (d.adr g)) && _) = true from (ba c).1)
  cases q : (frG g (d.as g)).lookup (d.adr g) with
  | none =>
    rw [q] at c2
    cases c2
  | some o =>
    have hg := frG_at _ q
    unfold Fn.w at e
    rw [hg] at e
    obtain ⟨oc, od, dt, osl⟩ := o
    rw [q] at c2
    cases dt with
    | func fd =>
      obtain ⟨n1, n2, n3, n4, n5, n6, n7, n8, n9, n10, n11, n12, n13, n14, n15⟩ := fd
      have e2 : (some (n1, n2, n3, n4, n5, n6, n7, n15) : FnW) = some (d.name, d.qual, d.params, .stmts d.body, d.scope, mainGlobals, [], builtinsNs) := e
      simp only [Option.some.injEq, Prod.mk.injEq] at e2
      obtain ⟨h1, h2, h3, h4, h5, h6, h7, h8⟩ := e2
      subst h1 h2 h3 h4 h5 h6 h7 h8
      obtain ⟨k1, k3⟩ := ba (show (PySem.W.codeIn (frG g (d.as g)) n13 d.qual && dflB (frG g (d.as g)) n8 d.dfl) = true from c2)
      exact ⟨_, ⟨oc, od, n8, n9, n10, n11, n12, n13, n14, osl, rfl, q, k1, dflB_ok k3, .inl rfl⟩, kp⟩
    | _ => cases c2
/-! ### the Hook -/
def obsS (its : List Itm) (fns : List Fn) (frees : List Str) (ex : (Str → Addr) → Bool) (g : Addr → Option Obj) : AlD :=
  (its.all (Itm.ok g) && (fns.all (Fn.ok g) && (frees.all (fun x => eqO (PySem.W.nsIn (frG g [mainGlobals]) mainGlobals x) (some none)) && ex (gaG g))), fns.map (Fn.w g))
def wholeK (its : List Itm) (fns : List Fn) (g : Addr → Option Obj) : PySem.W.Frag := frG g (mainGlobals :: (its.flatMap (Itm.as g) ++ (fns.flatMap (Fn.as g) ++ fns.flatMap (Fn.as2 g))))
/-- what the end leans on -/
structure SaysS (its : List Itm) (fns : List Fn) (frees : List Str) (ex : (Str → Addr) → Bool) (K : PySem.W.Frag) : Prop where
  glo : ∀ (j : Nat) (i : Itm), its[j]? = some i → PySem.W.nsIn K mainGlobals i.x = some (some (.ref (ga K i.x)))
  it : ∃ γ : Str → Addr, (∀ (j : Nat) (i : Itm), its[j]? = some i → γ i.x = ga K i.x ∧ ∃ K1, Sub K1 K ∧ i.ck γ K1 (ga K i.x) = true) ∧ ex γ = true
  fn : ∀ (j : Nat) (d : Fn), fns[j]? = some d → (∃ (k : Nat) (i : Itm), its[k]? = some i ∧ i.x = d.x) → ∃ (a : Addr) (fd : FuncData), FunD K d.name d.qual d.params d.body d.scope d.dfl [] a fd ∧ (d.m = none → a = ga K d.x) ∧ (∀ m, d.m = some m → d.pr = false → PySem.W.findIn K (.ref (ga K d.x)) m = some (some (.ref a))) ∧ ∀ m, d.m = some m → d.pr = true → ∃ p, PropOf K (ga K d.x) m p a
  free : ∀ x ∈ frees, PySem.W.nsIn K mainGlobals x = some none
theorem says_of {its : List Itm} {fns : List Fn} {frees : List Str} {ex : (Str → Addr) → Bool} {g : Addr → Option Obj} (e : obsS its fns frees ex g = (true, fns.map Fn.val)) : SaysS its fns frees ex (wholeK its fns g) := by
  have e1 : (its.all (Itm.ok g) && (fns.all (Fn.ok g) && (frees.all (fun x => eqO (PySem.W.nsIn (frG g [mainGlobals]) mainGlobals x) (some none)) && ex (gaG g)))) = true := congrArg (fun z : AlD => z.1) e
  have e2 : fns.map (Fn.w g) = fns.map Fn.val := congrArg (fun z : AlD => z.2) e
  obtain ⟨c1, c2⟩ := ba e1
  obtain ⟨c2, c3⟩ := ba c2
  obtain ⟨c3, c4⟩ := ba c3
  have s0 : Sub (frG g [mainGlobals]) (wholeK its fns g) := sub_of fun a h => by
    have : a = mainGlobals := by simpa using h
    rw [this]
    exact List.mem_cons_self ..
  have gl : ∀ (j : Nat) (i : Itm), its[j]? = some i → PySem.W.nsIn (wholeK its fns g) mainGlobals i.x = some (some (.ref (gaG g i.x))) := fun j i h =>
    s0.ns (eqO_ok (ba (List.all_eq_true.mp c1 i (List.mem_of_getElem? h))).1)
  have ge : ∀ (j : Nat) (i : Itm), its[j]? = some i → gaG g i.x = ga (wholeK its fns g) i.x := fun j i h => by
    unfold ga
    rw [gl j i h]
  refine ⟨fun j i h => by rw [← ge j i h]; exact gl j i h, ⟨gaG g, fun j i h => ⟨ge j i h, frG g (i.as g), ?_, ?_⟩, c4⟩, fun j d h hx => ?_, fun x hx => s0.ns (eqO_ok (List.all_eq_true.mp c3 x hx))⟩
  · exact sub_of fun a ha => List.mem_cons_of_mem _ (List.mem_append_left _ (List.mem_flatMap.mpr ⟨i, List.mem_of_getElem? h, ha⟩))
  · rw [← ge j i h]
    exact (ba (List.all_eq_true.mp c1 i (List.mem_of_getElem? h))).2
  · have e3 : (fns.map (Fn.w g))[j]? = (fns.map Fn.val)[j]? := by rw [e2]
    rw [List.getElem?_map, List.getElem?_map, h] at e3
    obtain ⟨fd, F⟩ := Fn.fund (Option.some.inj e3) (List.all_eq_true.mp c2 d (List.mem_of_getElem? h))
    have sd : Sub (frG g (d.as g)) (wholeK its fns g) := sub_of fun a ha => List.mem_cons_of_mem _ (List.mem_append_right _ (List.mem_append_left _ (List.mem_flatMap.mpr ⟨d, List.mem_of_getElem? h, ha⟩)))
    obtain ⟨k, i, hk, hix⟩ := hx
    have gx : gaG g d.x = ga (wholeK its fns g) d.x := by
      rw [← hix]
      exact ge k i hk
    refine ⟨d.adr g, fd, Hu.fund sd F, fun hm => ?_, fun m hm hp => ?_, fun m hm hp => ?_⟩
    · unfold Fn.adr
      rw [hm, ← gx]
    · have sm : Sub (frG g (growFrom g 2 [gaG g d.x])) (wholeK its fns g) := sub_of fun a ha => List.mem_cons_of_mem _ (List.mem_append_right _ (List.mem_append_right _ (List.mem_flatMap.mpr ⟨d, List.mem_of_getElem? h, by
        unfold Fn.as2
        rw [hm]
        exact ha⟩)))
      have q := (ba (List.all_eq_true.mp c2 d (List.mem_of_getElem? h))).2
      rw [hm] at q
      dsimp only at q
      rw [hp] at q
      have z := sm.find (eqO_ok q)
      rw [gx] at z
      exact z
    · have sm : Sub (frG g (growFrom g 2 [gaG g d.x])) (wholeK its fns g) := sub_of fun a ha => List.mem_cons_of_mem _ (List.mem_append_right _ (List.mem_append_right _ (List.mem_flatMap.mpr ⟨d, List.mem_of_getElem? h, by
        unfold Fn.as2
        rw [hm]
        exact ha⟩)))
      have q := (ba (List.all_eq_true.mp c2 d (List.mem_of_getElem? h))).2
      rw [hm] at q
      dsimp only at q
      rw [hp] at q
      rw [← gx]
      exact prB_ok sm q
def hookS (its : List Itm) (fns : List Fn) (frees : List Str) (ex : (Str → Addr) → Bool) : PySem.W.Hook where
  α := AlD
  obs := fun s => obsS its fns frees ex s.heap.get?
  val := fun _ => (true, fns.map Fn.val)
  says := fun _ h => ∃ K : PySem.W.Frag, K.In h ∧ SaysS its fns frees ex K
  of := fun _ _ e => ⟨_, frG_in, says_of e⟩
  keeps := fun _ _ _ ⟨K, hK, c⟩ k => ⟨K, PySem.W.Frag.In.keeps hK k, c⟩
theorem obsS_eq {its : List Itm} {fns : List Fn} {frees : List Str} {ex : (Str → Addr) → Bool} {g : Addr → Option Obj} {s : Shared} (h : ∀ a, g a = s.heap.get? a) : obsS its fns frees ex g = (hookS its fns frees ex).obs s := by
  have e : g = s.heap.get? := funext h
  rw [e] <;> rfl
/-! ### what is looked at of an own class -/
def clsB (K : PySem.W.Frag) (C : Addr) (fs ms : List Str) : Bool :=
  PySem.W.plainGet K C Str.empty && (PySem.W.hasDictIn K C && (PySem.W.plainOver K C && (eqO (PySem.W.findIn K (.ref C) "__setattr__") (some (some (.builtin "object.__setattr__"))) &&
  (PySem.W.makesIn K C && (PySem.W.keepIn K (.ref C) && (eqO (PySem.W.findIn K (.ref C) "__class__") (some (some (.builtin "object.__class__"))) && (comB K && (decide (PySem.W.mroIn K C (.type "object") = some true) &&
  (decide (PySem.W.typeIn K (.ref C) = some (.type "type")) && ((fs.all fun f => eqO (PySem.W.findIn K (.ref C) f) (some none)) &&
  ms.all fun m => PySem.W.isFn K (.ref (ma K C m)) && eqO (PySem.W.findIn K (.ref C) m) (some (some (.ref (ma K C m))))))))))))))
structure ClsK (K : PySem.W.Frag) (C : Addr) (fs ms : List Str) : Prop where
  cl : Cls K C
  mkI : PySem.W.makesIn K C = true
  kp : PySem.W.keepIn K (.ref C) = true
  ins : C8.InsC K C
  ty : PySem.W.typeIn K (.ref C) = some (.type "type")
  cd : ∃ cd, PySem.W.clsIn K C = some cd
  no : ∀ f ∈ fs, NoAttr K C f
  me : ∀ m ∈ ms, ∃ a, PySem.W.findIn K (.ref C) m = some (some (.ref a)) ∧ PySem.W.isFn K (.ref a) = true
theorem clsK_of {K1 K : PySem.W.Frag} (s : Sub K1 K) {C : Addr} {fs ms : List Str} (h : clsB K1 C fs ms = true) : ClsK K C fs ms := by
  unfold clsB at h
  obtain ⟨a1, h⟩ := ba h
  obtain ⟨a2, h⟩ := ba h
  obtain ⟨a3, h⟩ := ba h
  obtain ⟨a4, h⟩ := ba h
  obtain ⟨a5, h⟩ := ba h
  obtain ⟨a6, h⟩ := ba h
  obtain ⟨a7, h⟩ := ba h
  obtain ⟨a8, h⟩ := ba h
  obtain ⟨a9, h⟩ := ba h
  obtain ⟨a10, h⟩ := ba h
  obtain ⟨a11, a12⟩ := ba h
  obtain ⟨c1, c2⟩ := ba a8
  have c : Cls K1 C := ⟨a1, a2, a3, eqO_ok a4⟩
  have i : C8.InsC K1 C := ⟨c, eqO_ok a7, of_decide_eq_true c1, of_decide_eq_true c2, of_decide_eq_true a9, by
    unfold PySem.W.kitOne
    rw [if_pos (by simp)]⟩
  obtain ⟨cd, hc, _⟩ := PySem.W.any_some a2
  refine ⟨cls s c, makes s a5, s.keep a6, insC s i, s.typ (of_decide_eq_true a10), ⟨cd, s.cls hc⟩, fun f hf => s.find (eqO_ok (List.all_eq_true.mp a11 f hf)), fun m hm => ?_⟩
  obtain ⟨q1, q2⟩ := ba (List.all_eq_true.mp a12 m hm)
  exact ⟨_, s.find (eqO_ok q2), isFn s q1⟩
/-- isinstance of an instance of C, of another own class D -/
theorem kit_no {K : PySem.W.Frag} {C D : Addr} {fs' ms' : List Str} (y : ClsK K D fs' ms') (ne : C ≠ D) (h : PySem.W.mroIn K C (.ref D) = some false) : PySem.W.kitOne K (.ref C) (.ref D) = some false := by
  unfold PySem.W.kitOne
  have n : (Value.ref C == Value.ref D) = false := by simpa using ne
  rw [n, if_neg Bool.false_ne_true]
  obtain ⟨cd, hc⟩ := y.cd
  have e2 : ((PySem.W.clsIn K D).isSome && PySem.W.typeIn K (.ref D) == some (.type "type")) = true := by rw [hc, y.ty] <;> rfl
  show (if ((PySem.W.clsIn K D).isSome && PySem.W.typeIn K (.ref D) == some (.type "type")) = true then PySem.W.subIn K (.ref C) (.ref D) else none) = _
  rw [if_pos e2]
  exact h
end Hu
set_option maxHeartbeats 0
namespace My
open PySem PySem.Spec PyProof.Rows L2 He Hm Hu
def dFn (x : Str) (st : Stmt) : Hu.Fn := ⟨x, none, x, x, defArgs st, defBody st, defScope st, [], false⟩
def mFn (x m qual : Str) (st : Stmt) (ds : List V) : Hu.Fn := ⟨x, some m, m, qual, defArgs st, defBody st, defScope st, ds, false⟩
def pFn (x m qual : Str) (st : Stmt) : Hu.Fn := ⟨x, some m, m, qual, defArgs st, defBody st, defScope st, [], true⟩
def fns : List Hu.Fn := [dFn "deed_after" (topS 1), dFn "power_of" (topS 2), dFn "form_value" (topS 4), dFn "form_sum" (topS 5), dFn "form_gap" (topS 6), dFn "length_choices" (topS 7), dFn "class_rows" (topS 8), dFn "least_class_row" (topS 9), dFn "next_class_row" (topS 10), dFn "class_from" (topS 11), dFn "_law_source" (topS 13), dFn "_law_take" (topS 14), dFn "_law_after" (topS 15), dFn "_law_power" (topS 16), dFn "_law_value" (topS 17), dFn "_law_lengths_right" (topS 18), dFn "_law_form" (topS 19), dFn "_law_forms" (topS 20), dFn "_law_all_rows" (topS 21), dFn "_law_sums_right" (topS 22), dFn "law" (topS 23)]
def mkG (x : Str) : Itm := ⟨x, 0, fun _ _ _ => true⟩
def neB (K : PySem.W.Frag) (a : Addr) : Bool := true
def mkC (x : Str) (fs ms others : List Str) : Itm := ⟨x, 3, fun γ K a => clsB K a fs ms && ((others.all fun y => decide (a ≠ γ y) && decide (PySem.W.mroIn K a (.ref (γ y)) = some false)) && neB K a)⟩
def its : List Itm := [mkG "deed_after", mkG "power_of", mkG "form_value", mkG "form_sum", mkG "form_gap", mkG "length_choices", mkG "class_rows", mkG "least_class_row", mkG "next_class_row", mkG "class_from", mkG "_law_source", mkG "_law_take", mkG "_law_after", mkG "_law_power", mkG "_law_value", mkG "_law_lengths_right", mkG "_law_form", mkG "_law_forms", mkG "_law_all_rows", mkG "_law_sums_right", mkG "law"]
def frees : List Str := ["len", "int", "bool", "list", "tuple", "isinstance", "all", "range", "min", "enumerate", "zip", "any", "sum", "max", "sorted", "dict", "repr"]
def ex (_ : Str → Addr) : Bool := true
abbrev R : PySem.W.OpenRow := PySem.W.OpenLaw.row PySem.Challenge.rw_pressedwords_k22_whole_lengths_and_class
abbrev hk : PySem.W.Hook := Hu.hookS its fns frees ex
def ob (s : PySem.W.SharedT) : AlD := Hu.obsS its fns frees ex (HandSHeadRun.getT s)
theorem ob_eq (s : PySem.W.SharedT) : ob s = hk.obs s.abs := Hu.obsS_eq (HandSHeadRun.getT_eq s)
def nm0 : List PySem.Str := ["deed_after", "power_of", "form_value", "form_sum", "form_gap", "length_choices", "class_rows", "least_class_row", "next_class_row", "class_from", "_law_source", "_law_take", "_law_after", "_law_power", "_law_value", "_law_lengths_right", "_law_form", "_law_forms", "_law_all_rows", "_law_sums_right"]
def loose : List PySem.Str := nm0
theorem run (w : World) : HandSHeadRun.RunEq R (PySem.W.view R.prog [23]) hk ob 12500 loose w := by
  intro os
  kernel_rfl
section
variable {P : Program} {w : World} {K : PySem.W.Frag} {h : Heap} {mg : Str → Option Value}
theorem dn_of (X : K.In h) (G : h.Ns mainGlobals mg) (c : Hu.SaysS its fns frees ex K) (j : Nat) {x : Str} {st : Stmt} {ps : List Str} (hf : fns[j]? = some (dFn x st)) (hi : its[j]? = some (mkG x))
    (hb : ∀ (kV doc pm : Value) (an : Option Addr) (cdv ct : Value) (us : List Value), us.length = ps.length → bindArgs (PySem.W.fnOf x x (defArgs st) (defBody st) (defScope st) .none kV doc pm an cdv ct) ⟨us, []⟩ = pure (ps.zip us)) : ∃ D : Dn K mg x st ps, D.f = ga K x := by
  obtain ⟨a, fd, F, ha, _⟩ := c.fn j _ hf ⟨_, _, hi, rfl⟩
  have e : a = ga K x := ha rfl
  subst e
  exact ⟨⟨_, fd, F, PySem.W.mg_of X G (c.glo j _ hi), FunD.bindsN F hb⟩, rfl⟩
theorem fr_of (X : K.In h) (G : h.Ns mainGlobals mg) (c : Hu.SaysS its fns frees ex K) {x : Str} (hx : x ∈ frees) : mg x = none := PySem.W.mg_none_of X G (c.free x hx)
theorem cl_of (X : K.In h) (G : h.Ns mainGlobals mg) (c : Hu.SaysS its fns frees ex K) (j : Nat) {x : Str} {fs ms others : List Str} (hi : its[j]? = some (mkC x fs ms others)) : mg x = some (.ref (ga K x)) ∧ ClsK K (ga K x) fs ms := by
  obtain ⟨γ, hγ, _⟩ := c.it
  obtain ⟨_, K1, s1, q⟩ := hγ j _ hi
  exact ⟨PySem.W.mg_of X G (c.glo j _ hi), clsK_of s1 (ba (show (clsB K1 (ga K x) fs ms && _) = true from q)).1⟩
theorem no_of (c : Hu.SaysS its fns frees ex K) (j i : Nat) {x y : Str} {fs ms os fs' ms' os' : List Str} (hj : its[j]? = some (mkC x fs ms os)) (hi : its[i]? = some (mkC y fs' ms' os')) (hy : y ∈ os) (k : ClsK K (ga K y) fs' ms') : PySem.W.kitOne K (.ref (ga K x)) (.ref (ga K y)) = some false := by
  obtain ⟨γ, hγ, _⟩ := c.it
  obtain ⟨_, K1, s1, q⟩ := hγ j _ hj
  have e : γ y = ga K y := (hγ i _ hi).1
  obtain ⟨q1, q2⟩ := ba (List.all_eq_true.mp (ba (ba (show (clsB K1 (ga K x) fs ms && ((os.all fun y => decide (ga K x ≠ γ y) && decide (PySem.W.mroIn K1 (ga K x) (.ref (γ y)) = some false)) && neB K1 (ga K x))) = true from q)).2).1 y hy)
  have q1 := of_decide_eq_true q1
  have q2 := of_decide_eq_true q2
  rw [e] at q1 q2
  exact kit_no k q1 (s1.mro q2)
theorem me_of (c : Hu.SaysS its fns frees ex K) (j i : Nat) {x m qual : Str} {st : Stmt} {ds : List V} {it : Itm} (hf : fns[j]? = some (mFn x m qual st ds)) (hi : its[i]? = some it) (hx : it.x = x) : ∃ a fd, FunD K m qual (defArgs st) (defBody st) (defScope st) ds [] a fd ∧ PySem.W.findIn K (.ref (ga K x)) m = some (some (.ref a)) := by
  obtain ⟨a, fd, F, _, hm, _⟩ := c.fn j _ hf ⟨_, _, hi, hx⟩
  exact ⟨a, fd, F, hm m rfl rfl⟩
theorem pr_of (c : Hu.SaysS its fns frees ex K) (j i : Nat) {x m qual : Str} {st : Stmt} {it : Itm} (hf : fns[j]? = some (pFn x m qual st)) (hi : its[i]? = some it) (hx : it.x = x) : ∃ a fd, FunD K m qual (defArgs st) (defBody st) (defScope st) [] [] a fd ∧ ∃ p, PropOf K (ga K x) m p a := by
  obtain ⟨a, fd, F, _, _, hp⟩ := c.fn j _ hf ⟨_, _, hi, hx⟩
  exact ⟨a, fd, F, hp m rfl rfl⟩
theorem law_fn (X : K.In h) (G : h.Ns mainGlobals mg) (c : Hu.SaysS its fns frees ex K) {fa : Addr} (hfa : mg ("law" : Str) = some (.ref fa)) : ∃ fd : FuncData, (∀ (s : Shared) (v : Value), BindsTo s fd ⟨[v], []⟩ [("_law_script", v)]) ∧ ∀ base : Heap, K.In base → base.Ns mainGlobals mg → FnOk P w K mg base CX0 8 fa fd ["_law_script"] (sp_law K) := by
  obtain ⟨D_deed_after, _⟩ := dn_of (st := s_deed_after) (ps := ["first", "then"]) X G c 0 (x := "deed_after") rfl rfl fun _ _ _ _ _ _ us hl => match us, hl with | [_, _], _ => rfl
  obtain ⟨D_power_of, _⟩ := dn_of (st := s_power_of) (ps := ["deed"]) X G c 1 (x := "power_of") rfl rfl fun _ _ _ _ _ _ us hl => match us, hl with | [_], _ => rfl
  obtain ⟨D_form_value, _⟩ := dn_of (st := s_form_value) (ps := ["form", "numbers"]) X G c 2 (x := "form_value") rfl rfl fun _ _ _ _ _ _ us hl => match us, hl with | [_, _], _ => rfl
  obtain ⟨D_form_sum, _⟩ := dn_of (st := s_form_sum) (ps := ["forms", "many"]) X G c 3 (x := "form_sum") rfl rfl fun _ _ _ _ _ _ us hl => match us, hl with | [_, _], _ => rfl
  obtain ⟨D_form_gap, _⟩ := dn_of (st := s_form_gap) (ps := ["one", "other"]) X G c 4 (x := "form_gap") rfl rfl fun _ _ _ _ _ _ us hl => match us, hl with | [_, _], _ => rfl
  obtain ⟨D_length_choices, _⟩ := dn_of (st := s_length_choices) (ps := ["deed"]) X G c 5 (x := "length_choices") rfl rfl fun _ _ _ _ _ _ us hl => match us, hl with | [_], _ => rfl
  obtain ⟨D_class_rows, _⟩ := dn_of (st := s_class_rows) (ps := ["forms"]) X G c 6 (x := "class_rows") rfl rfl fun _ _ _ _ _ _ us hl => match us, hl with | [_], _ => rfl
  obtain ⟨D_least_class_row, _⟩ := dn_of (st := s_least_class_row) (ps := ["begin", "factor_rows"]) X G c 7 (x := "least_class_row") rfl rfl fun _ _ _ _ _ _ us hl => match us, hl with | [_, _], _ => rfl
  obtain ⟨D_next_class_row, _⟩ := dn_of (st := s_next_class_row) (ps := ["row", "factor_rows"]) X G c 8 (x := "next_class_row") rfl rfl fun _ _ _ _ _ _ us hl => match us, hl with | [_, _], _ => rfl
  obtain ⟨D_class_from, _⟩ := dn_of (st := s_class_from) (ps := ["least", "row", "factor_rows"]) X G c 9 (x := "class_from") rfl rfl fun _ _ _ _ _ _ us hl => match us, hl with | [_, _, _], _ => rfl
  obtain ⟨D__law_source, _⟩ := dn_of (st := s__law_source) (ps := ["_law_script"]) X G c 10 (x := "_law_source") rfl rfl fun _ _ _ _ _ _ us hl => match us, hl with | [_], _ => rfl
  obtain ⟨D__law_take, _⟩ := dn_of (st := s__law_take) (ps := ["_law_source_here", "_law_many"]) X G c 11 (x := "_law_take") rfl rfl fun _ _ _ _ _ _ us hl => match us, hl with | [_, _], _ => rfl
  obtain ⟨D__law_after, _⟩ := dn_of (st := s__law_after) (ps := ["_law_first", "_law_then"]) X G c 12 (x := "_law_after") rfl rfl fun _ _ _ _ _ _ us hl => match us, hl with | [_, _], _ => rfl
  obtain ⟨D__law_power, _⟩ := dn_of (st := s__law_power) (ps := ["_law_deed", "_law_many"]) X G c 13 (x := "_law_power") rfl rfl fun _ _ _ _ _ _ us hl => match us, hl with | [_, _], _ => rfl
  obtain ⟨D__law_value, _⟩ := dn_of (st := s__law_value) (ps := ["_law_form_here", "_law_numbers"]) X G c 14 (x := "_law_value") rfl rfl fun _ _ _ _ _ _ us hl => match us, hl with | [_, _], _ => rfl
  obtain ⟨D__law_lengths_right, _⟩ := dn_of (st := s__law_lengths_right) (ps := ["_law_source_here"]) X G c 15 (x := "_law_lengths_right") rfl rfl fun _ _ _ _ _ _ us hl => match us, hl with | [_], _ => rfl
  obtain ⟨D__law_form, _⟩ := dn_of (st := s__law_form) (ps := ["_law_source_here", "_law_many"]) X G c 16 (x := "_law_form") rfl rfl fun _ _ _ _ _ _ us hl => match us, hl with | [_, _], _ => rfl
  obtain ⟨D__law_forms, _⟩ := dn_of (st := s__law_forms) (ps := ["_law_source_here", "_law_many"]) X G c 17 (x := "_law_forms") rfl rfl fun _ _ _ _ _ _ us hl => match us, hl with | [_, _], _ => rfl
  obtain ⟨D__law_all_rows, _⟩ := dn_of (st := s__law_all_rows) (ps := ["_law_forms_here"]) X G c 18 (x := "_law_all_rows") rfl rfl fun _ _ _ _ _ _ us hl => match us, hl with | [_], _ => rfl
  obtain ⟨D__law_sums_right, _⟩ := dn_of (st := s__law_sums_right) (ps := ["_law_source_here", "_law_forms_here", "_law_many"]) X G c 19 (x := "_law_sums_right") rfl rfl fun _ _ _ _ _ _ us hl => match us, hl with | [_, _, _], _ => rfl
  obtain ⟨D_law, _⟩ := dn_of (st := s_law) (ps := ["_law_script"]) X G c 20 (x := "law") rfl rfl fun _ _ _ _ _ _ us hl => match us, hl with | [_], _ => rfl
  have e_law : fa = D_law.f := by
    have e := hfa.symm.trans D_law.m
    exact Value.ref.inj (Option.some.inj e)
  subst e_law
  have fr : ∀ {x : Str}, x ∈ frees → mg x = none := fun hx => fr_of X G c hx
  have T : TB mg := ⟨fr (by decide +kernel), fr (by decide +kernel), fr (by decide +kernel), fr (by decide +kernel), fr (by decide +kernel), fr (by decide +kernel), fr (by decide +kernel), fr (by decide +kernel), fr (by decide +kernel), fr (by decide +kernel), fr (by decide +kernel), fr (by decide +kernel), fr (by decide +kernel), fr (by decide +kernel), fr (by decide +kernel), fr (by decide +kernel), fr (by decide +kernel)⟩
  have b := FunD.bindsA (ps := ["_law_script"]) D_law.F fun _ _ _ _ _ _ us hl => match us, hl with | [_], _ => rfl
  exact ⟨D_law.fd, fun s v => b s [v] rfl, fun base _ _ => by
    have G_deed_after := ok_deed_after (P := P) (w := w) (base := base) D_deed_after T
    have G_form_gap := ok_form_gap (P := P) (w := w) (base := base) D_form_gap T
    have G_form_value := ok_form_value (P := P) (w := w) (base := base) D_form_value T
    have G_class_from := ok_class_from (P := P) (w := w) (base := base) D_class_from T
    have G_least_class_row := ok_least_class_row (P := P) (w := w) (base := base) D_least_class_row D_class_from G_class_from T
    have G_next_class_row := ok_next_class_row (P := P) (w := w) (base := base) D_next_class_row D_class_from G_class_from D_least_class_row G_least_class_row T
    have G_class_rows := ok_class_rows (P := P) (w := w) (base := base) D_class_rows D_least_class_row G_least_class_row D_next_class_row G_next_class_row T
    have G_power_of := ok_power_of (P := P) (w := w) (base := base) D_power_of D_deed_after G_deed_after T
    have G_length_choices := ok_length_choices (P := P) (w := w) (base := base) D_length_choices D_power_of G_power_of T
    have G_form_sum := ok_form_sum (P := P) (w := w) (base := base) D_form_sum T
    have G__law_source := ok_source (P := P) (w := w) (base := base) D__law_source.F T
    have G__law_take := ok_takeD (P := P) (w := w) (base := base) D__law_take T
    have G__law_after := ok__law_after (P := P) (w := w) (base := base) D__law_after T
    have G__law_power := ok__law_power (P := P) (w := w) (base := base) D__law_power D__law_after G__law_after T
    have G__law_value := ok__law_value (P := P) (w := w) (base := base) D__law_value T
    have G__law_lengths_right := ok__law_lengths_right (P := P) (w := w) (base := base) D__law_lengths_right D__law_take G__law_take D_length_choices G_length_choices D__law_power G__law_power T
    have G__law_form := ok__law_form (P := P) (w := w) (base := base) D__law_form D__law_take G__law_take T
    have G__law_forms := ok__law_forms (P := P) (w := w) (base := base) D__law_forms D__law_take G__law_take D__law_form G__law_form T
    have G__law_all_rows := ok__law_all_rows (P := P) (w := w) (base := base) D__law_all_rows T
    have G__law_sums_right := ok__law_sums_right (P := P) (w := w) (base := base) D__law_sums_right D__law_take G__law_take D_form_value G_form_value D__law_value G__law_value D_form_sum G_form_sum D_form_gap G_form_gap T
    have G_law := ok_law (P := P) (w := w) (base := base) D_law D__law_source G__law_source D__law_lengths_right G__law_lengths_right D__law_take G__law_take D__law_forms G__law_forms D__law_all_rows G__law_all_rows D__law_sums_right G__law_sums_right D_class_rows G_class_rows T
    exact G_law⟩
end
end My
open PySem PySem.W PySem.Calls PyProof.Rows
set_option maxRecDepth 100000 in
set_option maxHeartbeats 0 in
theorem PySem.Challenge.cw_pressedwords_k22_whole_lengths_and_class_holds : PySem.Challenge.rw_pressedwords_k22_whole_lengths_and_class.Holds := by
  w_on; o_law
  refine HandSHeadRun.head_any (r := OpenLaw.row PySem.Challenge.rw_pressedwords_k22_whole_lengths_and_class) (q := view (OpenLaw.row PySem.Challenge.rw_pressedwords_k22_whole_lengths_and_class).prog [23]) (H := My.hk) (ob := My.ob) (M := 12500) (loose := My.loose) (d := HandSHeadRun.topDef (OpenLaw.row PySem.Challenge.rw_pressedwords_k22_whole_lengths_and_class).prog 23) (kwd := []) My.ob_eq
    (by kernel_rfl) (fun s => by kernel_rfl) My.run (by kernel_rfl) (by kernel_rfl) (by kernel_rfl) (by rfl) (by first | assumption | decide +kernel) (by decide +kernel) ⟨rfl, rfl, rfl, rfl, rfl, by decide +kernel⟩ ?hw ?hc
  case hw => w_witness2
  case hc =>
    refine L2.walk_ofE (l := PySem.Challenge.rw_pressedwords_k22_whole_lengths_and_class) (n := 63) (k := 8) (x := "_law_script") (CX := L2.CX0) rfl (by decide) (by kernel_rfl) ⟨rfl, by decide, by decide⟩ ?F (fun _ _ _ _ z => z)
    intro w mg fa h Y G hmg0
    obtain ⟨K, KX, c⟩ := Y
    have hmg : mg ("law" : PySem.Str) = some (.ref fa) := by
      have e : (HandSHeadRun.topDef (OpenLaw.row PySem.Challenge.rw_pressedwords_k22_whole_lengths_and_class).prog 23).name = ("law" : PySem.Str) := by kernel_rfl
      rw [← e]
      exact hmg0
    obtain ⟨fd, hb, hF⟩ := My.law_fn (P := (PySem.Challenge.rw_pressedwords_k22_whole_lengths_and_class).prog) (w := w) KX G c hmg
    exact ⟨K, fd, My.sp_law K, KX, hb, fun H a ns hl _ hS => ⟨a, ns, rfl, hS, fun _ => rfl⟩, hF⟩
